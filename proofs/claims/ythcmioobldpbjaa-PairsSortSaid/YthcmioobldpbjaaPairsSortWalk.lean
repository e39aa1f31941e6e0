/- The walk of PairsSort. -/
import Derived.Test.YthcmioobldpbjaaPh
namespace Go.Proofs.Ythcmioobldpbjaa.pairsSort
open Go.RowKit

theorem same_r (xs ys : List Pr) (r : Bool) (h : Hid (r = decide (xs = ys))) (a b : Option Addr) (ca cb : Nat) (w : World) (hl : xs.length ≤ 1000000000) (hx : Ps w w.heap.size a xs) (hy : Ps w w.heap.size b ys) :
    Calls Try.prog 11 #[.slice a xs.length ca, .slice b ys.length cb] w fun e w' => e = .returned (.bool r) ∧ Below w.heap.size w w' :=
  (same_b xs ys a b ca cb w hl hx hy).mono fun _ _ ⟨he, hb⟩ => ⟨by rw [he, h.out], hb⟩
theorem rising_r (xs : List Pr) (r : Bool) (h : Hid (r = decide (xs = norm xs))) (a : Option Addr) (ca : Nat) (w : World) (hl : xs.length ≤ 1000000000) (hx : Ps w w.heap.size a xs) :
    Calls Try.prog 14 #[.slice a xs.length ca] w fun e w' => e = .returned (.bool r) ∧ Below w.heap.size w w' :=
  (rising_any xs a ca w hl hx).mono fun _ _ ⟨he, hb⟩ => ⟨by rw [he, h.out, rising_iff], hb⟩
theorem norm_more_snoc (l m : List Pr) (k : Nat) (h : k < m.length) : norm (l ++ m.take (k + 1)) = put (norm (l ++ m.take k)) m[k] := by
  rw [List.take_succ_eq_append_getElem h, ← List.append_assoc, norm_append]; rfl
/-- The pairs of both so far. -/
def Both (w2 : World) (l0 l1 : List Pr) (s7 s8 : Value) (wr : World) : Prop :=
  ∃ (k : Nat) (A : Option Addr) (c : Nat), k ≤ l1.length ∧ s8 = .int .i64 (k : Int) ∧ s7 = .slice A (norm (l0 ++ l1.take k)).length c ∧ (A = none → c = 0) ∧ Ps wr wr.heap.size A (norm (l0 ++ l1.take k)) ∧ Below w2.heap.size w2 wr
set_option maxRecDepth 100000 in
set_option maxHeartbeats 4000000 in
theorem small (W : World) (l0 l1 : List Pr) (a0 a1 : Option Addr) (c0 c1 : Nat) (hc0 : l0.length ≤ c0) (hc1 : l1.length ≤ c1) (hn0 : a0 = none → c0 = 0) (hn1 : a1 = none → c1 = 0)
    (hp0 : Ps W W.heap.size a0 l0) (hp1 : Ps W W.heap.size a1 l1) (h0 : l0.length ≤ 60) (h1 : l1.length ≤ 60) :
    Calls Try.prog 3 #[.slice a0 l0.length c0, .slice a1 l1.length c1] W fun e w' => e = .returned (.bool true) ∧ Below W.heap.size W w' := by
  have P0 := Lib.hid hp0
  have P1 := Lib.hid hp1
  have N0 := Lib.hid hn0
  have N1 := Lib.hid hn1
  have LX := norm_length l0
  have LY := norm_length (l0 ++ l1)
  simp only [List.length_append] at LY
  obtain ⟨r, hr⟩ : ∃ r, r = decide (l0 = norm l0) := ⟨_, rfl⟩
  have HR := Lib.hid hr
  have hd0 : decide (60 < (l0.length : Int)) = false := by simp; omega
  have hd1 : decide (60 < (l1.length : Int)) = false := by simp; omega
  clear hp0 hp1 hn0 hn1 hr
  go_enter Try.func3, Try.ntmps3
  go_wp2_with (first
    | (go_at_call 8; ((with_reducible refine (awake_any W).mono ?_)); rintro e w1 ⟨rfl, hb1⟩)
    | (go_at_call 9; ((with_reducible refine (rsort_any l0 a0 c0 w1 (by omega) (P0.out.keeps hb1)).mono ?_)); rintro e w2 ⟨A2, C2, rfl, e21, e22, e23, hb2⟩; have b2 := hb1.trans (hb2.mono hb1.size); have N2 := Lib.hid e22; have P2 := Lib.hid e23; clear e22 e23))
  go_loopw [7, 8] (fun s7 s8 wr => Both w2 l0 l1 s7 s8 wr) (fun _ i _ => l1.length - (intOf i).toNat)
  case atStart => exact ⟨0, A2, C2, Nat.zero_le _, rfl, by simp, N2.out, by simpa using P2.out, Below.refl _ _⟩
  case round =>
    obtain ⟨k, A, c, hk, rfl, rfl, hnc, hps, hbel⟩ := hrel
    have b3 := b2.trans (hbel.mono b2.size)
    have HN := Lib.hid hnc
    have PY := Lib.hid hps
    clear hnc hps
    by_cases hlt : k < l1.length
    · obtain ⟨bb, oo, rfl, _, hcell⟩ := (P1.out.keeps b3) (by omega)
      obtain ⟨h11, h12⟩ := hcell k hlt
      clear hcell
      have hkl : (k : Int) < (l1.length : Int) := by omega
      have HS := Lib.hid (norm_more_snoc l0 l1 k hlt)
      have hle : (norm (l0 ++ l1.take k)).length ≤ 120 := by
        have := norm_length (l0 ++ l1.take k)
        simp only [List.length_append, List.length_take] at this
        omega
      generalize l1[k] = p at *
      generalize norm (l0 ++ l1.take k) = m at *
      go_wp2_with (go_at_call 10; ((with_reducible refine (put_any m p A c wr (by omega) PY.out).mono ?_)); rintro e w4 ⟨A4, C4, rfl, e41, e42, e43, hb4⟩)
      go_roundw
      case rel =>
        refine ⟨k + 1, A4, C4, by omega, by go_num, ?_⟩
        rw [HS.out]
        exact ⟨rfl, e42, e43, hbel.trans (hb4.mono hbel.size)⟩
      case measure => simp [intOf]; omega
    · have e : l1.take k = l1 := List.take_of_length_le (by omega)
      rw [e] at PY
      rw [e]
      clear e
      go_wp2_with (first
        | (go_at_call 11; ((with_reducible refine (same_r l0 (norm l0) r HR a0 A2 c0 C2 wr (by omega) (P0.out.keeps b3) (P2.out.keeps hbel)).mono ?_)); rintro e w4 ⟨rfl, hb4⟩; have b4 := b3.trans (hb4.mono b3.size); have q4 := hbel.trans (hb4.mono hbel.size))
        | (go_at_call 12; ((with_reducible refine (sort_all l0 a0 c0 w4 (by omega) (P0.out.keeps b4) hc0 N0.out).mono ?_)); rintro e w5 ⟨A5, C5, rfl, e51, e52, e53, hb5⟩; have b5 := b4.trans (hb5.mono b4.size); have P5 := Lib.hid e53; have q5 := q4.trans (hb5.mono q4.size); have r5 := hb4.trans (hb5.mono hb4.size); clear e52 e53)
        | (go_at_call 11; ((with_reducible refine (same_yes (norm l0) (norm l0) rfl A5 A2 C5 C2 w5 (by omega) P5.out (P2.out.keeps q5)).mono ?_)); rintro e w6 ⟨rfl, hb6⟩; have b6 := b5.trans (hb6.mono b5.size); have r6 := r5.trans (hb6.mono r5.size))
        | (go_at_call 13; ((with_reducible refine (merge_all l0 l1 a0 a1 c0 c1 w6 (by omega) (P0.out.keeps b6) (P1.out.keeps b6) hc0 hc1 N0.out N1.out).mono ?_)); rintro e w7 ⟨A7, C7, rfl, e71, e72, e73, hb7⟩; have b7 := b6.trans (hb7.mono b6.size); have P7 := Lib.hid e73; have r7 := r6.trans (hb7.mono r6.size); clear e72 e73)
        | (go_at_call 11; ((with_reducible refine (same_yes (norm (l0 ++ l1)) (norm (l0 ++ l1)) rfl A7 A C7 c w7 (by omega) P7.out (PY.out.keeps r7)).mono ?_)); rintro e w8 ⟨rfl, hb8⟩; have b8 := b7.trans (hb8.mono b7.size))
        | (go_at_call 14; ((with_reducible refine (rising_r l0 r HR a0 c0 w8 (by omega) (P0.out.keeps b8)).mono ?_)); rintro e w9 ⟨rfl, hb9⟩; have b9 := b8.trans (hb9.mono b8.size)))
      go_ret
      exact ⟨ret_bool (by simp), b9⟩
theorem walk (W : World) (l0 : List Pr) (a0 : Option Addr) (c0 : Nat) (hc0 : l0.length ≤ c0) (hn0 : a0 = none → c0 = 0) (hp0 : Ps W W.heap.size a0 l0) (l1 : List Pr) (a1 : Option Addr) (c1 : Nat) (hc1 : l1.length ≤ c1) (hn1 : a1 = none → c1 = 0) (hp1 : Ps W W.heap.size a1 l1) :
    Calls Try.prog 3 #[.slice a0 l0.length c0, .slice a1 l1.length c1] W fun e w' => e = .returned (.bool true) ∧ Below W.heap.size W w' := by
  by_cases h : l0.length ≤ 60 ∧ l1.length ≤ 60
  · exact small W l0 l1 a0 a1 c0 c1 hc0 hc1 hn0 hn1 hp0 hp1 h.1 h.2
  · clear hn0 hn1 hp0 hp1 hc0 hc1
    by_cases h0 : 60 < l0.length
    · clear h
      go_enter Try.func3, Try.ntmps3
      go_wp2_with (go_at_call 8; ((with_reducible refine (awake_any W).mono ?_)); rintro e w1 ⟨rfl, hb1⟩)
      go_ret
      exact ⟨rfl, hb1⟩
    · have h1 : 60 < l1.length := by omega
      clear h
      go_enter Try.func3, Try.ntmps3
      go_wp2_with (go_at_call 8; ((with_reducible refine (awake_any W).mono ?_)); rintro e w1 ⟨rfl, hb1⟩)
      go_ret
      exact ⟨rfl, hb1⟩
end Go.Proofs.Ythcmioobldpbjaa.pairsSort
