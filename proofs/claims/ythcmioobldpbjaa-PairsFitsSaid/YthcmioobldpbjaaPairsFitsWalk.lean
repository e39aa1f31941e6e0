/- The walk of PairsFits. -/
import Derived.Test.YthcmioobldpbjaaPh
namespace Go.Proofs.Ythcmioobldpbjaa.pairsFits
open Go.RowKit

/-- All empty pieces, by their number. -/
def Empty (m : Nat) (w : World) (e : Ending) (w' : World) : Prop := ∃ A C, e = .returned (.slice A m C) ∧ Ps w' w'.heap.size A (empties m) ∧ Below w.heap.size w w'
theorem emp_all (n : Int) (m : Nat) (hm : Hid (m = (n + 1).toNat)) (w : World) (h : n ≤ 400) : Calls Try.prog 16 #[.int .i64 n] w (Empty m w) := by
  have hm' := hm.out
  by_cases h0 : n < 0
  · obtain rfl : m = 0 := by omega
    exact (empties_neg n w h0).mono fun _ _ ⟨a, c, he, _, _, hp, hb⟩ => ⟨a, c, he, hp, hb⟩
  · obtain ⟨k, rfl⟩ : ∃ k : Nat, n = (k : Int) := ⟨n.toNat, by omega⟩
    obtain rfl : m = k + 1 := by omega
    refine (empties_any k w (by omega)).mono fun _ _ ⟨a, c, he, _, _, hp, hb⟩ => ⟨a, c, ?_, hp, hb⟩
    rw [he, empties_length]
theorem fits_r (xs : List Pr) (n : Int) (r : Bool) (h : Hid (fits xs n = r)) (a : Option Addr) (ca : Nat) (w : World) (hl : xs.length ≤ 1000000000) (hx : Ps w w.heap.size a xs) :
    Calls Try.prog 17 #[.slice a xs.length ca, .int .i64 n] w fun e w' => e = .returned (.bool r) ∧ Below w.heap.size w w' := by
  have := fits_any xs a ca n w hl hx
  rwa [h.out] at this
theorem rising_yes (xs : List Pr) (h : rising xs = true) (a : Option Addr) (ca : Nat) (w : World) (hl : xs.length ≤ 1000000000) (hx : Ps w w.heap.size a xs) :
    Calls Try.prog 14 #[.slice a xs.length ca] w fun e w' => e = .returned (.bool true) ∧ Below w.heap.size w w' := by
  have := rising_any xs a ca w hl hx
  rwa [h] at this
theorem fits_m (m : Nat) (n : Int) (h : Hid (fits (empties m) n = true)) (a : Option Addr) (ca : Nat) (w : World) (hm : m ≤ 1000000000) (hx : Ps w w.heap.size a (empties m)) :
    Calls Try.prog 17 #[.slice a m ca, .int .i64 n] w fun e w' => e = .returned (.bool true) ∧ Below w.heap.size w w' := by
  have := fits_r (empties m) n true h a ca w (by rw [empties_length]; exact hm) hx
  rwa [empties_length] at this
theorem rising_m (m : Nat) (a : Option Addr) (ca : Nat) (w : World) (hm : m ≤ 1000000000) (hx : Ps w w.heap.size a (empties m)) :
    Calls Try.prog 14 #[.slice a m ca] w fun e w' => e = .returned (.bool true) ∧ Below w.heap.size w w' := by
  have := rising_yes (empties m) (empties_rise m) a ca w (by rw [empties_length]; exact hm) hx
  rwa [empties_length] at this
theorem fit_iff (n : Int) (p : Pr) : fit n p = (decide (0 ≤ p.s) && decide (p.s ≤ p.e) && decide (p.e ≤ n)) := by
  rw [Bool.eq_iff_iff]; simp [fit]
set_option maxRecDepth 100000 in
set_option maxHeartbeats 4000000 in
theorem small (W : World) (l0 : List Pr) (a0 : Option Addr) (c0 : Nat) (hp0 : Ps W W.heap.size a0 l0) (n : Int) (hn0 : -32768 ≤ n) (h0 : l0.length ≤ 60) (h1 : n ≤ 400) :
    Calls Try.prog 7 #[.slice a0 l0.length c0, .int .i16 n] W fun e w' => e = .returned (.bool true) ∧ Below W.heap.size W w' := by
  have P0 := Lib.hid hp0
  clear hp0
  have hd0 : decide (60 < (l0.length : Int)) = false := by simp; omega
  have hd1 : decide (400 < n) = false := by simp; omega
  obtain ⟨r, hr⟩ : ∃ r, fits l0 n = r := ⟨_, rfl⟩
  have HR := Lib.hid hr
  obtain ⟨m, hm⟩ : ∃ m, m = (n + 1).toNat := ⟨_, rfl⟩
  have HM := Lib.hid hm
  have hm2 : m ≤ 401 := by omega
  have hx1 : ((m : Int) != if n + 1 < 0 then 0 else n + 1) = false := by
    split <;> simp <;> omega
  clear hr hm
  go_enter Try.func7, Try.ntmps7
  go_wp2_with (go_at_call 8; ((with_reducible refine (awake_any W).mono ?_)); rintro e w1 ⟨rfl, hb1⟩)
  go_loopw [6, 7] (fun v i wr => ∃ k : Nat, k ≤ l0.length ∧ i = .int .i64 (k : Int) ∧ v = .bool (fits (l0.take k) n) ∧ Below W.heap.size W wr) (fun _ i _ => l0.length - (intOf i).toNat)
  case atStart => exact ⟨0, Nat.zero_le _, rfl, rfl, hb1⟩
  case round =>
    obtain ⟨k, hk, rfl, rfl, hbel⟩ := hrel
    by_cases hlt : k < l0.length
    · obtain ⟨b1, o1, rfl, _, hcell⟩ := (P0.out.keep hbel) (by omega)
      obtain ⟨h11, h12⟩ := hcell k hlt
      clear hcell
      have hkl : (k : Int) < (l0.length : Int) := by omega
      have HS := Lib.hid (fits_take_succ l0 n k hlt)
      rw [fit_iff] at HS
      generalize l0[k] = p at *
      cases hf : fits (l0.take k) n
      · have HN : Hid (fits (l0.take (k + 1)) n = false) := Lib.hid (by rw [HS.out, hf]; simp)
        clear hf HS
        go_wp2
        go_quiet (fail)
        go_wp2
        go_roundw
        case rel => exact ⟨k + 1, by omega, by go_num, by rw [HN.out], below_drews hbel nq⟩
        case measure => simp [intOf]; omega
      · by_cases g1 : 0 ≤ p.s
        · have d1 : decide (0 ≤ p.s) = true := by simpa using g1
          by_cases g2 : p.s ≤ p.e
          · have d2 : decide (p.s ≤ p.e) = true := by simpa using g2
            by_cases g3 : p.e ≤ n
            · have d3 : decide (p.e ≤ n) = true := by simpa using g3
              have HN : Hid (fits (l0.take (k + 1)) n = true) := Lib.hid (by rw [HS.out, hf, d1, d2, d3]; simp)
              clear hf HS g1 g2 g3
              go_wp2
              go_quiet (fail)
              go_wp2
              go_roundw
              case rel => exact ⟨k + 1, by omega, by go_num, by rw [HN.out], below_drews hbel nq⟩
              case measure => simp [intOf]; omega
            · have d3 : decide (p.e ≤ n) = false := by simpa using g3
              have HN : Hid (fits (l0.take (k + 1)) n = false) := Lib.hid (by rw [HS.out, hf, d3]; simp)
              clear hf HS g1 g2 g3
              go_wp2
              go_quiet (fail)
              go_wp2
              go_roundw
              case rel => exact ⟨k + 1, by omega, by go_num, by rw [HN.out], below_drews hbel nq⟩
              case measure => simp [intOf]; omega
          · have d2 : decide (p.s ≤ p.e) = false := by simpa using g2
            have HN : Hid (fits (l0.take (k + 1)) n = false) := Lib.hid (by rw [HS.out, hf, d2]; simp)
            clear hf HS g1 g2
            go_wp2
            go_quiet (fail)
            go_wp2
            go_roundw
            case rel => exact ⟨k + 1, by omega, by go_num, by rw [HN.out], below_drews hbel nq⟩
            case measure => simp [intOf]; omega
        · have d1 : decide (0 ≤ p.s) = false := by simpa using g1
          have HN : Hid (fits (l0.take (k + 1)) n = false) := Lib.hid (by rw [HS.out, hf, d1]; simp)
          clear hf HS g1
          go_wp2
          go_quiet (fail)
          go_wp2
          go_roundw
          case rel => exact ⟨k + 1, by omega, by go_num, by rw [HN.out], below_drews hbel nq⟩
          case measure => simp [intOf]; omega
    · have e : l0.take k = l0 := List.take_of_length_le (by omega)
      rw [e, HR.out]
      clear e
      go_wp2_with (first
        | (go_at_call 16; ((with_reducible refine (emp_all n m HM wr h1).mono ?_)); rintro e w2 ⟨A2, C2, rfl, e23, hb2⟩; have b2 := hbel.trans (hb2.mono hbel.size); have P2 := Lib.hid e23; clear e23)
        | (go_at_call 17; ((with_reducible refine (fits_r l0 n r HR a0 c0 w2 (by omega) (P0.out.keeps b2)).mono ?_)); rintro e w3 ⟨rfl, hb3⟩; have b3 := b2.trans (hb3.mono b2.size); have P3 := Lib.hid (P2.out.keeps hb3)))
      all_goals
        have FE : Hid (fits (empties m) n = true) := Lib.hid (by
          have := HM.out
          by_cases h9 : 0 ≤ n + 1
          · exact empties_fit m n (by omega)
          · obtain rfl : m = 0 := by omega
            rfl)
        have RE := Lib.hid (empties_rise m)
        have LE := Lib.hid (empties_length m)
        go_loop [9] (fun i => ∃ k : Nat, k ≤ m ∧ i = .int .i64 (k : Int)) (fun i => m - (intOf i).toNat)
        case atStart => exact ⟨0, Nat.zero_le _, rfl⟩
        case round =>
          obtain ⟨j, hj, rfl⟩ := hrel
          by_cases hjm : j < m
          · obtain ⟨b2, o2, rfl, _, hcell⟩ := P3.out (by rw [LE.out]; omega)
            obtain ⟨g1, g2⟩ := hcell j (by rw [LE.out]; exact hjm)
            rw [empties_at m j hjm] at g1 g2
            have hjl : (j : Int) < (m : Int) := by omega
            clear hcell
            go_wp2
            go_round
            case rel => exact ⟨j + 1, by omega, by go_num⟩
            case measure => simp [intOf]; omega
          · have hjl : ¬ (j : Int) < (m : Int) := by omega
            go_wp2_with (first
              | (go_at_call 17; ((with_reducible refine (fits_m m n FE A2 C2 w3 (by omega) P3.out).mono ?_)); rintro e w4 ⟨rfl, hb4⟩; have b4 := b3.trans (hb4.mono b3.size))
              | (go_at_call 14; ((with_reducible refine (rising_m m A2 C2 w4 (by omega) (P3.out.keeps hb4)).mono ?_)); rintro e w5 ⟨rfl, hb5⟩; have b5 := b4.trans (hb5.mono b4.size)))
            go_ret
            exact ⟨rfl, b5⟩
theorem walk (W : World) (l0 : List Pr) (a0 : Option Addr) (c0 : Nat) (hp0 : Ps W W.heap.size a0 l0) (n : Int) (hn0 : -32768 ≤ n) :
    Calls Try.prog 7 #[.slice a0 l0.length c0, .int .i16 n] W fun e w' => e = .returned (.bool true) ∧ Below W.heap.size W w' := by
  by_cases h : l0.length ≤ 60 ∧ n ≤ 400
  · exact small W l0 a0 c0 hp0 n hn0 h.1 h.2
  · clear hp0
    by_cases h0 : 60 < l0.length
    · clear h
      go_enter Try.func7, Try.ntmps7
      go_wp2_with (go_at_call 8; ((with_reducible refine (awake_any W).mono ?_)); rintro e w1 ⟨rfl, hb1⟩)
      go_ret
      exact ⟨rfl, hb1⟩
    · have h1 : 400 < n := by omega
      clear h
      go_enter Try.func7, Try.ntmps7
      go_wp2_with (go_at_call 8; ((with_reducible refine (awake_any W).mono ?_)); rintro e w1 ⟨rfl, hb1⟩)
      go_ret
      exact ⟨rfl, hb1⟩
end Go.Proofs.Ythcmioobldpbjaa.pairsFits
