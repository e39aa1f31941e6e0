/- The walk of PairsMerge. -/
import Derived.Test.YthcmioobldpbjaaPh
namespace Go.Proofs.Ythcmioobldpbjaa.pairsMerge
open Go.RowKit

theorem merge_nil (l : List Pr) (a : Option Addr) (c : Nat) (w : World) (h : l.length ≤ 40) (hp : Ps w w.heap.size a l) (hc : l.length ≤ c) (hn : a = none → c = 0) :
    Calls Try.prog 13 #[.slice none 0 0, .slice a l.length c] w (Gives w (norm l)) :=
  merge_all [] l none a 0 c w (by simp; omega) (ps_nil _ _ _) hp (Nat.le_refl _) hc (fun _ => rfl) hn
set_option maxRecDepth 100000 in
set_option maxHeartbeats 4000000 in
theorem small (W : World) (l0 l1 l2 : List Pr) (a0 a1 a2 : Option Addr) (c0 c1 c2 : Nat) (hc0 : l0.length ≤ c0) (hc1 : l1.length ≤ c1) (hc2 : l2.length ≤ c2) (hn0 : a0 = none → c0 = 0) (hn1 : a1 = none → c1 = 0) (hn2 : a2 = none → c2 = 0)
    (hp0 : Ps W W.heap.size a0 l0) (hp1 : Ps W W.heap.size a1 l1) (hp2 : Ps W W.heap.size a2 l2) (h0 : l0.length ≤ 40) (h1 : l1.length ≤ 40) (h2 : l2.length ≤ 40) :
    Calls Try.prog 6 #[.slice a0 l0.length c0, .slice a1 l1.length c1, .slice a2 l2.length c2] W fun e w' => e = .returned (.bool true) ∧ Below W.heap.size W w' := by
  have P0 := Lib.hid hp0
  have P1 := Lib.hid hp1
  have P2 := Lib.hid hp2
  have N0 := Lib.hid hn0
  have N1 := Lib.hid hn1
  have N2 := Lib.hid hn2
  have l01 := norm_length (l0 ++ l1)
  have l21 := norm_length (l2 ++ l1)
  simp only [List.length_append] at l01 l21
  have L01 : (norm (l0 ++ l1)).length ≤ 80 := by omega
  have L21 : (norm (l2 ++ l1)).length ≤ 80 := by omega
  have lx := norm_length (norm (l0 ++ l1) ++ l2)
  simp only [List.length_append] at lx
  have LX : (norm (norm (l0 ++ l1) ++ l2)).length ≤ 120 := by omega
  have lz := norm_length l0
  have LZ : (norm l0).length ≤ 40 := by omega
  have EXY := Lib.hid (merge_both l0 l1 l2)
  have LEN : Hid ((norm l0).length ≤ (norm (norm (l0 ++ l1) ++ l2)).length) := Lib.hid (merge_length l0 l1 l2)
  clear hp0 hp1 hp2 hn0 hn1 hn2 l01 l21 lx lz
  go_enter Try.func6, Try.ntmps6
  go_wp2_with (first
    | (go_at_call 8; ((with_reducible refine (awake_any W).mono ?_)); rintro e w1 ⟨rfl, hb1⟩)
    | (go_at_call 13; ((with_reducible refine (merge_all l0 l1 a0 a1 c0 c1 w1 (by omega) (P0.out.keeps hb1) (P1.out.keeps hb1) hc0 hc1 N0.out N1.out).mono ?_)); rintro e w2 ⟨A2, C2, rfl, e21, e22, e23, hb2⟩; have b2 := hb1.trans (hb2.mono hb1.size); have N3 := Lib.hid e22; have P3 := Lib.hid e23; clear e22 e23)
    | (go_at_call 13; ((with_reducible refine (merge_all (norm (l0 ++ l1)) l2 A2 a2 C2 c2 w2 (by omega) P3.out (P2.out.keeps b2) e21 hc2 N3.out N2.out).mono ?_)); rintro e w3 ⟨A3, C3, rfl, e31, e32, e33, hb3⟩; have b3 := b2.trans (hb3.mono b2.size); have N4 := Lib.hid e32; have P4 := Lib.hid e33; clear e32 e33)
    | (go_at_call 13; ((with_reducible refine (merge_all l2 l1 a2 a1 c2 c1 w3 (by omega) (P2.out.keeps b3) (P1.out.keeps b3) hc2 hc1 N2.out N1.out).mono ?_)); rintro e w4 ⟨A4, C4, rfl, e41, e42, e43, hb4⟩; have b4 := b3.trans (hb4.mono b3.size); have N5 := Lib.hid e42; have P5 := Lib.hid e43; clear e42 e43)
    | (go_at_call 13; ((with_reducible refine (merge_all l0 (norm (l2 ++ l1)) a0 A4 c0 C4 w4 (by omega) (P0.out.keeps b4) P5.out hc0 e41 N0.out N5.out).mono ?_)); rintro e w5 ⟨A5, C5, rfl, e51, e52, e53, hb5⟩; have b5 := b4.trans (hb5.mono b4.size); have N6 := Lib.hid e52; have P6 := Lib.hid e53; have b35 := hb4.trans (hb5.mono hb4.size); clear e52 e53)
    | (go_at_call 13; ((with_reducible refine (merge_nil l0 a0 c0 w5 h0 (P0.out.keeps b5) hc0 N0.out).mono ?_)); rintro e w6 ⟨A6, C6, rfl, e61, e62, e63, hb6⟩; have b6 := b5.trans (hb6.mono b5.size); have N7 := Lib.hid e62; have P7 := Lib.hid e63; have b36 := b35.trans (hb6.mono b35.size); clear e62 e63)
    | (go_at_call 11; ((with_reducible refine (same_yes (norm (norm (l0 ++ l1) ++ l2)) (norm (l0 ++ norm (l2 ++ l1))) EXY.out A3 A5 C3 C5 w6 (by omega) (P4.out.keeps b36) (P6.out.keeps hb6)).mono ?_)); rintro e w7 ⟨rfl, b67⟩; have b7 := b6.trans (b67.mono b6.size))
    | (go_at_call 12; ((with_reducible refine (sort_all l0 a0 c0 w7 (by omega) (P0.out.keeps b7) hc0 N0.out).mono ?_)); rintro e w8 ⟨A8, C8, rfl, e81, e82, e83, hb8⟩; have b8 := b7.trans (hb8.mono b7.size); have P8 := Lib.hid e83; have b68 := b67.trans (hb8.mono b67.size); clear e82 e83)
    | (go_at_call 11; ((with_reducible refine (same_yes (norm l0) (norm l0) rfl A6 A8 C6 C8 w8 (by omega) (P7.out.keeps b68) P8.out).mono ?_)); rintro e w9 ⟨rfl, b89⟩; have b9 := b8.trans (b89.mono b8.size)))
  go_ret
  have := LEN.out
  exact ⟨ret_bool (by simp; omega), b9⟩
theorem walk (W : World) (l0 : List Pr) (a0 : Option Addr) (c0 : Nat) (hc0 : l0.length ≤ c0) (hn0 : a0 = none → c0 = 0) (hp0 : Ps W W.heap.size a0 l0) (l1 : List Pr) (a1 : Option Addr) (c1 : Nat) (hc1 : l1.length ≤ c1) (hn1 : a1 = none → c1 = 0) (hp1 : Ps W W.heap.size a1 l1)
    (l2 : List Pr) (a2 : Option Addr) (c2 : Nat) (hc2 : l2.length ≤ c2) (hn2 : a2 = none → c2 = 0) (hp2 : Ps W W.heap.size a2 l2) :
    Calls Try.prog 6 #[.slice a0 l0.length c0, .slice a1 l1.length c1, .slice a2 l2.length c2] W fun e w' => e = .returned (.bool true) ∧ Below W.heap.size W w' := by
  by_cases h : l0.length ≤ 40 ∧ l1.length ≤ 40 ∧ l2.length ≤ 40
  · exact small W l0 l1 l2 a0 a1 a2 c0 c1 c2 hc0 hc1 hc2 hn0 hn1 hn2 hp0 hp1 hp2 h.1 h.2.1 h.2.2
  · clear hn0 hn1 hn2 hp0 hp1 hp2 hc0 hc1 hc2
    by_cases h0 : 40 < l0.length
    · clear h
      go_enter Try.func6, Try.ntmps6
      go_wp2_with (go_at_call 8; ((with_reducible refine (awake_any W).mono ?_)); rintro e w1 ⟨rfl, hb1⟩)
      go_ret
      exact ⟨rfl, hb1⟩
    · by_cases h1 : 40 < l1.length
      · clear h
        go_enter Try.func6, Try.ntmps6
        go_wp2_with (go_at_call 8; ((with_reducible refine (awake_any W).mono ?_)); rintro e w1 ⟨rfl, hb1⟩)
        go_ret
        exact ⟨rfl, hb1⟩
      · have h2 : 40 < l2.length := by omega
        clear h
        go_enter Try.func6, Try.ntmps6
        go_wp2_with (go_at_call 8; ((with_reducible refine (awake_any W).mono ?_)); rintro e w1 ⟨rfl, hb1⟩)
        go_ret
        exact ⟨rfl, hb1⟩
end Go.Proofs.Ythcmioobldpbjaa.pairsMerge
