/- PickCovers, walked. -/
import Derived.Test.YtlmncljnnpnjmaaPickE
namespace Go.Proofs.Ytlmncljnnpnjmaa.pickCovers
open Go.RowKit Go.Proofs.Ytlmncljnnpnjmaa.Prs Adm Reg Pck
set_option maxRecDepth 100000
set_option maxHeartbeats 4000000 in
theorem walk (W : World) (l : List Pr) (al : Option Addr) (cl : Nat) (hpl : Ps W W.heap.size al l) (hlow : ∀ p ∈ l, -9223372036854775808 ≤ p.s) :
    Calls Try.prog 4 #[.slice al l.length cl] W fun r w' => r = .returned (.bool true) ∧ Below W.heap.size W w' := by
  have HAW := Lib.hid (awake_any W)
  have HL := Lib.hid hpl
  have HW := Lib.hid hlow
  clear hpl hlow
  go_enter Try.func4, Try.ntmps4
  by_cases hB : l.length ≤ 80
  rotate_left
  · have hBi : ¬ (l.length : Int) ≤ 80 := by omega
    go_wp2_with (go_at_call 9; (with_reducible refine HAW.out.mono ?_); rintro r w1 ⟨rfl, hb1⟩)
    go_ret
    exact ⟨rfl, hb1⟩
  have hBi : (l.length : Int) ≤ 80 := by omega
  have hl6 : l.length ≤ 1000000 := by omega
  have CL : Hid (∀ X, Below W.heap.size W X → Calls Try.prog 13 #[.slice al l.length cl] X (Gives X (longFrom l lowest))) := Lib.hid fun X h => longest_any l al cl X hl6 (HL.out.keeps h)
  have HQL : Hid ((longFrom l lowest).length ≤ 1000000) := Lib.hid (by have := long_len l lowest; omega)
  have HGD : Hid (GoodP l (longFrom l lowest)) := Lib.hid ((goodp_iff HW.out).2 rfl)
  have CG : Hid (∀ X (a : Option Addr) (c : Nat), Below W.heap.size W X → Ps X X.heap.size a (longFrom l lowest) → Calls Try.prog 17 #[.slice al l.length cl, .slice a (longFrom l lowest).length c] X fun r w' => r = .returned (.bool true) ∧ Below X.heap.size X w') := Lib.hid fun X a c h hp => by
    refine (good_any l (longFrom l lowest) al a cl c X hl6 HQL.out (HL.out.keeps h) hp).mono ?_
    rintro e w' ⟨z, rfl, hz, n, rfl⟩
    exact ⟨by rw [hz.2 HGD.out], below_drews (Below.refl _ _) n⟩
  generalize longFrom l lowest = q at *
  go_wp2_with (first
    | (go_at_call 9; (with_reducible refine HAW.out.mono ?_); rintro r w1 ⟨rfl, hb1⟩; have HB1 := Lib.hid hb1; clear hb1)
    | (go_at_call 13; (with_reducible refine (CL.out _ HB1.out).mono ?_); rintro r w2 ⟨a1, d1, rfl, _, _, hp2, hb2⟩; have HB2 := Lib.hid (HB1.out.trans (hb2.mono HB1.out.size)); have H2 := Lib.hid hp2; clear hp2 hb2)
    | (go_at_call 17; (with_reducible refine (CG.out _ _ _ HB2.out H2.out).mono ?_); rintro r w3 ⟨rfl, hb3⟩; have HB3 := Lib.hid (HB2.out.trans (hb3.mono HB2.out.size)); clear hb3))
  go_ret
  exact ⟨rfl, HB3.out⟩
end Go.Proofs.Ytlmncljnnpnjmaa.pickCovers
