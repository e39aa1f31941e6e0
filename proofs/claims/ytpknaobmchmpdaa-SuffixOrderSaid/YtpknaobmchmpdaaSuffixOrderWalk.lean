/- The walk of SuffixOrder. -/
import Derived.Test.YtpknaobmchmpdaaEg
namespace Go.Proofs.Ytpknaobmchmpdaa.suffixOrder
open Go.Proofs.Ytpknaobmchmpdaa.Suf Go.Proofs.Ytpknaobmchmpdaa.Crt Go.RowKit Go.Maps
set_option maxRecDepth 100000
set_option linter.unusedVariables false

set_option maxHeartbeats 2000000 in
theorem walk (w : World) (l : Tx) (a : Option Addr) (cap : Nat) (hm : l.length ≤ maxLen) (hb : Bs w w.heap.size a l) (m : Tx) (a2 : Option Addr) (cap2 : Nat) (hm2 : m.length ≤ maxLen) (hb2 : Bs w w.heap.size a2 m) (t : Bool) :
    Calls Try.prog 5 #[.slice a l.length cap, .slice a2 m.length cap2, .bool t] w fun e w' => e = .returned (.bool true) ∧ Below w.heap.size w w' := by
  have HAW := Lib.hid (awake_any w)
  have Hhb := Lib.hid hb
  have Hhb2 := Lib.hid hb2
  clear hb hb2
  go_enter Try.func5, Try.ntmps5
  go_wp2_with fail
  refine HAW.out.mono ?_
  rintro e' w1 ⟨rfl, hb1⟩
  have HW := Lib.hid hb1
  have HBl : Hid (∀ X, Below w1.heap.size w1 X → Bs X X.heap.size a l) := Lib.hid fun X hX => ((Hhb.out.keep hb1).keep (hX.mono hb1.size)).more (Nat.le_trans hb1.size hX.size)
  have HBm : Hid (∀ X, Below w1.heap.size w1 X → Bs X X.heap.size a2 m) := Lib.hid fun X hX => ((Hhb2.out.keep hb1).keep (hX.mono hb1.size)).more (Nat.le_trans hb1.size hX.size)
  clear hb1 HAW Hhb Hhb2
  by_cases h1 : l.length ≤ 200 ∧ m.length ≤ 200
  · obtain ⟨h1, h2⟩ := h1
    have hkl : ¬ (200 : Int) < (l.length : Int) := by omega
    have hkl2 : ¬ (200 : Int) < (m.length : Int) := by omega
    have HL1 := Lib.hid (fun X (hX : Below w1.heap.size w1 X) => less_any X l m a a2 cap cap2 (HBl.out X hX) (HBm.out X hX) (by omega) (by omega) t)
    have HL2 := Lib.hid (fun X (hX : Below w1.heap.size w1 X) => less_any X m l a2 a cap2 cap (HBm.out X hX) (HBl.out X hX) (by omega) (by omega) t)
    have HR := Lib.hid (fun X => rless_any X l m (by omega) (by omega) t)
    go_wp2_with fail
    refine (HL1.out w1 (Below.refl _ _)).mono ?_
    rintro e w2 ⟨rfl, hb2⟩
    have HW2 := Lib.hid hb2
    clear hb2
    go_wp2_with fail
    refine (HL2.out w2 HW2.out).mono ?_
    rintro e w3 ⟨rfl, hb3⟩
    have HW3 := Lib.hid (HW2.out.trans (hb3.mono HW2.out.size))
    clear hb3
    have hc1 := str_of_bs cap (HBl.out w3 HW3.out)
    have hc2 := str_of_bs cap2 (HBm.out w3 HW3.out)
    have hsb := Tri.str_beq l m
    have HXY : Hid ((!(less t l m && less t m l) && ((less t l m || less t m l) == !(decide (l = m)))) = true) := Lib.hid (by
      rcases less_tri t l m with h | h | h
      · rw [h, less_asymm t h, decide_eq_false (fun e => by rw [e, less_irrefl] at h; cases h)]; rfl
      · subst h; rw [less_irrefl]; simp
      · rw [h, less_asymm t h, decide_eq_false (fun e => by rw [e, less_irrefl] at h; cases h)]; rfl)
    generalize less t l m = x at *
    generalize less t m l = y at *
    generalize decide (l = m) = d at *
    have HFIN := Lib.hid (fun X (h : Suf.Drew w3 X) => show Below w.heap.size w X by obtain ⟨q, rfl⟩ := h; exact below_drews (HW.out.trans (HW3.out.mono HW.out.size)) q)
    clear HL1 HL2 HW2 HW3 HBl HBm HW
    cases x <;> cases y <;> cases d <;> first
      | (exfalso; have := HXY.out; simp at this; done)
      | (clear HXY
         go_wp2_with (go_at_call 18; refine (HR.out _).mono ?_; rintro e w4 ⟨rfl, hd⟩)
         go_ret
         exact ⟨rfl, HFIN.out _ hd⟩)
  · by_cases h2 : l.length ≤ 200
    · have hkl : ¬ (200 : Int) < (l.length : Int) := by omega
      have hkl2 : (200 : Int) < (m.length : Int) := by omega
      go_wp2
      go_ret
      exact ⟨rfl, HW.out⟩
    · have hkl : (200 : Int) < (l.length : Int) := by omega
      go_wp2
      go_ret
      exact ⟨rfl, HW.out⟩
end Go.Proofs.Ytpknaobmchmpdaa.suffixOrder
