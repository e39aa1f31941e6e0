/- The walk of SuffixMax. -/
import Derived.Test.YtpknaobmchmpdaaEg
namespace Go.Proofs.Ytpknaobmchmpdaa.suffixMax
open Go.Proofs.Ytpknaobmchmpdaa.Suf Go.Proofs.Ytpknaobmchmpdaa.Crt Go.RowKit Go.Maps
set_option maxRecDepth 100000
set_option linter.unusedVariables false

set_option maxHeartbeats 2000000 in
theorem walk (w : World) (l : Tx) (a : Option Addr) (cap : Nat) (hm : l.length ≤ maxLen) (hb : Bs w w.heap.size a l) (t : Bool) :
    Calls Try.prog 3 #[.slice a l.length cap, .bool t] w fun e w' => e = .returned (.bool true) ∧ Below w.heap.size w w' := by
  have HAW := Lib.hid (awake_any w)
  have Hhb := Lib.hid hb
  clear hb
  go_enter Try.func3, Try.ntmps3
  go_wp2_with fail
  refine HAW.out.mono ?_
  rintro e' w1 ⟨rfl, hb1⟩
  have HW := Lib.hid hb1
  have HBl : Hid (∀ X, Below w1.heap.size w1 X → Bs X X.heap.size a l) := Lib.hid fun X hX => ((Hhb.out.keep hb1).keep (hX.mono hb1.size)).more (Nat.le_trans hb1.size hX.size)
  clear hb1 HAW Hhb
  by_cases h1 : l.length ≤ 120
  · have hkl : ¬ (120 : Int) < (l.length : Int) := by omega
    have HM := Lib.hid (max_any w1 l a cap (HBl.out w1 (Below.refl _ _)) (by omega) t)
    have HR := Lib.hid (fun X => rmax_any X l (by omega) t)
    go_wp2_with fail
    refine HM.out.mono ?_
    rintro e w2 ⟨rfl, hb2⟩
    have HW2 := Lib.hid hb2
    have hcv := str_of_bs cap (HBl.out w2 hb2)
    clear hb2
    generalize bestTo t l l.length = x at *
    generalize per (l.drop x) = y at *
    go_wp2_with fail
    refine (HR.out _).mono ?_
    rintro e w3 ⟨rfl, hd⟩
    go_wp2
    go_ret
    obtain ⟨q, rfl⟩ := hd
    exact ⟨rfl, below_drews (HW.out.trans (HW2.out.mono HW.out.size)) q⟩
  · have hkl : (120 : Int) < (l.length : Int) := by omega
    go_wp2
    go_ret
    exact ⟨rfl, HW.out⟩
end Go.Proofs.Ytpknaobmchmpdaa.suffixMax
