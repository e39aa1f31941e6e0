/- The walk of CriticalFactor. -/
import Derived.Test.YtidclldacbelhaaIf
import Derived.Test.YtidclldacbelhaaIh
namespace Go.Proofs.Ytidclldacbelhaa.criticalFactor
open Go.Proofs.Ytidclldacbelhaa.Cut Go.Proofs.Ytidclldacbelhaa.Suf Go.Proofs.Ytidclldacbelhaa.Crt Go.RowKit Go.Maps
set_option maxRecDepth 100000
set_option linter.unusedVariables false

theorem fac_parts (s : Tx) : ∃ (i p : Nat) (b : Bool), facV s = .agg #[.int .i64 (i : Int), .int .i64 (p : Int), .bool b] ∧ (s ≠ [] → i = cutAt s ∧ p = movePer s ∧ b = smallB s) := by
  by_cases h : s = []
  · exact ⟨0, 0, false, by rw [facV, if_pos h]; rfl, fun h2 => absurd h h2⟩
  · exact ⟨cutAt s, movePer s, smallB s, by rw [facV, if_neg h], fun _ => ⟨rfl, rfl, rfl⟩⟩
set_option maxHeartbeats 8000000 in
theorem walk (w : World) (l : Tx) (a : Option Addr) (cap : Nat) (hm : l.length ≤ maxLen) (hb : Bs w w.heap.size a l) :
    Calls Try.prog 3 #[.slice a l.length cap] w fun e w' => e = .returned (.bool true) ∧ Below w.heap.size w w' := by
  have HAW := Lib.hid (awake_any w)
  have Hhb := Lib.hid hb
  clear hb
  go_enter Try.func3, Try.ntmps3
  go_wp2_with fail
  refine HAW.out.mono ?_
  rintro e' w1 ⟨rfl, hb1⟩
  have HW := Lib.hid hb1
  have HBl : Hid (∀ X, Below w1.heap.size w1 X → Bs X X.heap.size a l) := Lib.hid fun X hX => ((Hhb.out.keep hb1).keep (hX.mono hb1.size)).more (Nat.le_trans hb1.size hX.size)
  clear hb1 HAW Hhb
  by_cases h1 : l.length ≤ 120
  · have hkl : ¬ (120 : Int) < (l.length : Int) := by omega
    have HF := Lib.hid (factor_any w1 l a cap (HBl.out w1 (Below.refl _ _)) (by omega))
    have HR := Lib.hid (fun X => rfactor_any X l (by omega))
    obtain ⟨i, p, b, hV, _⟩ := fac_parts l
    rw [hV] at HF HR
    clear hV
    have hself : ((i : Int) == (i : Int)) = true := by simp
    have hself2 : ((p : Int) == (p : Int)) = true := by simp
    have hself3 : (b == b) = true := by simp
    go_wp2_with fail
    refine HF.out.mono ?_
    rintro e w2 ⟨rfl, hb2⟩
    have HW2 := Lib.hid hb2
    have hb3 : Below w2.heap.size w2 (w2.alloc (.cells #[.int .i64 (i : Int), .int .i64 (p : Int), .bool b] 25)) := (Below.refl _ _).alloc (Nat.le_refl _) _
    have hcv := str_of_bs cap (HBl.out (w2.alloc (.cells #[.int .i64 (i : Int), .int .i64 (p : Int), .bool b] 25)) (hb2.trans (hb3.mono hb2.size)))
    have HG := Lib.hid (heap_alloc_new w2 (.cells #[.int .i64 (i : Int), .int .i64 (p : Int), .bool b] 25))
    have HW3 := Lib.hid (HW.out.trans ((hb2.trans (hb3.mono hb2.size)).mono HW.out.size))
    have hlt : w2.heap.size < (w2.alloc (.cells #[.int .i64 (i : Int), .int .i64 (p : Int), .bool b] 25)).heap.size := by simp
    clear hb2 hb3
    go_wp2_with fail
    refine (HR.out _).mono ?_
    rintro e w3 ⟨rfl, hb4⟩
    have hg3 : Blk3 w3 w2.heap.size 25 (.int .i64 (i : Int)) (.int .i64 (p : Int)) (.bool b) := (hb4.block w2.heap.size hlt).trans HG.out
    have hs3 : w2.heap.size < w3.heap.size := txt_lt hg3
    have hb5 : Below w3.heap.size w3 (w3.alloc (.cells #[.int .i64 (i : Int), .int .i64 (p : Int), .bool b] 27)) := (Below.refl _ _).alloc (Nat.le_refl _) _
    have HW5 := Lib.hid ((HW3.out.trans (hb4.mono HW3.out.size)).trans (hb5.mono (HW3.out.trans (hb4.mono HW3.out.size)).size))
    have hg5 := hg3.keep hb5 hs3
    have hn5 : Blk3 (w3.alloc (.cells #[.int .i64 (i : Int), .int .i64 (p : Int), .bool b] 27)) w3.heap.size 27 (.int .i64 (i : Int)) (.int .i64 (p : Int)) (.bool b) := heap_alloc_new w3 _
    obtain ⟨c0, c1, c2⟩ := hg5.cells
    obtain ⟨d0, d1, d2⟩ := hn5.cells
    clear hb4 hb5 hg5 hn5 hg3 hcv HG hlt HW3 HW2 HR HF
    go_wp2
    go_ret
    exact ⟨rfl, HW5.out⟩
  · have hkl : (120 : Int) < (l.length : Int) := by omega
    go_wp2
    go_ret
    exact ⟨rfl, HW.out⟩
end Go.Proofs.Ytidclldacbelhaa.criticalFactor
