/- The walk of CriticalTheorem. -/
import Derived.Test.YtidclldacbelhaaIh
namespace Go.Proofs.Ytidclldacbelhaa.criticalTheorem
open Go.Proofs.Ytidclldacbelhaa.Cut Go.Proofs.Ytidclldacbelhaa.Suf Go.Proofs.Ytidclldacbelhaa.Crt Go.RowKit Go.Maps
set_option maxRecDepth 100000
set_option linter.unusedVariables false
open Go.Proofs.Ytidclldacbelhaa.Reg

theorem fac_parts (s : Tx) : ∃ (i p : Nat) (b : Bool), facV s = .agg #[.int .i64 (i : Int), .int .i64 (p : Int), .bool b] ∧ (s ≠ [] → i = cutAt s ∧ p = movePer s ∧ b = smallB s) := by
  by_cases h : s = []
  · exact ⟨0, 0, false, by rw [facV, if_pos h]; rfl, fun h2 => absurd h h2⟩
  · exact ⟨cutAt s, movePer s, smallB s, by rw [facV, if_neg h], fun _ => ⟨rfl, rfl, rfl⟩⟩
set_option maxHeartbeats 8000000 in
theorem walk (w : World) (l : Tx) (a : Option Addr) (cap : Nat) (hm : l.length ≤ maxLen) (hb : Bs w w.heap.size a l) (hn0 : a = none → cap = 0) (hc0 : l.length ≤ cap) :
    Calls Try.prog 5 #[.slice a l.length cap] w fun e w' => e = .returned (.bool true) ∧ Below w.heap.size w w' := by
  have HAW := Lib.hid (awake_any w)
  have Hhb := Lib.hid hb
  clear hb
  go_enter Try.func5, Try.ntmps5
  go_wp2_with fail
  refine HAW.out.mono ?_
  rintro e' w1 ⟨rfl, hb1⟩
  have HW := Lib.hid hb1
  have HBl : Hid (∀ X, Below w1.heap.size w1 X → Bs X X.heap.size a l) := Lib.hid fun X hX => ((Hhb.out.keep hb1).keep (hX.mono hb1.size)).more (Nat.le_trans hb1.size hX.size)
  clear hb1 HAW Hhb
  by_cases h1 : l.length ≤ 200
  · by_cases h0 : l = []
    · have hkl : ¬ (200 : Int) < (l.length : Int) := by omega
      have hz : ((l.length : Int) == 0) = true := by rw [h0]; rfl
      go_wp2
      go_ret
      exact ⟨rfl, HW.out⟩
    · have hkl : ¬ (200 : Int) < (l.length : Int) := by omega
      have hz : ((l.length : Int) == 0) = false := by simpa using h0
      have HF := Lib.hid (factor_any w1 l a cap (HBl.out w1 (Below.refl _ _)) (by omega))
      have HP := Lib.hid (fun X (hX : Below w1.heap.size w1 X) => period_any X l a cap (HBl.out X hX) (by omega))
      obtain ⟨i, p, b, hV, hp⟩ := fac_parts l
      obtain ⟨rfl, rfl, rfl⟩ := hp h0
      have hcl := cut_len h0
      have HL := Lib.hid (fun X (hX : Below w1.heap.size w1 X) => local_in X l a cap (HBl.out X hX) hc0 hn0 (by omega) (cutAt l) (by omega))
      rw [locN_is h0 (cut_least h0)] at HL
      have hbel := cut_below h0
      have hsm : smallB l = true → movePer l = per l := fun h => by rw [movePer, if_pos h, small_is h0 ((smallB_iff h0).1 h)]
      rw [hV] at HF
      obtain ⟨C, hC⟩ : ∃ C, C = cutAt l := ⟨_, rfl⟩
      obtain ⟨P, hP⟩ : ∃ P, P = per l := ⟨_, rfl⟩
      obtain ⟨M, hM⟩ : ∃ M, M = movePer l := ⟨_, rfl⟩
      obtain ⟨B, hB⟩ : ∃ B, B = smallB l := ⟨_, rfl⟩
      rw [← hC] at HF HL hbel hcl
      rw [← hP] at HP HL hbel hsm
      rw [← hM] at HF hsm
      rw [← hB] at HF hsm
      have HSM := Lib.hid hsm
      clear hV hp hC hP hM hB hsm h0 hn0 hc0
      have hCP : (C : Int) < (P : Int) := by omega
      have hself : ((P : Int) == (P : Int)) = true := by simp
      go_wp2_with fail
      refine HF.out.mono ?_
      rintro e w2 ⟨rfl, hb2⟩
      have hb3 : Below w2.heap.size w2 (w2.alloc (.cells #[.int .i64 (C : Int), .int .i64 (M : Int), .bool B] 25)) := (Below.refl _ _).alloc (Nat.le_refl _) _
      have hg3 : Blk3 (w2.alloc (.cells #[.int .i64 (C : Int), .int .i64 (M : Int), .bool B] 25)) w2.heap.size 25 (.int .i64 (C : Int)) (.int .i64 (M : Int)) (.bool B) := heap_alloc_new w2 _
      have HB3 := Lib.hid (hb2.trans (hb3.mono hb2.size))
      have HG3 := Lib.hid hg3
      clear hb2 hb3 hg3
      go_wp2_with fail
      generalize w2.alloc (.cells #[.int .i64 (C : Int), .int .i64 (M : Int), .bool B] 25) = w3 at *
      refine (HP.out _ HB3.out).mono ?_
      rintro e w4 ⟨rfl, hb4⟩
      have HG4 := Lib.hid (HG3.out.keep hb4 HG3.out.lt)
      have HB4 := Lib.hid (HB3.out.trans (hb4.mono HB3.out.size))
      clear hb4 HG3 HB3 HP HF
      obtain ⟨c0, c1, c2⟩ := HG4.out.cells
      go_wp2_with fail
      refine (HL.out _ HB4.out).mono ?_
      rintro e w5 ⟨rfl, hb5⟩
      have HG5 := Lib.hid (HG4.out.keep hb5 HG4.out.lt)
      have HB5 := Lib.hid (HW.out.trans ((HB4.out.trans (hb5.mono HB4.out.size)).mono HW.out.size))
      clear hb5 HG4 HB4 HL c0 c1 c2
      obtain ⟨c0, c1, c2⟩ := HG5.out.cells
      cases B
      · clear HSM
        go_wp2
        go_ret
        exact ⟨rfl, HB5.out⟩
      · have hMP := HSM.out rfl
        subst hMP
        go_wp2
        go_ret
        exact ⟨rfl, HB5.out⟩
  · have hkl : (200 : Int) < (l.length : Int) := by omega
    go_wp2
    go_ret
    exact ⟨rfl, HW.out⟩
end Go.Proofs.Ytidclldacbelhaa.criticalTheorem
