/- The walk of CriticalBelow. -/
import Derived.Test.YtidclldacbelhaaIh
namespace Go.Proofs.Ytidclldacbelhaa.criticalBelow
open Go.Proofs.Ytidclldacbelhaa.Cut Go.Proofs.Ytidclldacbelhaa.Suf Go.Proofs.Ytidclldacbelhaa.Crt Go.RowKit Go.Maps
set_option maxRecDepth 100000
set_option linter.unusedVariables false
open Go.Proofs.Ytidclldacbelhaa.Reg

theorem fac_parts (s : Tx) : ∃ (i p : Nat) (b : Bool), facV s = .agg #[.int .i64 (i : Int), .int .i64 (p : Int), .bool b] ∧ (s ≠ [] → i = cutAt s ∧ p = movePer s ∧ b = smallB s) := by
  by_cases h : s = []
  · exact ⟨0, 0, false, by rw [facV, if_pos h]; rfl, fun h2 => absurd h h2⟩
  · exact ⟨cutAt s, movePer s, smallB s, by rw [facV, if_neg h], fun _ => ⟨rfl, rfl, rfl⟩⟩
set_option maxHeartbeats 8000000 in
theorem walk (w : World) (l : Tx) (a : Option Addr) (cap : Nat) (hm : l.length ≤ maxLen) (hb : Bs w w.heap.size a l) (hn0 : a = none → cap = 0) (hc0 : l.length ≤ cap) (n : Nat) (hn : n < 65536) :
    Calls Try.prog 6 #[.slice a l.length cap, .int .u16 (n : Int)] w fun e w' => e = .returned (.bool true) ∧ Below w.heap.size w w' := by
  have HAW := Lib.hid (awake_any w)
  have Hhb := Lib.hid hb
  clear hb
  go_enter Try.func6, Try.ntmps6
  go_wp2_with fail
  refine HAW.out.mono ?_
  rintro e' w1 ⟨rfl, hb1⟩
  have HW := Lib.hid hb1
  have HBl : Hid (∀ X, Below w1.heap.size w1 X → Bs X X.heap.size a l) := Lib.hid fun X hX => ((Hhb.out.keep hb1).keep (hX.mono hb1.size)).more (Nat.le_trans hb1.size hX.size)
  clear hb1 HAW Hhb
  by_cases h1 : l.length ≤ 200
  · by_cases h0 : l = []
    · have hkl : ¬ (200 : Int) < (l.length : Int) := by omega
      have hz : ((l.length : Int) == 0) = true := by rw [h0]; rfl
      go_wp2
      go_ret
      exact ⟨rfl, HW.out⟩
    · have hkl : ¬ (200 : Int) < (l.length : Int) := by omega
      have hz : ((l.length : Int) == 0) = false := by simpa using h0
      have HP := Lib.hid (fun X (hX : Below w1.heap.size w1 X) => period_any X l a cap (HBl.out X hX) (by omega))
      obtain ⟨M, hM⟩ : ∃ M, M = l.length + 1 := ⟨_, rfl⟩
      obtain ⟨K, hK⟩ : ∃ K, K = n % M := ⟨_, rfl⟩
      have hKM : K < M := by rw [hK]; exact Nat.mod_lt _ (by omega)
      have HL := Lib.hid (fun X (hX : Below w1.heap.size w1 X) => local_in X l a cap (HBl.out X hX) hc0 hn0 (by omega) K (by omega))
      obtain ⟨V, hV⟩ : ∃ V, V = locN l K := ⟨_, rfl⟩
      obtain ⟨P, hP⟩ : ∃ P, P = per l := ⟨_, rfl⟩
      have hV1 : 1 ≤ V ∧ V ≤ P := by
        have h := locN_least h0 K
        rw [← hV] at h
        exact ⟨h.1.1, by rw [hP]; exact h.2 _ ((per_least h0).1.loc K)⟩
      rw [← hV] at HL
      rw [← hP] at HP
      have HMOD : Hid ((n : Int) % ((l.length : Int) + 1) = (K : Int)) := Lib.hid (by rw [hK, hM]; exact (Int.natCast_emod n (l.length + 1)).symm)
      clear hK hM
      have HV := Lib.hid hV1
      have hV2 : (1 : Int) ≤ (V : Int) := by omega
      have hV3 : (V : Int) ≤ (P : Int) := by omega
      have hdV : decide ((1 : Int) ≤ (V : Int)) = true := decide_eq_true hV2
      clear hV hP h0 hn0 hc0 hV1
      go_wp2_with fail
      rw [HMOD.out]
      refine (HL.out w1 (Below.refl _ _)).mono ?_
      rintro e w2 ⟨rfl, hb2⟩
      have HB2 := Lib.hid hb2
      clear hb2
      go_wp2_with fail
      refine (HP.out w2 HB2.out).mono ?_
      rintro e w3 ⟨rfl, hb3⟩
      have HB3 := Lib.hid (HW.out.trans ((HB2.out.trans (hb3.mono HB2.out.size)).mono HW.out.size))
      clear hb3
      go_wp2
      go_ret
      exact ⟨rfl, HB3.out⟩
  · have hkl : (200 : Int) < (l.length : Int) := by omega
    go_wp2
    go_ret
    exact ⟨rfl, HW.out⟩
end Go.Proofs.Ytidclldacbelhaa.criticalBelow
