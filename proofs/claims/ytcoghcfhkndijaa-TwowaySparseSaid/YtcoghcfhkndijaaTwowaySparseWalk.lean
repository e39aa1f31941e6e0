/- The walk of TwowaySparse. -/
import Derived.Test.YtcoghcfhkndijaaJc
namespace Go.Proofs.Ytcoghcfhkndijaa.twowaySparse
open Go.Proofs.Ytcoghcfhkndijaa.Two Go.Proofs.Ytcoghcfhkndijaa.Suf Go.Proofs.Ytcoghcfhkndijaa.Crt Go.Proofs.Ytcoghcfhkndijaa.Prs Go.RowKit Go.Maps
set_option maxRecDepth 100000
set_option linter.unusedVariables false
open Go.Proofs.Ytcoghcfhkndijaa.Reg
theorem ts_single (X : World) (l : List UInt8) (av : Option Addr) (cv : Nat) (hn : av = none → cv = 0) (hb : Bs X X.heap.size av l) : Ts (X.alloc (.cells #[.slice av l.length cv] 22)) (some ⟨X.heap.size, 0, none⟩) [⟨l, av, cv, hn⟩] := by
  refine ⟨fun _ => ⟨X.heap.size, 0, rfl, by simp, fun i hi => ?_⟩, fun y hy => ?_⟩
  · have hh := heap_alloc_new X (.cells #[.slice av l.length cv] 22)
    obtain rfl : i = 0 := by simpa using hi
    rw [cell_of_row _ _ _ _ 22 (0, 0) hh]
    rfl
  · obtain rfl := List.mem_singleton.1 hy
    exact (hb.keep (Spa.below_new X _)).more (Spa.below_new X _).size

set_option maxHeartbeats 8000000 in
theorem walk (w : World) (b : Tx) (ab : Option Addr) (cb : Nat) (hmb : b.length ≤ maxLen) (hbb : Bs w w.heap.size ab b) (hnb : ab = none → cb = 0) (hcb : b.length ≤ cb) (line : Tx) (aline : Option Addr) (cline : Nat) (hmline : line.length ≤ maxLen) (hbline : Bs w w.heap.size aline line) (hnline : aline = none → cline = 0) (hcline : line.length ≤ cline) :
    Calls Try.prog 5 #[.slice ab b.length cb, .slice aline line.length cline] w fun e w' => e = .returned (.bool true) ∧ Below w.heap.size w w' := by
  have HAW := Lib.hid (awake_any w)
  have Kb : Hid (Ln w ab b cb) := Lib.hid ⟨hbb, hcb, hnb⟩
  clear hbb hcb hnb
  have Kline : Hid (Ln w aline line cline) := Lib.hid ⟨hbline, hcline, hnline⟩
  clear hbline hcline hnline

  go_enter Try.func5, Try.ntmps5
  go_wp2_with fail
  refine HAW.out.mono ?_
  rintro e' w1 ⟨rfl, hb1⟩
  have HW := Lib.hid hb1
  have Lb : Hid (∀ X, Below w1.heap.size w1 X → Ln X ab b cb) := Lib.hid fun X hX => (Kb.out.keep hb1).keep hX
  have Lline : Hid (∀ X, Below w1.heap.size w1 X → Ln X aline line cline) := Lib.hid fun X hX => (Kline.out.keep hb1).keep hX
  clear hb1 HAW Kb Kline
  by_cases hf : b.length ≤ 100 ∧ line.length ≤ 300
  · go_wp2_with fail
    refine (few_any w1 _ _ _ _ _ _).mono ?_
    rintro e' w1' ⟨rfl, rfl⟩
    rw [decide_eq_true hf]
    obtain ⟨hf1, hf2⟩ := hf
    by_cases h0 : b = []
    · subst h0
      have hz : (([] : Tx).length : Int) = 0 := rfl
      go_wp2
      go_ret
      exact ⟨rfl, HW.out⟩
    · have hz : ((b.length : Int) == 0) = false := by simpa using h0
      have hz2 : ¬ (b.length : Int) = 0 := by simpa using h0
      have hbp := List.length_pos_iff.2 h0
      have HN := Lib.hid (fun X (hX : Below w1.heap.size w1 X) => new_some X b ab cb (Lb.out X hX) h0 (by omega))
      have HS := Lib.hid (fun X (hX : Below w1.heap.size w1 X) t (ht : Tw X w1.heap.size t b) => scan_some X t b ht h0 (by omega) line aline cline (Lline.out X hX) (by omega))
      go_wp2_with fail
      refine (HN.out w1 (Below.refl _ _)).mono ?_
      rintro e w2 ⟨t, rfl, ht, hb2⟩
      have HT2 := Lib.hid ht
      have HB2 := Lib.hid hb2
      clear ht hb2 HN
      go_wp2_with fail
      refine (HS.out w2 HB2.out t HT2.out).mono ?_
      rintro e w3 ⟨A3, c3, rfl, hp3, hb3⟩
      have HP3 := Lib.hid (fun X (hX : Below w3.heap.size w3 X) => (Prs.Ps.keep hp3 hX).more hX.size)
      have HB3 := Lib.hid (HB2.out.trans (hb3.mono HB2.out.size))
      clear hp3 hb3 HT2 HB2
      go_wp2_with fail
      have hnb := (Lb.out w3 HB3.out).2.2
      have hts := ts_single w3 b ab cb hnb (Lb.out w3 HB3.out).1
      have hba : Below w3.heap.size w3 (w3.alloc (.cells #[.slice ab b.length cb] 22)) := (Below.refl _ _).alloc (Nat.le_refl _) _
      have HBA := Lib.hid hba
      clear hba
      refine (Spa.snew_any _ [⟨b, ab, cb, hnb⟩] _ 1 hts (by simp) (by simp [Tri.tot]; omega)).mono ?_
      rintro e w4 ⟨u, rfl, _, hA, hb4⟩
      have HA4 : Hid (Spa.Au w4 u (Tri.paths [b]) [b]) := Lib.hid hA
      have HB4 := Lib.hid ((HB3.out.trans (HBA.out.mono HB3.out.size)).trans (hb4.mono (HB3.out.trans (HBA.out.mono HB3.out.size)).size))
      have HX4 := Lib.hid (HBA.out.trans (hb4.mono HBA.out.size))
      clear hb4 hA hts
      go_wp2_with fail
      refine (Spa.scan_free w4 u _ [b] HA4.out line aline cline (Lline.out w4 HB4.out).1 (by omega)).mono ?_
      rintro e w5 ⟨A5, c5, rfl, hp5, _, hb5⟩
      rw [← pcs_scan h0] at hp5
      rw [← pcs_scan h0]
      have hpl : (pcs b line).length ≤ 1000 := by have := pcsTo_len b line (line.length + 1); rw [pcs]; omega
      have hsm := Prs.same_any (pcs b line) (pcs b line) A3 A5 c3 c5 w5 (by omega) (HP3.out w5 (HX4.out.trans (hb5.mono HX4.out.size))) hp5
      rw [decide_eq_true rfl] at hsm
      have HSM := Lib.hid hsm
      have HW5 := Lib.hid (HW.out.trans ((HB4.out.trans (hb5.mono HB4.out.size)).mono HW.out.size))
      clear hsm hp5 hb5
      go_wp2_with fail
      refine HSM.out.mono ?_
      rintro e w6 ⟨rfl, q6, rfl⟩
      go_wp2
      go_ret
      exact ⟨rfl, below_drews HW5.out _⟩
  · go_wp2_with fail
    refine (few_any w1 _ _ _ _ _ _).mono ?_
    rintro e' w1' ⟨rfl, rfl⟩
    rw [decide_eq_false hf]
    go_wp2
    go_ret
    exact ⟨rfl, HW.out⟩
end Go.Proofs.Ytcoghcfhkndijaa.twowaySparse
