/- The walk of TwowayScans. -/
import Derived.Test.YtcoghcfhkndijaaJc
namespace Go.Proofs.Ytcoghcfhkndijaa.twowayScans
open Go.Proofs.Ytcoghcfhkndijaa.Two Go.Proofs.Ytcoghcfhkndijaa.Suf Go.Proofs.Ytcoghcfhkndijaa.Crt Go.Proofs.Ytcoghcfhkndijaa.Prs Go.RowKit Go.Maps
set_option maxRecDepth 100000
set_option linter.unusedVariables false
open Go.Proofs.Ytcoghcfhkndijaa.Reg

set_option maxHeartbeats 8000000 in
theorem walk (w : World) (b : Tx) (ab : Option Addr) (cb : Nat) (hmb : b.length ≤ maxLen) (hbb : Bs w w.heap.size ab b) (hnb : ab = none → cb = 0) (hcb : b.length ≤ cb) (line : Tx) (aline : Option Addr) (cline : Nat) (hmline : line.length ≤ maxLen) (hbline : Bs w w.heap.size aline line) (hnline : aline = none → cline = 0) (hcline : line.length ≤ cline) :
    Calls Try.prog 4 #[.slice ab b.length cb, .slice aline line.length cline] w fun e w' => e = .returned (.bool true) ∧ Below w.heap.size w w' := by
  have HAW := Lib.hid (awake_any w)
  have Kb : Hid (Ln w ab b cb) := Lib.hid ⟨hbb, hcb, hnb⟩
  clear hbb hcb hnb
  have Kline : Hid (Ln w aline line cline) := Lib.hid ⟨hbline, hcline, hnline⟩
  clear hbline hcline hnline

  go_enter Try.func4, Try.ntmps4
  go_wp2_with fail
  refine HAW.out.mono ?_
  rintro e' w1 ⟨rfl, hb1⟩
  have HW := Lib.hid hb1
  have Lb : Hid (∀ X, Below w1.heap.size w1 X → Ln X ab b cb) := Lib.hid fun X hX => (Kb.out.keep hb1).keep hX
  have Lline : Hid (∀ X, Below w1.heap.size w1 X → Ln X aline line cline) := Lib.hid fun X hX => (Kline.out.keep hb1).keep hX
  clear hb1 HAW Kb Kline
  by_cases hf : b.length ≤ 100 ∧ line.length ≤ 300
  · go_wp2_with fail
    refine (few_any w1 _ _ _ _ _ _).mono ?_
    rintro e' w1' ⟨rfl, rfl⟩
    rw [decide_eq_true hf]
    obtain ⟨hf1, hf2⟩ := hf
    by_cases h0 : b = []
    · subst h0
      have hz : (([] : Tx).length : Int) = 0 := rfl
      go_wp2
      go_ret
      exact ⟨rfl, HW.out⟩
    · have hz : ((b.length : Int) == 0) = false := by simpa using h0
      have hz2 : ¬ (b.length : Int) = 0 := by simpa using h0
      have hbp := List.length_pos_iff.2 h0
      have HN := Lib.hid (fun X (hX : Below w1.heap.size w1 X) => new_some X b ab cb (Lb.out X hX) h0 (by omega))
      have HS := Lib.hid (fun X (hX : Below w1.heap.size w1 X) t (ht : Tw X w1.heap.size t b) => scan_some X t b ht h0 (by omega) line aline cline (Lline.out X hX) (by omega))
      go_wp2_with fail
      refine (HN.out w1 (Below.refl _ _)).mono ?_
      rintro e w2 ⟨t, rfl, ht, hb2⟩
      have HT2 := Lib.hid ht
      have HB2 := Lib.hid hb2
      clear ht hb2 HN
      go_wp2_with fail
      go_loopw [9, 10] (fun vn vi wq => ∃ k : Nat, k ≤ line.length + 1 ∧ vi = .int .i64 (k : Int) ∧ wq.ownsRow w2.heap.size 35 2 vn (pcsTo b line k).length (cellsOf (pcsTo b line k)) ∧ Below w2.heap.size w2 wq) (fun _ vi _ => line.length + 1 - (intOf vi).toNat)
      case atStart => exact ⟨0, Nat.zero_le _, rfl, World.ownsRow_nil _ _ _ _, Below.refl _ _⟩
      case round =>
        obtain ⟨k, hk, rfl, hown, hX⟩ := hrel
        have HO := Lib.hid hown
        have HX := Lib.hid hX
        have LL := Lline.out wr (HB2.out.trans (hX.mono HB2.out.size))
        have LB := Lb.out wr (HB2.out.trans (hX.mono HB2.out.size))
        have hplen := pcsTo_len b line k
        obtain ⟨E, hE⟩ : ∃ E, E = k + b.length := ⟨_, rfl⟩
        have hwE : IntKind.i64.wrap ((k : Int) + (b.length : Int)) = (E : Int) := by rw [IntWalk.i64_in _ (by omega)]; omega
        by_cases hlt : E ≤ line.length
        · have hlt2 : (E : Int) ≤ (line.length : Int) := by omega
          obtain ⟨A, hcut, hbA⟩ := cut_mid aline line cline k E (by omega) hlt LL.2.1 wr wr.heap.size LL.1
          have hcv : ∀ q, (convert 22 9 (.slice A (E - k) (cline - k))).run Try.prog (wr.drewN q) = .ok (.string (str ((line.drop k).take b.length))) (wr.drewN q) := fun q => mid_str hE hlt (hbA (wr.drewN q) (LL.1.keep (below_drews (Below.refl _ _) q)))
          have hcv2 : ∀ q, (convert 22 9 (.slice ab b.length cb)).run Try.prog (wr.drewN q) = .ok (.string (str b)) (wr.drewN q) := fun q => str_of_bs cb (LB.1.keep (below_drews (Below.refl _ _) q))
          have hcv3 := hcv2 0
          have hcv4 := hcv 0
          have hbe := Tri.str_beq ((line.drop k).take b.length) b
          have hst := stands_take line b k
          by_cases hs : Stands line b k
          · rw [decide_eq_true (hst.1 hs)] at hbe
            have HP : Hid (pcsTo b line (k + 1) = pcsTo b line k ++ [⟨(k : Int), (E : Int)⟩]) := Lib.hid (by rw [pcsTo, if_pos hs, pieceAt, hE])
            have HK := Lib.hid (show k + 1 ≤ line.length + 1 by omega)
            clear hst hs hbA LL LB hE hX hown
            go_wp2
            go_quiet (fail)
            have HX3 := Lib.hid (below_drews HX.out nq)
            have HO3 := Lib.hid (own_keep HO.out (below_drews (Below.refl _ _) nq))
            clear hcv hcv2 hcv3 hcv4 hbe hcut
            generalize wr.drewN nq = w3 at *
            have hsz3 := HX3.out.size
            have hplen2 : (pcsTo b line k).length ≤ 1000 := by omega
            have ba : Below w3.heap.size w3 (w3.alloc (.cells #[.int .i64 (k : Int), .int .i64 (E : Int)] 35)) := (Below.refl _ _).alloc (Nat.le_refl _) _
            have BA := Lib.hid ba
            clear ba
            go_wp2_with (at_builtin; go_loud (refine Prs.app_ps rfl _ _ rfl w2.heap.size _ _ (pcsTo b line k) rfl (HO3.out.alloc _) (some ⟨w3.heap.size, 0, none⟩) [⟨(k : Int), (E : Int)⟩] 1 (w3.heap.size + 1) rfl (by have := Prs.ps_one w3 ⟨(k : Int), (E : Int)⟩ (0, 0); rwa [World.size_alloc] at this) (fun e => by cases e) (by simp only [List.length_cons, List.length_nil]; omega) (by simp; omega) ?_; intro v7 w7 hown7 hg7; have H7 := Lib.hid hown7; have HX7 := Lib.hid (Prs.app_below (HX3.out.trans (BA.out.mono hsz3)) (HO3.out.alloc _) hg7 (by simp; omega) (Nat.le_refl _)); clear hown7 hg7))
            exact ⟨⟨k + 1, HK.out, by go_num, by rw [HP.out, List.length_append (bs := [_])]; exact H7.out, HX7.out⟩, by have := HK.out; simp [intOf]; omega⟩
          · rw [decide_eq_false (fun h => hs (hst.2 h))] at hbe
            have HP : Hid (pcsTo b line (k + 1) = pcsTo b line k) := Lib.hid (by rw [pcsTo, if_neg hs])
            have HK := Lib.hid (show k + 1 ≤ line.length + 1 by omega)
            clear hst hs hbA LL LB hE hX hown
            go_wp2
            go_quiet (fail)
            have HX3 := Lib.hid (below_drews HX.out nq)
            have HO3 := Lib.hid (own_keep HO.out (below_drews (Below.refl _ _) nq))
            clear hcv hcv2 hcv3 hcv4 hbe hcut
            generalize wr.drewN nq = w3 at *
            go_wp2
            exact ⟨⟨k + 1, HK.out, by go_num, by rw [HP.out]; exact HO3.out, HX3.out⟩, by have := HK.out; simp [intOf]; omega⟩
        · have hlt2 : ¬ (E : Int) ≤ (line.length : Int) := by omega
          have hpc := pcsTo_over (b := b) (line := line) (k := k) h0 fun q h1 hs => by have := hs.le h0; omega
          rw [hpc] at hown hplen
          obtain ⟨aw, cw, rfl, _, hnw, hpw⟩ := own_ps hown rfl
          have hz3 := LL.2
          clear hE LL LB hown HO
          go_wp2_with fail
          refine (HS.out wr (HB2.out.trans (HX.out.mono HB2.out.size)) t (HT2.out.keep HX.out)).mono ?_
          rintro e w5 ⟨A5, c5, rfl, hp5, hb5⟩
          have HW5 := Lib.hid (HW.out.trans (((HB2.out.trans (HX.out.mono HB2.out.size)).trans (hb5.mono (HB2.out.trans (HX.out.mono HB2.out.size)).size)).mono HW.out.size))
          have hsm := Prs.same_any (pcs b line) (pcs b line) A5 aw c5 cw w5 (by omega) hp5 ((hpw.keep hb5).more hb5.size)
          rw [decide_eq_true rfl] at hsm
          have HSM := Lib.hid hsm
          clear hsm hp5 hb5 hpw
          go_wp2_with fail
          refine HSM.out.mono ?_
          rintro e w6 ⟨rfl, q6, rfl⟩
          go_wp2
          go_ret
          exact ⟨rfl, below_drews HW5.out _⟩
  · go_wp2_with fail
    refine (few_any w1 _ _ _ _ _ _).mono ?_
    rintro e' w1' ⟨rfl, rfl⟩
    rw [decide_eq_false hf]
    go_wp2
    go_ret
    exact ⟨rfl, HW.out⟩
end Go.Proofs.Ytcoghcfhkndijaa.twowayScans
