/- The walk of TwowayFront. -/
import Derived.Test.YtcoghcfhkndijaaJc
namespace Go.Proofs.Ytcoghcfhkndijaa.twowayFront
open Go.Proofs.Ytcoghcfhkndijaa.Two Go.Proofs.Ytcoghcfhkndijaa.Suf Go.Proofs.Ytcoghcfhkndijaa.Crt Go.Proofs.Ytcoghcfhkndijaa.Prs Go.RowKit Go.Maps
set_option maxRecDepth 100000
set_option linter.unusedVariables false
open Go.Proofs.Ytcoghcfhkndijaa.Reg

set_option maxHeartbeats 8000000 in
theorem walk (w : World) (b : Tx) (ab : Option Addr) (cb : Nat) (hmb : b.length ≤ maxLen) (hbb : Bs w w.heap.size ab b) (hnb : ab = none → cb = 0) (hcb : b.length ≤ cb) (line : Tx) (aline : Option Addr) (cline : Nat) (hmline : line.length ≤ maxLen) (hbline : Bs w w.heap.size aline line) (hnline : aline = none → cline = 0) (hcline : line.length ≤ cline) (n : Nat) (hn : n < 65536) :
    Calls Try.prog 8 #[.slice ab b.length cb, .slice aline line.length cline, .int .u16 (n : Int)] w fun e w' => e = .returned (.bool true) ∧ Below w.heap.size w w' := by
  have HAW := Lib.hid (awake_any w)
  have Kb : Hid (Ln w ab b cb) := Lib.hid ⟨hbb, hcb, hnb⟩
  clear hbb hcb hnb
  have Kline : Hid (Ln w aline line cline) := Lib.hid ⟨hbline, hcline, hnline⟩
  clear hbline hcline hnline

  go_enter Try.func8, Try.ntmps8
  go_wp2_with fail
  refine HAW.out.mono ?_
  rintro e' w1 ⟨rfl, hb1⟩
  have HW := Lib.hid hb1
  have Lb : Hid (∀ X, Below w1.heap.size w1 X → Ln X ab b cb) := Lib.hid fun X hX => (Kb.out.keep hb1).keep hX
  have Lline : Hid (∀ X, Below w1.heap.size w1 X → Ln X aline line cline) := Lib.hid fun X hX => (Kline.out.keep hb1).keep hX
  clear hb1 HAW Kb Kline
  by_cases hf : b.length ≤ 100 ∧ line.length ≤ 300
  · go_wp2_with fail
    refine (few_any w1 _ _ _ _ _ _).mono ?_
    rintro e' w1' ⟨rfl, rfl⟩
    rw [decide_eq_true hf]
    obtain ⟨hf1, hf2⟩ := hf
    by_cases h0 : b = []
    · subst h0
      have hz : (([] : Tx).length : Int) = 0 := rfl
      go_wp2
      go_ret
      exact ⟨rfl, HW.out⟩
    · have hz : ((b.length : Int) == 0) = false := by simpa using h0
      have hz2 : ¬ (b.length : Int) = 0 := by simpa using h0
      have HN := Lib.hid (fun X (hX : Below w1.heap.size w1 X) => new_some X b ab cb (Lb.out X hX) h0 (by omega))
      have HS := Lib.hid (fun X (hX : Below w1.heap.size w1 X) t (ht : Tw X w1.heap.size t b) => scan_some X t b ht h0 (by omega) line aline cline (Lline.out X hX) (by omega))
      obtain ⟨K, hK⟩ : ∃ K, K = n % (line.length + 1) := ⟨_, rfl⟩
      have hKl : K ≤ line.length := by have := Nat.mod_lt n (show 0 < line.length + 1 by omega); omega
      have HMOD : Hid ((n : Int) % ((line.length : Int) + 1) = (K : Int)) := Lib.hid (by rw [hK]; exact (Int.natCast_emod n (line.length + 1)).symm)
      clear hK
      go_wp2_with fail
      rw [HMOD.out]
      refine (HN.out w1 (Below.refl _ _)).mono ?_
      rintro e w2 ⟨t, rfl, ht, hb2⟩
      have HT2 := Lib.hid ht
      have HB2 := Lib.hid hb2
      clear ht hb2 HN
      go_wp2_with fail
      refine (HS.out w2 HB2.out t HT2.out).mono ?_
      rintro e w3 ⟨A3, c3, rfl, hp3, hb3⟩
      have HP3 := Lib.hid (fun X (hX : Below w3.heap.size w3 X) => (Prs.Ps.keep hp3 hX).more hX.size)
      have HB3 := Lib.hid (HB2.out.trans (hb3.mono HB2.out.size))
      have HT3 := Lib.hid (HT2.out.keep hb3)
      have hpl : (pcs b line).length ≤ 1000 := by have := pcsTo_len b line (line.length + 1); rw [pcs]; omega
      have HF := Lib.hid (pcs_front (b := b) (line := line) h0 K hKl)
      clear hp3 hb3 HT2 HB2 HS
      obtain ⟨P, hP⟩ : ∃ P, P = pcs b line := ⟨_, rfl⟩
      rw [← hP] at HP3 HF hpl ⊢
      have HPP := Lib.hid hP
      clear hP
      go_wp2_with fail
      go_loopw [12, 14] (fun vn vi wq => ∃ j : Nat, j ≤ P.length ∧ vi = .int .i64 (j : Int) ∧ wq.ownsRow w3.heap.size 35 2 vn ((P.take j).filter fun p => decide (p.e ≤ (K : Int))).length (cellsOf ((P.take j).filter fun p => decide (p.e ≤ (K : Int)))) ∧ Below w3.heap.size w3 wq) (fun _ vi _ => P.length - (intOf vi).toNat)
      case atStart => exact ⟨0, Nat.zero_le _, rfl, World.ownsRow_nil _ _ _ _, Below.refl _ _⟩
      case round =>
        obtain ⟨j, hj, rfl, hown, hX⟩ := hrel
        have HO := Lib.hid hown
        have HX := Lib.hid hX
        have hzl := hX.size
        clear hown hX
        by_cases hjl : j < P.length
        · have hjl2 : (j : Int) < (P.length : Int) := by omega
          obtain ⟨b1, o1, rfl, hbx, hcs⟩ := HP3.out wr HX.out (by omega)
          obtain ⟨hc1, hc2⟩ := hcs j hjl
          have htk : P.take (j + 1) = P.take j ++ [P[j]] := by rw [List.take_add_one, List.getElem?_eq_getElem hjl]; rfl
          have HTK := Lib.hid htk
          have hfl : ((P.take j).filter fun p => decide (p.e ≤ (K : Int))).length ≤ 1000 := by
            have h1 := List.length_filter_le (fun p : Pr => decide (p.e ≤ (K : Int))) (P.take j)
            rw [List.length_take] at h1
            omega
          obtain ⟨R, hR⟩ : ∃ R, R = (P.take j).filter fun p => decide (p.e ≤ (K : Int)) := ⟨_, rfl⟩
          rw [← hR] at HO hfl
          have HRR := Lib.hid hR
          clear hcs hbx htk hR
          obtain ⟨q, hq⟩ : ∃ q, q = P[j] := ⟨_, rfl⟩
          rw [← hq] at hc1 hc2 HTK
          clear hq
          by_cases hle : q.e ≤ (K : Int)
          · have HNX : Hid ((P.take (j + 1)).filter (fun p => decide (p.e ≤ (K : Int))) = R ++ [⟨q.s, q.e⟩]) := Lib.hid (by rw [HTK.out, List.filter_append, ← HRR.out]; simp [hle])
            have BA := Lib.hid (((Below.refl wr.heap.size wr).alloc (Nat.le_refl _) (.cells #[.int .i64 q.s, .int .i64 q.e] 35)))
            go_wp2_with (at_builtin; refine Prs.app_ps rfl _ _ rfl w3.heap.size _ _ R rfl (HO.out.alloc _) (some ⟨wr.heap.size, 0, none⟩) [⟨q.s, q.e⟩] 1 (wr.heap.size + 1) rfl (by have := Prs.ps_one wr ⟨q.s, q.e⟩ (0, 0); rwa [World.size_alloc] at this) (fun e => by cases e) (by simp only [List.length_cons, List.length_nil]; omega) (by simp; omega) ?_; intro v7 w7 hown7 hg7; have H7 := Lib.hid hown7; have HX7 := Lib.hid (Prs.app_below (HX.out.trans (BA.out.mono hzl)) (HO.out.alloc _) hg7 (by simp; omega) (Nat.le_refl _)); clear hown7 hg7)
            exact ⟨⟨j + 1, by omega, by go_num, by rw [HNX.out, List.length_append (bs := [_])]; exact H7.out, HX7.out⟩, by simp [intOf]; omega⟩
          · have HNX : Hid ((P.take (j + 1)).filter (fun p => decide (p.e ≤ (K : Int))) = R) := Lib.hid (by rw [HTK.out, List.filter_append, ← HRR.out]; simp [hle])
            go_wp2
            exact ⟨⟨j + 1, by omega, by go_num, by rw [HNX.out]; exact HO.out, HX.out⟩, by simp [intOf]; omega⟩
        · obtain rfl : j = P.length := by omega
          have hjl2 : ¬ (P.length : Int) < (P.length : Int) := by omega
          rw [List.take_length] at HO
          have hfl : (P.filter fun p => decide (p.e ≤ (K : Int))).length ≤ 1000 := by
            have h1 := List.length_filter_le (fun p : Pr => decide (p.e ≤ (K : Int))) P
            omega
          obtain ⟨R, hR⟩ : ∃ R, R = P.filter fun p => decide (p.e ≤ (K : Int)) := ⟨_, rfl⟩
          rw [← hR] at HO HF hfl
          obtain ⟨aw, cw, rfl, _, hnw, hpw⟩ := own_ps HO.out rfl
          have HPW := Lib.hid hpw
          have HB4 := Lib.hid (HB3.out.trans (HX.out.mono HB3.out.size))
          have LL := Lline.out wr HB4.out
          obtain ⟨hcut, hbF⟩ := Cut.cut_front aline line cline K hKl LL.2.1 wr _ LL.1
          have HLT : Hid (Ln wr aline (line.take K) cline) := Lib.hid ⟨hbF, by rw [List.length_take]; have := LL.2.1; omega, LL.2.2⟩
          have HLN : Hid ((line.take K).length = K) := Lib.hid (by rw [List.length_take]; omega)
          have HSC := scan_some wr t b (HT3.out.keep HX.out) h0 (by omega) (line.take K) aline cline HLT.out (by rw [HLN.out]; omega)
          rw [HLN.out, HF.out] at HSC
          have HSC2 := Lib.hid HSC
          clear LL hcut hbF hpw hR HSC
          have hcut := (Cut.cut_front aline line cline K hKl (Lline.out wr HB4.out).2.1 wr _ (Lline.out wr HB4.out).1).1
          go_wp2_with fail
          refine HSC2.out.mono ?_
          rintro e w5 ⟨A5, c5, rfl, hp5, hb5⟩
          have HW5 := Lib.hid (HW.out.trans ((HB4.out.trans (hb5.mono HB4.out.size)).mono HW.out.size))
          have hsm := Prs.same_any R R A5 aw c5 cw w5 (by omega) hp5 ((HPW.out.keep hb5).more hb5.size)
          rw [decide_eq_true rfl] at hsm
          have HSM := Lib.hid hsm
          clear hsm hp5 hb5
          go_wp2_with fail
          refine HSM.out.mono ?_
          rintro e w6 ⟨rfl, q6, rfl⟩
          go_wp2
          go_ret
          exact ⟨rfl, below_drews HW5.out _⟩
  · go_wp2_with fail
    refine (few_any w1 _ _ _ _ _ _).mono ?_
    rintro e' w1' ⟨rfl, rfl⟩
    rw [decide_eq_false hf]
    go_wp2
    go_ret
    exact ⟨rfl, HW.out⟩
end Go.Proofs.Ytcoghcfhkndijaa.twowayFront
