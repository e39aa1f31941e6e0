/- The walk of EngineFinds. -/
import Derived.Test.YtcbhjhhajeeimaaGreatEngC
namespace Go.Proofs.YtcbhjhhajeeimaaGreat.engineFinds
open Go.Proofs.YtcbhjhhajeeimaaGreat.Tri Go.Proofs.YtcbhjhhajeeimaaGreat.Lnk Go.Proofs.YtcbhjhhajeeimaaGreat.Prs Go.Proofs.YtcbhjhhajeeimaaGreat.Spa Go.Proofs.YtcbhjhhajeeimaaGreat.Eng Go.Proofs.YtcbhjhhajeeimaaGreat.Reg Go.RowKit Go.Maps
set_option maxRecDepth 100000
set_option linter.unusedVariables false
attribute [local go_sem ↓] Met.eql_counts

set_option maxHeartbeats 8000000 in
theorem small (w : World) (tag : Int) (wtag : (Lit.int .i64 tag).wf = true) (xs : List TxV) (a0 : Option Addr) (cap0 : Nat) (hts : Ts w a0 xs) (h0 : xs.length ≤ 12) (hx : ∀ x ∈ xs, x.text.length ≤ 40) (line : Tx) (aline : Option Addr) (cline : Nat) (hmline : line.length ≤ maxLen) (hbline : Bs w w.heap.size aline line) (hnline : aline = none → cline = 0) (hcline : line.length ≤ cline) :
    Calls Tryz.prog 3 #[.int .i64 tag, .slice a0 xs.length cap0, .slice aline line.length cline] w fun e w' => e = .returned (.bool true) ∧ Below w.heap.size w w' := by
  have Kline : Hid (Bs w w.heap.size aline line ∧ line.length ≤ cline ∧ (aline = none → cline = 0)) := Lib.hid ⟨hbline, hcline, hnline⟩
  clear hbline hcline hnline hmline
  have hx' : ∀ x ∈ xs, x.text.length ≤ maxLen := fun x h => Nat.le_trans (hx x h) (by unfold maxLen; omega)
  have htot := Spa.few_tot h0 hx
  have HX := Lib.hid hx
  have HX' := Lib.hid hx'
  have HAW := Lib.hid (Eng.awake_any w)
  clear hx hx'
  go_enter Tryz.func3, Tryz.ntmps3
  go_wp2_with fail
  refine HAW.out.mono ?_
  rintro e' w1 ⟨rfl, hb2⟩
  have ts1 := hts.keep hb2
  go_wp2_with fail
  refine (ltexts_any xs a0 cap0 w1 ts1 (by omega) HX'.out).mono ?_
  rintro e' w2 ⟨hb3, hcase⟩
  rcases hcase with ⟨hbad, _⟩ | ⟨_, aL, cL, rfl, hsL⟩
  · exact absurd HX.out hbad
  rw [decide_eq_true h0]
  have HTS := Lib.hid (ts1.keep hb3)
  have HB := Lib.hid (hb2.trans (hb3.mono hb2.size))
  have hszw := HB.out.size
  obtain ⟨l, hl⟩ : ∃ l, l = xs.map TxV.text := ⟨_, rfl⟩
  have HLN : Hid (xs.length = l.length) := Lib.hid (by rw [hl]; simp)
  have HLL := Lib.hid hl
  have HL40 : Hid (∀ x ∈ l, x.length ≤ 40) := Lib.hid fun x h => by
    rw [hl] at h
    obtain ⟨y, hy, rfl⟩ := List.mem_map.1 h
    exact HX.out y hy
  rw [← hl] at hsL htot
  have HSL := Lib.hid hsL
  have hpl : (Pat.pats l).length ≤ 12 := by have h1 := Pat.pats_len l; have h2 := HLN.out; omega
  have HP40 : Hid (∀ x ∈ Pat.pats l, x.length ≤ 40) := Lib.hid fun x h => HL40.out x ((Pat.mem_pats l x).1 h).1
  have htp : tot (Pat.pats l) ≤ 480 := by have h1 : Pat.bytesIn (Pat.pats l) ≤ _ := Pat.bytesIn_le (Pat.pats l) 40 HP40.out; rw [bytes_tot] at h1; have := Nat.mul_le_mul_right 40 hpl; omega
  have HOF : Hid (∀ X, Below w2.heap.size w2 X → Calls Tryz.prog 13 #[.slice a0 xs.length cap0] X (Pat.GivesSet X l)) := Lib.hid fun X hX => by
    have := Pat.of_any xs a0 cap0 X (HTS.out.keep hX) (by omega) (fun x h => Nat.le_trans (HX.out x h) (by omega))
    rwa [← HLL.out] at this
  have HNEW : Hid (∀ X m a c, Pat.IsSet X m a l → ∀ tag : Int, (Lit.int .i64 tag).wf = true → Calls Tryz.prog 12 #[.int .i64 tag, .agg #[.map m, .slice a (Pat.pats l).length c]] X (GivesEn X tag l)) := Lib.hid fun X m a c hs tag ht => enew_any X tag ht m a c l hs (by have := HLN.out; omega) (fun x h => Nat.le_trans (HL40.out x h) (by omega)) (by omega)
  have Lline : Hid (∀ X, Below w2.heap.size w2 X → Bs X X.heap.size aline line) := Lib.hid fun X hX => ((Kline.out.1.keep HB.out).keep (hX.mono hszw)).more (Nat.le_trans hszw hX.size)
  have hcapline := Kline.out.2.1
  have Hnilline := Lib.hid Kline.out.2.2
  clear HX HX' HAW hb2 hb3 ts1 hsL hts hl Kline
  go_wp2_with fail
  refine (few_any w2 _ _ _).mono ?_
  rintro e3 w3 ⟨rfl, rfl⟩
  by_cases hf : line.length ≤ 120
  · rw [decide_eq_true hf]
    have HRO : Hid (Calls Tryz.prog 11 #[.slice aL xs.length cL] w2 (Pat.GivesRSet w2 l)) := Lib.hid (by
      have := Pat.rof_any l aL cL w2 HSL.out (by have := HLN.out; omega)
      rwa [← HLN.out] at this)
    go_wp2_with fail
    refine HRO.out.mono ?_
    rintro e' w3 ⟨aR, cR, rfl, hsR, hb3⟩
    obtain ⟨bb, cc0, cc1⟩ := rbox w3 (Pat.pats l) aR cR (decide (([] : Tx) ∈ l))
    obtain ⟨em, hem⟩ : ∃ em, em = decide (([] : Tx) ∈ l) := ⟨_, rfl⟩
    have HEM := Lib.hid hem
    rw [← hem]
    rw [← hem] at bb cc0 cc1
    have hsR' : Ss w3 aR (Pat.pats l) := hsR
    have hlt : w3.heap.size < (w3.alloc (.cells #[.slice aR (Pat.pats l).length cR, .bool em] 30)).heap.size := by simp
    generalize hw4 : w3.alloc (.cells #[.slice aR (Pat.pats l).length cR, .bool em] 30) = w4 at *
    have HB4 := Lib.hid (hb3.trans (bb.mono hb3.size))
    have HSR := Lib.hid (hsR'.keep bb)
    clear hsR hsR' hb3 bb hem HRO
    go_wp2_with fail
    refine (HOF.out w4 HB4.out).mono ?_
    rintro e' w5 ⟨m, aS, cS, rfl, hset, hb5⟩
    have HS5 := Lib.hid hset
    have HB5 := Lib.hid (HB4.out.trans (hb5.mono HB4.out.size))
    have d0 := (hb5.cell (p := ⟨w3.heap.size, 0, none⟩) hlt).trans cc0
    have d1 := (hb5.cell (p := ⟨w3.heap.size, 1, none⟩) hlt).trans cc1
    have HR5 := Lib.hid (HSR.out.keep hb5)
    have hlt5 := Nat.lt_of_lt_of_le hlt hb5.size
    clear hset hb5 cc0 cc1 hlt HSR HB4 HOF
    go_wp2_with fail
    refine (HNEW.out w5 m aS cS HS5.out tag wtag).mono ?_
    rintro e' w6 ⟨p, rfl, hpn, hpe, hb6⟩
    have HPN := Lib.hid hpn
    have HPE := Lib.hid hpe
    have HB6 := Lib.hid (HB5.out.trans (hb6.mono HB5.out.size))
    have c0 := (hb6.cell (p := ⟨w3.heap.size, 0, none⟩) hlt5).trans d0
    have c1 := (hb6.cell (p := ⟨w3.heap.size, 1, none⟩) hlt5).trans d1
    have HR6 := Lib.hid (HR5.out.keep hb6)
    have hlt6 := Nat.lt_of_lt_of_le hlt5 hb6.size
    clear hpn hpe hb6 d0 d1 hlt5 HR5 HB5 HS5 HNEW
    have HRW : Hid (Calls Tryz.prog 14 #[.int .i64 tag, .agg #[.slice aR (Pat.pats l).length cR, .bool em]] w6 fun e w' => e = .returned (.int .i64 (wrongI tag l)) ∧ Below w6.heap.size w6 w') := Lib.hid (by
      have := rwrong_any w6 tag wtag l aR cR HR6.out (by omega) (by omega)
      unfold rset at this
      rwa [← HEM.out] at this)
    go_wp2_with fail
    refine HRW.out.mono ?_
    rintro e' w7 ⟨rfl, hb7⟩
    have HB7 := Lib.hid (HB6.out.trans (hb7.mono HB6.out.size))
    have d0 := (hb7.cell (p := ⟨w3.heap.size, 0, none⟩) hlt6).trans c0
    have d1 := (hb7.cell (p := ⟨w3.heap.size, 1, none⟩) hlt6).trans c1
    have HR7 := Lib.hid (HR6.out.keep hb7)
    have HPE7 : Hid (wrongI tag l = 0 → En w7 p tag l) := Lib.hid fun h => (HPE.out h).keep hb7
    have hlt7 := Nat.lt_of_lt_of_le hlt6 hb7.size
    clear hb7 c0 c1 hlt6 HR6 HB6 HPE HRW
    have HIS := Lib.hid (eis_any w7 tag wtag)
    have hzz : (wrongI tag l != wrongI tag l) = false := bne_self_eq_false _
    by_cases hz : wrongI tag l = 0
    · have htag : 0 ≤ tag ∧ tag ≤ 3 := by
        unfold wrongI at hz
        by_cases h : tag < 0 ∨ 3 < tag
        · rw [if_pos h] at hz; cases hz
        · omega
      have HEN7 := Lib.hid (HPE7.out hz)
      obtain ⟨gp, rfl⟩ := HEN7.out.some
      rw [hz] at hzz ⊢
      have ht0 := htag.1
      have ht3 := htag.2
      rw [decide_eq_true htag] at HIS
      clear htag hz hzz HPN HPE7
      go_wp2_with (go_at_call 15; (with_reducible refine HIS.out.mono ?_); rintro e' w8 ⟨rfl, hb8⟩)
      have HEN8 := Lib.hid (HEN7.out.keep hb8)
      have HB8 := Lib.hid (HB7.out.trans (hb8.mono HB7.out.size))
      have c0 := (hb8.cell (p := ⟨w3.heap.size, 0, none⟩) hlt7).trans d0
      have c1 := (hb8.cell (p := ⟨w3.heap.size, 1, none⟩) hlt7).trans d1
      have HR8 := Lib.hid (HR7.out.keep hb8)
      have hlt8 := Nat.lt_of_lt_of_le hlt7 hb8.size
      clear hb8 d0 d1 hlt7 HR7 HB7 HEN7
      refine (Met.new_any w8).mono ?_
      rintro e9 w9 ⟨rfl, hw9⟩
      have b9 : Below w8.heap.size w8 w9 := by rw [hw9]; exact below_new _ _
      have m9 : Met.Cnt w9 w8.heap.size 0 0 0 0 := by rw [hw9]; exact cnt_new w8
      have hsz8 := HB8.out.size
      have B9 := HB8.out.trans (b9.mono hsz8)
      clear hw9
      have CF := efind_any w9 (some gp) tag l (HEN8.out.keep b9) (some ⟨w8.heap.size, 0, none⟩) line aline cline (Lline.out w9 B9) hcapline Hnilline.out (by omega) 0 0 0 0 (.inr ⟨_, rfl, m9⟩) (by omega) (by omega) (by omega) (by omega)
      go_wp2_with fail
      refine CF.mono ?_
      rintro e10 W ⟨A, cA, rfl, hpA, hnA, hM, hg⟩
      rw [Int.zero_add, Int.zero_add] at hM
      have hcn : Met.Cnt W w8.heap.size (scanN tag l line : Int) (lookN tag l line : Int) 0 0 := by
        rcases hM with h | ⟨g, h, hh⟩
        · cases h
        · cases h; exact hh
      have HWB8 : Hid (Below w8.heap.size w8 W) := Lib.hid (grown_below b9 hg (Nat.le_refl _))
      have HWB : Hid (Below w2.heap.size w2 W) := Lib.hid (HB8.out.trans (HWB8.out.mono hsz8))
      have d0 := (HWB8.out.cell (p := ⟨w3.heap.size, 0, none⟩) hlt8).trans c0
      have d1 := (HWB8.out.cell (p := ⟨w3.heap.size, 1, none⟩) hlt8).trans c1
      have HRW8 := Lib.hid (HR8.out.keep HWB8.out)
      have HENW := Lib.hid (HEN8.out.keep HWB8.out)
      have hltW := Nat.lt_of_lt_of_le hlt8 HWB8.out.size
      have HCN := Lib.hid hcn
      have HPA := Lib.hid hpA
      have hlb := look_bound tag l line
      have hsb : scanN tag l line ≤ line.length := by unfold scanN; split <;> omega
      clear c0 c1 hM hcn hpA hg B9 b9 m9 CF HR8 HEN8 hlt8
      have HCV : Hid (∀ X, Below W.heap.size W X → (convert 23 9 (.slice aline line.length cline)).run Tryz.prog X = .ok (.string (str line)) X) := Lib.hid fun X h => str_of_bs cline (Lline.out X (HWB.out.trans (h.mono HWB.out.size)))
      have HRC : Hid (Calls Tryz.prog 20 #[.int .i64 tag, .agg #[.slice aR (Pat.pats l).length cR, .bool em], .string (str line)] W fun e w' => e = .returned (.tuple #[.int .i64 (scanN tag l line : Int), .int .i64 (lookN tag l line : Int)]) ∧ Below W.heap.size W w') := Lib.hid (by
        have := rcounts_any W tag wtag l aR cR HRW8.out (by omega) (by omega) line (by omega)
        unfold rset at this
        rwa [← HEM.out] at this)
      have hcv := HCV.out W (Below.refl _ _)
      go_wp2_with fail
      refine HRC.out.mono ?_
      rintro e11 w10 ⟨rfl, hb10⟩
      have HB10 := Lib.hid (HWB.out.trans (hb10.mono HWB.out.size))
      have hcv10 := HCV.out w10 hb10
      have c0 := (hb10.cell (p := ⟨w3.heap.size, 0, none⟩) hltW).trans d0
      have c1 := (hb10.cell (p := ⟨w3.heap.size, 1, none⟩) hltW).trans d1
      have HRF : Hid (Calls Tryz.prog 22 #[.agg #[.slice aR (Pat.pats l).length cR, .bool em], .string (str line)] w10 (Gives w10 (findOf l line))) := Lib.hid (by
        have := rfind_any w10 l aR cR (HRW8.out.keep hb10) (by omega) (fun x h => Nat.le_trans (HP40.out x h) (by omega)) line (by omega)
        unfold rset at this
        rwa [← HEM.out] at this)
      have HPA10 := Lib.hid ((HPA.out.keep hb10).more hb10.size)
      have HCN10 := Lib.hid (HCN.out.same (hb10.block _ HCN.out.lt))
      have HEN10 := Lib.hid (HENW.out.keep hb10)
      clear hb10 d0 d1 hcv HRC HRW8 HPA HCN HENW
      go_wp2_with fail
      refine HRF.out.mono ?_
      rintro e12 w11 ⟨aF, cF, rfl, _, _, hpF, hb11⟩
      have HB11 := Lib.hid (HB10.out.trans (hb11.mono HB10.out.size))
      have HPA11 := Lib.hid ((HPA10.out.keep hb11).more hb11.size)
      have HPF := Lib.hid hpF
      have HCN11 := Lib.hid (HCN10.out.same (hb11.block _ HCN10.out.lt))
      have HEN11 := Lib.hid (HEN10.out.keep hb11)
      have hfl := find_length l line (by omega)
      clear hb11 hpF c0 c1 hcv10 HRF HPA10 HCN10 HEN10
      have HSM := Lib.hid (same_any (findOf l line) (findOf l line) A aF cA cF w11 (by omega) HPA11.out HPF.out)
      have hdd : decide (findOf l line = findOf l line) = true := decide_eq_true rfl
      rw [hdd] at HSM
      clear hdd
      go_wp2_with (first
        | (go_at_call 21; (with_reducible refine HSM.out.mono ?_); rintro e13 w12 ⟨rfl, q, hq⟩; have hb12 := below_drews (Below.refl w11.heap.size w11) q; rw [← hq] at hb12; have HB12 := Lib.hid (HB11.out.trans (hb12.mono HB11.out.size)); have HCT := Lib.hid (Met.counts_some w12 _ _ _ _ _ (HCN11.out.same (hb12.block _ HCN11.out.lt))); have HEN12 := Lib.hid (HEN11.out.keep hb12); clear hb12 hq)
        | (go_at_call 18; (with_reducible refine HCT.out.mono ?_); rintro e14 w13 ⟨rfl, hb13⟩; have HB13 := Lib.hid (HB12.out.trans (hb13.mono HB12.out.size)); have HTG := Lib.hid (etag_any w13 _ _ _ (HEN12.out.keep hb13)); clear hb13)
        | (go_at_call 19; (with_reducible refine HTG.out.mono ?_); rintro e15 w14 ⟨rfl, hb14⟩; have HB14 := Lib.hid (HB13.out.trans (hb14.mono HB13.out.size)); clear hb14))
      go_ret
      exact ⟨rfl, HB.out.trans (HB14.out.mono hszw)⟩
    · have hzn : (wrongI tag l != 0) = true := by rw [bne_iff_ne]; exact hz
      have hp0 := HPN.out hz
      subst hp0
      by_cases ht0 : 0 ≤ tag
      · by_cases ht3 : tag ≤ 3
        · have htt : 0 ≤ tag ∧ tag ≤ 3 := ⟨ht0, ht3⟩
          rw [decide_eq_true htt] at HIS
          clear htt HPE7 HPN hz
          generalize wrongI tag l = z at *
          go_wp2_with (go_at_call 15; (with_reducible refine HIS.out.mono ?_); rintro e' w8 ⟨rfl, hb8⟩)
          have HB8 := Lib.hid (HB7.out.trans (hb8.mono HB7.out.size))
          clear hb8 HB7
          refine (Met.new_any w8).mono ?_
          rintro e9 w9 ⟨rfl, hw9⟩
          have b9 : Below w8.heap.size w8 w9 := by rw [hw9]; exact below_new _ _
          have m9 : Met.Cnt w9 w8.heap.size 0 0 0 0 := by rw [hw9]; exact cnt_new w8
          clear hw9
          have CF := efind_none w9 (some ⟨w8.heap.size, 0, none⟩) line aline cline 0 0 0 0 (.inr ⟨_, rfl, m9⟩)
          go_wp2_with fail
          refine CF.mono ?_
          rintro e10 W ⟨A, cA, rfl, _, _, hM, hg⟩
          have hcn : Met.Cnt W w8.heap.size 0 0 0 0 := by
            rcases hM with h | ⟨g, h, hh⟩
            · cases h
            · cases h; exact hh
          have HWB8 : Hid (Below w8.heap.size w8 W) := Lib.hid (grown_below b9 hg (Nat.le_refl _))
          have HWB := Lib.hid (HB8.out.trans (HWB8.out.mono HB8.out.size))
          have HCT := Lib.hid (Met.counts_some W _ _ _ _ _ hcn)
          clear hM hg b9 m9 CF hcn
          go_wp2_with (first
            | (go_at_call 18; (with_reducible refine HCT.out.mono ?_); rintro e14 w13 ⟨rfl, hb13⟩; have HB13 := Lib.hid (HWB.out.trans (hb13.mono HWB.out.size)); have HTG := Lib.hid (etag_none w13); clear hb13)
            | (go_at_call 19; (with_reducible refine HTG.out.mono ?_); rintro e15 w14 ⟨rfl, hb14⟩; have HB14 := Lib.hid (HB13.out.trans (hb14.mono HB13.out.size)); clear hb14))
          go_ret
          exact ⟨rfl, HB.out.trans (HB14.out.mono hszw)⟩
        · have htt : ¬ (0 ≤ tag ∧ tag ≤ 3) := fun h => ht3 h.2
          rw [decide_eq_false htt] at HIS
          clear htt HPE7 HPN hz
          generalize wrongI tag l = z at *
          go_wp2_with (go_at_call 15; (with_reducible refine HIS.out.mono ?_); rintro e' w8 ⟨rfl, hb8⟩)
          have HB8 := Lib.hid (HB7.out.trans (hb8.mono HB7.out.size))
          clear hb8 HB7
          refine (Met.new_any w8).mono ?_
          rintro e9 w9 ⟨rfl, hw9⟩
          have b9 : Below w8.heap.size w8 w9 := by rw [hw9]; exact below_new _ _
          have m9 : Met.Cnt w9 w8.heap.size 0 0 0 0 := by rw [hw9]; exact cnt_new w8
          clear hw9
          have CF := efind_none w9 (some ⟨w8.heap.size, 0, none⟩) line aline cline 0 0 0 0 (.inr ⟨_, rfl, m9⟩)
          go_wp2_with fail
          refine CF.mono ?_
          rintro e10 W ⟨A, cA, rfl, _, _, hM, hg⟩
          have hcn : Met.Cnt W w8.heap.size 0 0 0 0 := by
            rcases hM with h | ⟨g, h, hh⟩
            · cases h
            · cases h; exact hh
          have HWB8 : Hid (Below w8.heap.size w8 W) := Lib.hid (grown_below b9 hg (Nat.le_refl _))
          have HWB := Lib.hid (HB8.out.trans (HWB8.out.mono HB8.out.size))
          have HCT := Lib.hid (Met.counts_some W _ _ _ _ _ hcn)
          clear hM hg b9 m9 CF hcn
          go_wp2_with (first
            | (go_at_call 18; (with_reducible refine HCT.out.mono ?_); rintro e14 w13 ⟨rfl, hb13⟩; have HB13 := Lib.hid (HWB.out.trans (hb13.mono HWB.out.size)); have HTG := Lib.hid (etag_none w13); clear hb13)
            | (go_at_call 19; (with_reducible refine HTG.out.mono ?_); rintro e15 w14 ⟨rfl, hb14⟩; have HB14 := Lib.hid (HB13.out.trans (hb14.mono HB13.out.size)); clear hb14))
          go_ret
          exact ⟨rfl, HB.out.trans (HB14.out.mono hszw)⟩
      · have htt : ¬ (0 ≤ tag ∧ tag ≤ 3) := fun h => ht0 h.1
        rw [decide_eq_false htt] at HIS
        clear htt HPE7 HPN hz
        generalize wrongI tag l = z at *
        go_wp2_with (go_at_call 15; (with_reducible refine HIS.out.mono ?_); rintro e' w8 ⟨rfl, hb8⟩)
        have HB8 := Lib.hid (HB7.out.trans (hb8.mono HB7.out.size))
        clear hb8 HB7
        refine (Met.new_any w8).mono ?_
        rintro e9 w9 ⟨rfl, hw9⟩
        have b9 : Below w8.heap.size w8 w9 := by rw [hw9]; exact below_new _ _
        have m9 : Met.Cnt w9 w8.heap.size 0 0 0 0 := by rw [hw9]; exact cnt_new w8
        clear hw9
        have CF := efind_none w9 (some ⟨w8.heap.size, 0, none⟩) line aline cline 0 0 0 0 (.inr ⟨_, rfl, m9⟩)
        go_wp2_with fail
        refine CF.mono ?_
        rintro e10 W ⟨A, cA, rfl, _, _, hM, hg⟩
        have hcn : Met.Cnt W w8.heap.size 0 0 0 0 := by
          rcases hM with h | ⟨g, h, hh⟩
          · cases h
          · cases h; exact hh
        have HWB8 : Hid (Below w8.heap.size w8 W) := Lib.hid (grown_below b9 hg (Nat.le_refl _))
        have HWB := Lib.hid (HB8.out.trans (HWB8.out.mono HB8.out.size))
        have HCT := Lib.hid (Met.counts_some W _ _ _ _ _ hcn)
        clear hM hg b9 m9 CF hcn
        go_wp2_with (first
          | (go_at_call 18; (with_reducible refine HCT.out.mono ?_); rintro e14 w13 ⟨rfl, hb13⟩; have HB13 := Lib.hid (HWB.out.trans (hb13.mono HWB.out.size)); have HTG := Lib.hid (etag_none w13); clear hb13)
          | (go_at_call 19; (with_reducible refine HTG.out.mono ?_); rintro e15 w14 ⟨rfl, hb14⟩; have HB14 := Lib.hid (HB13.out.trans (hb14.mono HB13.out.size)); clear hb14))
        go_ret
        exact ⟨rfl, HB.out.trans (HB14.out.mono hszw)⟩
  · rw [decide_eq_false hf]
    go_wp2
    go_ret
    exact ⟨rfl, HB.out⟩
set_option maxHeartbeats 8000000 in
theorem walk (w : World) (tag : Int) (wtag : (Lit.int .i64 tag).wf = true) (xs : List TxV) (a0 : Option Addr) (cap0 : Nat) (hz0 : xs.length ≤ 6000000000000) (hx0 : ∀ x ∈ xs, x.text.length ≤ maxLen) (hts : Ts w a0 xs) (line : Tx) (aline : Option Addr) (cline : Nat) (hmline : line.length ≤ maxLen) (hbline : Bs w w.heap.size aline line) (hnline : aline = none → cline = 0) (hcline : line.length ≤ cline) :
    Calls Tryz.prog 3 #[.int .i64 tag, .slice a0 xs.length cap0, .slice aline line.length cline] w fun e w' => e = .returned (.bool true) ∧ Below w.heap.size w w' := by
  by_cases hall : xs.length ≤ 12 ∧ (∀ x ∈ xs, x.text.length ≤ 40)
  · exact small w tag wtag xs a0 cap0 hts hall.1 hall.2 line aline cline hmline hbline hnline hcline
  · clear hmline hbline hnline hcline
    have HALL := Lib.hid hall
    have HX := Lib.hid hx0
    clear hall hx0
    go_enter Tryz.func3, Tryz.ntmps3
    go_wp2_with fail
    refine (Eng.awake_any _).mono ?_
    rintro e' w1 ⟨rfl, hb2⟩
    have ts1 := hts.keep hb2
    go_wp2_with fail
    refine (ltexts_any xs a0 cap0 w1 ts1 hz0 HX.out).mono ?_
    rintro e' w2 ⟨hb3, hcase⟩
    have B2 := hb2.trans (hb3.mono hb2.size)
    rcases hcase with ⟨_, rfl⟩ | ⟨hok, aL, cL, rfl, _⟩
    · skip
      go_wp2_with fail
      refine (few_any _ _ _ _).mono ?_
      rintro e3 w3 ⟨rfl, rfl⟩
      go_wp2
      go_ret
      exact ⟨rfl, B2⟩
    · have h12 : ¬ xs.length ≤ 12 := fun h => HALL.out ⟨h, hok⟩
      rw [decide_eq_false h12]
      clear HALL hok
      go_wp2_with fail
      refine (few_any _ _ _ _).mono ?_
      rintro e3 w3 ⟨rfl, rfl⟩
      go_wp2
      go_ret
      exact ⟨rfl, B2⟩
end Go.Proofs.YtcbhjhhajeeimaaGreat.engineFinds
