/- The walk of EngineSame. -/
import Derived.Test.YtcbhjhhajeeimaaGreatEngC
namespace Go.Proofs.YtcbhjhhajeeimaaGreat.engineSame
open Go.Proofs.YtcbhjhhajeeimaaGreat.Tri Go.Proofs.YtcbhjhhajeeimaaGreat.Lnk Go.Proofs.YtcbhjhhajeeimaaGreat.Prs Go.Proofs.YtcbhjhhajeeimaaGreat.Spa Go.Proofs.YtcbhjhhajeeimaaGreat.Eng Go.Proofs.YtcbhjhhajeeimaaGreat.Reg Go.RowKit Go.Maps
set_option maxRecDepth 100000
set_option linter.unusedVariables false
attribute [local go_sem ↓] Met.eql_counts
theorem mod_tag (t : UInt8) : ∃ T : Int, (t.toNat : Int) % 4 = T ∧ 0 ≤ T ∧ T ≤ 3 ∧ (Lit.int .i64 T).wf = true := by
  have h1 : 0 ≤ (t.toNat : Int) % 4 := by omega
  have h2 : (t.toNat : Int) % 4 ≤ 3 := by omega
  exact ⟨_, rfl, h1, h2, wf_nat (by omega) (by omega)⟩
theorem wrong_tag {T : Int} (h0 : 0 ≤ T) (h3 : T ≤ 3) (l : List Tx) : wrongI T l = 0 ∨ wrongI T l = 13 ∨ wrongI T l = 14 := by
  rcases wrong_cases T l with h | h | h | h
  · exact .inl h
  · unfold wrongI at h
    rw [if_neg (by omega)] at h
    split at h
    · cases h
    · split at h <;> cases h
  · exact .inr (.inl h)
  · exact .inr (.inr h)

set_option maxHeartbeats 8000000 in
theorem small (w : World) (xs : List TxV) (a0 : Option Addr) (cap0 : Nat) (hts : Ts w a0 xs) (h0 : xs.length ≤ 12) (hx : ∀ x ∈ xs, x.text.length ≤ 40) (line : Tx) (aline : Option Addr) (cline : Nat) (hmline : line.length ≤ maxLen) (hbline : Bs w w.heap.size aline line) (hnline : aline = none → cline = 0) (hcline : line.length ≤ cline) (ta : UInt8) (tb : UInt8) :
    Calls Tryz.prog 4 #[.slice a0 xs.length cap0, .slice aline line.length cline, .int .u8 (ta.toNat : Int), .int .u8 (tb.toNat : Int)] w fun e w' => e = .returned (.bool true) ∧ Below w.heap.size w w' := by
  have Kline : Hid (Bs w w.heap.size aline line ∧ line.length ≤ cline ∧ (aline = none → cline = 0)) := Lib.hid ⟨hbline, hcline, hnline⟩
  clear hbline hcline hnline hmline
  have hx' : ∀ x ∈ xs, x.text.length ≤ maxLen := fun x h => Nat.le_trans (hx x h) (by unfold maxLen; omega)
  have htot := Spa.few_tot h0 hx
  have HX := Lib.hid hx
  have HX' := Lib.hid hx'
  have HAW := Lib.hid (Eng.awake_any w)
  clear hx hx'
  go_enter Tryz.func4, Tryz.ntmps4
  go_wp2_with fail
  refine HAW.out.mono ?_
  rintro e' w1 ⟨rfl, hb2⟩
  have ts1 := hts.keep hb2
  go_wp2_with fail
  refine (ltexts_any xs a0 cap0 w1 ts1 (by omega) HX'.out).mono ?_
  rintro e' w2 ⟨hb3, hcase⟩
  rcases hcase with ⟨hbad, _⟩ | ⟨_, aL, cL, rfl, hsL⟩
  · exact absurd HX.out hbad
  rw [decide_eq_true h0]
  have HTS := Lib.hid (ts1.keep hb3)
  have HB := Lib.hid (hb2.trans (hb3.mono hb2.size))
  have hszw := HB.out.size
  obtain ⟨l, hl⟩ : ∃ l, l = xs.map TxV.text := ⟨_, rfl⟩
  have HLN : Hid (xs.length = l.length) := Lib.hid (by rw [hl]; simp)
  have HLL := Lib.hid hl
  have HL40 : Hid (∀ x ∈ l, x.length ≤ 40) := Lib.hid fun x h => by
    rw [hl] at h
    obtain ⟨y, hy, rfl⟩ := List.mem_map.1 h
    exact HX.out y hy
  rw [← hl] at hsL htot
  have HSL := Lib.hid hsL
  have hpl : (Pat.pats l).length ≤ 12 := by have h1 := Pat.pats_len l; have h2 := HLN.out; omega
  have HP40 : Hid (∀ x ∈ Pat.pats l, x.length ≤ 40) := Lib.hid fun x h => HL40.out x ((Pat.mem_pats l x).1 h).1
  have htp : tot (Pat.pats l) ≤ 480 := by have h1 : Pat.bytesIn (Pat.pats l) ≤ _ := Pat.bytesIn_le (Pat.pats l) 40 HP40.out; rw [bytes_tot] at h1; have := Nat.mul_le_mul_right 40 hpl; omega
  have HOF : Hid (∀ X, Below w2.heap.size w2 X → Calls Tryz.prog 13 #[.slice a0 xs.length cap0] X (Pat.GivesSet X l)) := Lib.hid fun X hX => by
    have := Pat.of_any xs a0 cap0 X (HTS.out.keep hX) (by omega) (fun x h => Nat.le_trans (HX.out x h) (by omega))
    rwa [← HLL.out] at this
  have HNEW : Hid (∀ X m a c, Pat.IsSet X m a l → ∀ tag : Int, (Lit.int .i64 tag).wf = true → Calls Tryz.prog 12 #[.int .i64 tag, .agg #[.map m, .slice a (Pat.pats l).length c]] X (GivesEn X tag l)) := Lib.hid fun X m a c hs tag ht => enew_any X tag ht m a c l hs (by have := HLN.out; omega) (fun x h => Nat.le_trans (HL40.out x h) (by omega)) (by omega)
  have Lline : Hid (∀ X, Below w2.heap.size w2 X → Bs X X.heap.size aline line) := Lib.hid fun X hX => ((Kline.out.1.keep HB.out).keep (hX.mono hszw)).more (Nat.le_trans hszw hX.size)
  have hcapline := Kline.out.2.1
  have Hnilline := Lib.hid Kline.out.2.2
  clear HX HX' HAW hb2 hb3 ts1 hsL hts hl Kline
  obtain ⟨Ta, hTa, ha0, ha3, wTa⟩ := mod_tag ta
  obtain ⟨Tb, hTb, hb0, hb3, wTb⟩ := mod_tag tb
  by_cases hf : line.length ≤ 300
  · have hfi : decide ((300 : Int) < (line.length : Int)) = false := decide_eq_false (by omega)
    have HWA := Lib.hid (wrong_tag ha0 ha3 l)
    clear ha0 ha3 hb0 hb3
    go_wp2_with fail
    refine (HOF.out w2 (Below.refl _ _)).mono ?_
    rintro e' w3 ⟨m, aS, cS, rfl, hset, hb3⟩
    obtain ⟨c0, c1⟩ := (Pat.Blk2.new w3 38 (.map m) (.slice aS (Pat.pats l).length cS)).cells
    have b4 := below_new w3 (.cells #[.map m, .slice aS (Pat.pats l).length cS] 38)
    have hlt : w3.heap.size < (w3.alloc (.cells #[.map m, .slice aS (Pat.pats l).length cS] 38)).heap.size := by simp
    generalize hw4 : w3.alloc (.cells #[.map m, .slice aS (Pat.pats l).length cS] 38) = w4 at *
    have HS4 := Lib.hid (hset.keep (hb3.trans (b4.mono hb3.size) |> fun h => b4))
    have HB4 := Lib.hid (hb3.trans (b4.mono hb3.size))
    clear hset hb3 b4 HOF
    go_wp2_with fail
    refine (HNEW.out w4 m aS cS HS4.out Ta wTa).mono ?_
    rintro e' w5 ⟨p, rfl, hpn, hpe, hb5⟩
    have HB5 := Lib.hid (HB4.out.trans (hb5.mono HB4.out.size))
    have d0 := (hb5.cell (p := ⟨w3.heap.size, 0, none⟩) hlt).trans c0
    have d1 := (hb5.cell (p := ⟨w3.heap.size, 1, none⟩) hlt).trans c1
    have HS5 := Lib.hid (HS4.out.keep hb5)
    have HPN := Lib.hid hpn
    have HPE := Lib.hid hpe
    clear hpn hpe hb5 c0 c1 hlt HS4 HB4 hw4
    go_wp2_with fail
    refine (HNEW.out w5 m aS cS HS5.out Tb wTb).mono ?_
    rintro e' w6 ⟨q, rfl, hqn, hqe, hb6⟩
    have HB6 := Lib.hid (HB5.out.trans (hb6.mono HB5.out.size))
    have HQE := Lib.hid hqe
    have HPE6 : Hid (wrongI Ta l = 0 → En w6 p Ta l) := Lib.hid fun h => (HPE.out h).keep hb6
    clear hqn hqe hb6 d0 d1 HS5 HB5 HPE HNEW
    by_cases hza : wrongI Ta l = 0
    · have HEA := Lib.hid (HPE6.out hza)
      obtain ⟨gp, rfl⟩ := HEA.out.some
      rw [hza]
      clear hza HPE6 HPN HWA
      by_cases hzb : wrongI Tb l = 0
      · have HEB := Lib.hid (HQE.out hzb)
        obtain ⟨gq, rfl⟩ := HEB.out.some
        rw [hzb]
        clear hzb HQE
        have CA := Lib.hid (efind_any w6 (some gp) Ta l HEA.out none line aline cline (Lline.out w6 HB6.out) hcapline Hnilline.out (by omega) 0 0 0 0 (.inl rfl) (by omega) (by omega) (by omega) (by omega))
        have hfl := find_length l line (by omega)
        go_wp2_with (first
          | (go_at_call 17; (with_reducible refine CA.out.mono ?_); rintro e7 w7 ⟨A, cA, rfl, hpA, _, _, hg⟩; have hb7 := Met.below_none hg; have HB7 := Lib.hid (HB6.out.trans (hb7.mono HB6.out.size)); have HPA := Lib.hid hpA; have CB := Lib.hid (efind_any w7 (some gq) Tb l (HEB.out.keep hb7) none line aline cline (Lline.out w7 HB7.out) hcapline Hnilline.out (by omega) 0 0 0 0 (.inl rfl) (by omega) (by omega) (by omega) (by omega)); clear hg hb7 hpA)
          | (go_at_call 17; (with_reducible refine CB.out.mono ?_); rintro e8 w8 ⟨A', cA', rfl, hpA', _, _, hg⟩; have hb8 := Met.below_none hg; have HB8 := Lib.hid (HB7.out.trans (hb8.mono HB7.out.size)); have HSM := Lib.hid (same_any (findOf l line) (findOf l line) A A' cA cA' w8 (by omega) ((HPA.out.keep hb8).more hb8.size) hpA'); clear hg hb8 hpA')
          | (go_at_call 21; (with_reducible refine HSM.out.mono ?_); rintro e9 w9 ⟨rfl, k, rfl⟩))
        go_ret
        exact ⟨rfl, below_drews (HB.out.trans (HB8.out.mono hszw)) k⟩
      · have hzn : (wrongI Tb l != 0) = true := by rw [bne_iff_ne]; exact hzb
        clear hzb HQE
        generalize wrongI Tb l = zb at *
        go_wp2
        go_ret
        exact ⟨rfl, HB.out.trans (HB6.out.mono hszw)⟩
    · have hp0 := HPN.out hza
      subst hp0
      clear HPE6 HPN HQE
      generalize wrongI Tb l = zb at *
      rcases HWA.out with h | h | h
      · exact absurd h hza
      · rw [h]
        clear hza h HWA
        go_wp2
        go_ret
        exact ⟨rfl, HB.out.trans (HB6.out.mono hszw)⟩
      · rw [h]
        clear hza h HWA
        go_wp2
        go_ret
        exact ⟨rfl, HB.out.trans (HB6.out.mono hszw)⟩
  · have hfi : (300 : Int) < (line.length : Int) := by omega
    go_wp2
    go_ret
    exact ⟨rfl, HB.out⟩
set_option maxHeartbeats 8000000 in
theorem walk (w : World) (xs : List TxV) (a0 : Option Addr) (cap0 : Nat) (hz0 : xs.length ≤ 6000000000000) (hx0 : ∀ x ∈ xs, x.text.length ≤ maxLen) (hts : Ts w a0 xs) (line : Tx) (aline : Option Addr) (cline : Nat) (hmline : line.length ≤ maxLen) (hbline : Bs w w.heap.size aline line) (hnline : aline = none → cline = 0) (hcline : line.length ≤ cline) (ta : UInt8) (tb : UInt8) :
    Calls Tryz.prog 4 #[.slice a0 xs.length cap0, .slice aline line.length cline, .int .u8 (ta.toNat : Int), .int .u8 (tb.toNat : Int)] w fun e w' => e = .returned (.bool true) ∧ Below w.heap.size w w' := by
  by_cases hall : xs.length ≤ 12 ∧ (∀ x ∈ xs, x.text.length ≤ 40)
  · exact small w xs a0 cap0 hts hall.1 hall.2 line aline cline hmline hbline hnline hcline ta tb
  · clear hmline hbline hnline hcline
    have HALL := Lib.hid hall
    have HX := Lib.hid hx0
    clear hall hx0
    go_enter Tryz.func4, Tryz.ntmps4
    go_wp2_with fail
    refine (Eng.awake_any _).mono ?_
    rintro e' w1 ⟨rfl, hb2⟩
    have ts1 := hts.keep hb2
    go_wp2_with fail
    refine (ltexts_any xs a0 cap0 w1 ts1 hz0 HX.out).mono ?_
    rintro e' w2 ⟨hb3, hcase⟩
    have B2 := hb2.trans (hb3.mono hb2.size)
    rcases hcase with ⟨_, rfl⟩ | ⟨hok, aL, cL, rfl, _⟩
    · skip
      go_wp2
      go_ret
      exact ⟨rfl, B2⟩
    · have h12 : ¬ xs.length ≤ 12 := fun h => HALL.out ⟨h, hok⟩
      rw [decide_eq_false h12]
      clear HALL hok
      go_wp2
      go_ret
      exact ⟨rfl, B2⟩
end Go.Proofs.YtcbhjhhajeeimaaGreat.engineSame
