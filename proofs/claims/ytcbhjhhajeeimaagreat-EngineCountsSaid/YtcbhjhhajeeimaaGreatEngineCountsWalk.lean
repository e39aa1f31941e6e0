/- The walk of EngineCounts. -/
import Derived.Test.YtcbhjhhajeeimaaGreatEngC
namespace Go.Proofs.YtcbhjhhajeeimaaGreat.engineCounts
open Go.Proofs.YtcbhjhhajeeimaaGreat.Tri Go.Proofs.YtcbhjhhajeeimaaGreat.Lnk Go.Proofs.YtcbhjhhajeeimaaGreat.Prs Go.Proofs.YtcbhjhhajeeimaaGreat.Spa Go.Proofs.YtcbhjhhajeeimaaGreat.Eng Go.Proofs.YtcbhjhhajeeimaaGreat.Reg Go.RowKit Go.Maps
set_option maxRecDepth 100000
set_option linter.unusedVariables false
attribute [local go_sem ↓] Met.eql_counts
theorem mod_tag (t : UInt8) : ∃ T : Int, (t.toNat : Int) % 4 = T ∧ 0 ≤ T ∧ T ≤ 3 ∧ (Lit.int .i64 T).wf = true := by
  have h1 : 0 ≤ (t.toNat : Int) % 4 := by omega
  have h2 : (t.toNat : Int) % 4 ≤ 3 := by omega
  exact ⟨_, rfl, h1, h2, wf_nat (by omega) (by omega)⟩
theorem wrong_tag {T : Int} (h0 : 0 ≤ T) (h3 : T ≤ 3) (l : List Tx) : wrongI T l = 0 ∨ wrongI T l = 13 ∨ wrongI T l = 14 := by
  rcases wrong_cases T l with h | h | h | h
  · exact .inl h
  · unfold wrongI at h
    rw [if_neg (by omega)] at h
    split at h
    · cases h
    · split at h <;> cases h
  · exact .inr (.inl h)
  · exact .inr (.inr h)

set_option maxHeartbeats 8000000 in
theorem small (w : World) (xs : List TxV) (a0 : Option Addr) (cap0 : Nat) (hts : Ts w a0 xs) (h0 : xs.length ≤ 12) (hx : ∀ x ∈ xs, x.text.length ≤ 40) (line : Tx) (aline : Option Addr) (cline : Nat) (hmline : line.length ≤ maxLen) (hbline : Bs w w.heap.size aline line) (hnline : aline = none → cline = 0) (hcline : line.length ≤ cline) (line2 : Tx) (aline2 : Option Addr) (cline2 : Nat) (hmline2 : line2.length ≤ maxLen) (hbline2 : Bs w w.heap.size aline2 line2) (hnline2 : aline2 = none → cline2 = 0) (hcline2 : line2.length ≤ cline2) (ta : UInt8) :
    Calls Tryz.prog 7 #[.slice a0 xs.length cap0, .slice aline line.length cline, .slice aline2 line2.length cline2, .int .u8 (ta.toNat : Int)] w fun e w' => e = .returned (.bool true) ∧ Below w.heap.size w w' := by
  have Kline : Hid (Bs w w.heap.size aline line ∧ line.length ≤ cline ∧ (aline = none → cline = 0)) := Lib.hid ⟨hbline, hcline, hnline⟩
  clear hbline hcline hnline hmline
  have Kline2 : Hid (Bs w w.heap.size aline2 line2 ∧ line2.length ≤ cline2 ∧ (aline2 = none → cline2 = 0)) := Lib.hid ⟨hbline2, hcline2, hnline2⟩
  clear hbline2 hcline2 hnline2 hmline2
  have hx' : ∀ x ∈ xs, x.text.length ≤ maxLen := fun x h => Nat.le_trans (hx x h) (by unfold maxLen; omega)
  have htot := Spa.few_tot h0 hx
  have HX := Lib.hid hx
  have HX' := Lib.hid hx'
  have HAW := Lib.hid (Eng.awake_any w)
  clear hx hx'
  go_enter Tryz.func7, Tryz.ntmps7
  go_wp2_with fail
  refine HAW.out.mono ?_
  rintro e' w1 ⟨rfl, hb2⟩
  have ts1 := hts.keep hb2
  go_wp2_with fail
  refine (ltexts_any xs a0 cap0 w1 ts1 (by omega) HX'.out).mono ?_
  rintro e' w2 ⟨hb3, hcase⟩
  rcases hcase with ⟨hbad, _⟩ | ⟨_, aL, cL, rfl, hsL⟩
  · exact absurd HX.out hbad
  rw [decide_eq_true h0]
  have HTS := Lib.hid (ts1.keep hb3)
  have HB := Lib.hid (hb2.trans (hb3.mono hb2.size))
  have hszw := HB.out.size
  obtain ⟨l, hl⟩ : ∃ l, l = xs.map TxV.text := ⟨_, rfl⟩
  have HLN : Hid (xs.length = l.length) := Lib.hid (by rw [hl]; simp)
  have HLL := Lib.hid hl
  have HL40 : Hid (∀ x ∈ l, x.length ≤ 40) := Lib.hid fun x h => by
    rw [hl] at h
    obtain ⟨y, hy, rfl⟩ := List.mem_map.1 h
    exact HX.out y hy
  rw [← hl] at hsL htot
  have HSL := Lib.hid hsL
  have hpl : (Pat.pats l).length ≤ 12 := by have h1 := Pat.pats_len l; have h2 := HLN.out; omega
  have HP40 : Hid (∀ x ∈ Pat.pats l, x.length ≤ 40) := Lib.hid fun x h => HL40.out x ((Pat.mem_pats l x).1 h).1
  have htp : tot (Pat.pats l) ≤ 480 := by have h1 : Pat.bytesIn (Pat.pats l) ≤ _ := Pat.bytesIn_le (Pat.pats l) 40 HP40.out; rw [bytes_tot] at h1; have := Nat.mul_le_mul_right 40 hpl; omega
  have HOF : Hid (∀ X, Below w2.heap.size w2 X → Calls Tryz.prog 13 #[.slice a0 xs.length cap0] X (Pat.GivesSet X l)) := Lib.hid fun X hX => by
    have := Pat.of_any xs a0 cap0 X (HTS.out.keep hX) (by omega) (fun x h => Nat.le_trans (HX.out x h) (by omega))
    rwa [← HLL.out] at this
  have HNEW : Hid (∀ X m a c, Pat.IsSet X m a l → ∀ tag : Int, (Lit.int .i64 tag).wf = true → Calls Tryz.prog 12 #[.int .i64 tag, .agg #[.map m, .slice a (Pat.pats l).length c]] X (GivesEn X tag l)) := Lib.hid fun X m a c hs tag ht => enew_any X tag ht m a c l hs (by have := HLN.out; omega) (fun x h => Nat.le_trans (HL40.out x h) (by omega)) (by omega)
  have Lline : Hid (∀ X, Below w2.heap.size w2 X → Bs X X.heap.size aline line) := Lib.hid fun X hX => ((Kline.out.1.keep HB.out).keep (hX.mono hszw)).more (Nat.le_trans hszw hX.size)
  have hcapline := Kline.out.2.1
  have Hnilline := Lib.hid Kline.out.2.2
  have Lline2 : Hid (∀ X, Below w2.heap.size w2 X → Bs X X.heap.size aline2 line2) := Lib.hid fun X hX => ((Kline2.out.1.keep HB.out).keep (hX.mono hszw)).more (Nat.le_trans hszw hX.size)
  have hcapline2 := Kline2.out.2.1
  have Hnilline2 := Lib.hid Kline2.out.2.2
  clear HX HX' HAW hb2 hb3 ts1 hsL hts hl Kline Kline2
  obtain ⟨Ta, hTa, ha0, ha3, wTa⟩ := mod_tag ta
  by_cases hf : line.length ≤ 400
  · have hfi : decide ((400 : Int) < (line.length : Int)) = false := decide_eq_false (by omega)
    have hfi2 : ¬ (400 : Int) < (line.length : Int) := by omega
    by_cases hg : line2.length ≤ 400
    · have hgi : decide ((400 : Int) < (line2.length : Int)) = false := decide_eq_false (by omega)
      have HPZ := Lib.hid (bytes_zero l)
      have hpb : Pat.bytesIn (Pat.pats l) ≤ 480 := htp
      go_wp2_with fail
      refine (HOF.out w2 (Below.refl _ _)).mono ?_
      rintro e' w3 ⟨m, aS, cS, rfl, hset, hb3⟩
      obtain ⟨c0, c1⟩ := (Pat.Blk2.new w3 38 (.map m) (.slice aS (Pat.pats l).length cS)).cells
      have b4 := below_new w3 (.cells #[.map m, .slice aS (Pat.pats l).length cS] 38)
      have hlt : w3.heap.size < (w3.alloc (.cells #[.map m, .slice aS (Pat.pats l).length cS] 38)).heap.size := by simp
      generalize hw4 : w3.alloc (.cells #[.map m, .slice aS (Pat.pats l).length cS] 38) = w4 at *
      have HS4 := Lib.hid (hset.keep (hb3.trans (b4.mono hb3.size) |> fun h => b4))
      have HB4 := Lib.hid (hb3.trans (b4.mono hb3.size))
      clear hset hb3 b4 HOF
      go_wp2_with fail
      refine (HNEW.out w4 m aS cS HS4.out Ta wTa).mono ?_
      rintro e' w5 ⟨p, rfl, hpn, hpe, hb5⟩
      have HB5 := Lib.hid (HB4.out.trans (hb5.mono HB4.out.size))
      have e0 := (hb5.cell (p := ⟨w3.heap.size, 0, none⟩) hlt).trans c0
      have e1 := (hb5.cell (p := ⟨w3.heap.size, 1, none⟩) hlt).trans c1
      have hlt5 := Nat.lt_of_lt_of_le hlt hb5.size
      have HS5 := Lib.hid (HS4.out.keep hb5)
      have HPN := Lib.hid hpn
      have HPE := Lib.hid hpe
      clear hpn hpe hb5 hlt HS4 HB4 hw4 HNEW c0 c1
      by_cases hza : wrongI Ta l = 0
      · have HEA := Lib.hid (HPE.out hza)
        obtain ⟨gp, rfl⟩ := HEA.out.some
        rw [hza]
        clear hza HPE HPN
        go_wp2_with fail
        refine (Met.new_any w5).mono ?_
        rintro e6 w6 ⟨rfl, hw6⟩
        have b6 : Below w5.heap.size w5 w6 := by rw [hw6]; exact below_new _ _
        have m6 : Met.Cnt w6 w5.heap.size 0 0 0 0 := by rw [hw6]; exact cnt_new w5
        have hsz5 := HB5.out.size
        have B6 := HB5.out.trans (b6.mono hsz5)
        clear hw6
        have CF := efind_any w6 (some gp) Ta l (HEA.out.keep b6) (some ⟨w5.heap.size, 0, none⟩) line aline cline (Lline.out w6 B6) hcapline Hnilline.out (by omega) 0 0 0 0 (.inr ⟨_, rfl, m6⟩) (by omega) (by omega) (by omega) (by omega)
        go_wp2_with fail
        refine CF.mono ?_
        rintro e7 w7 ⟨A1, cA1, rfl, _, _, hM7, hg7⟩
        have b7 := grown_below b6 hg7 (Nat.le_refl _)
        have B7 := HB5.out.trans (b7.mono hsz5)
        have CG := efind_any w7 (some gp) Ta l (HEA.out.keep b7) (some ⟨w5.heap.size, 0, none⟩) line2 aline2 cline2 (Lline2.out w7 B7) hcapline2 Hnilline2.out (by omega) _ _ 0 0 hM7 (by have := scan_bound Ta l line; omega) (by have := look_bound Ta l line; omega) (by omega) (by omega)
        clear hg7 hM7 CF B6 m6 b6
        go_wp2_with fail
        refine CG.mono ?_
        rintro e8 w8 ⟨A2, cA2, rfl, _, _, hM8, hg8⟩
        have hb8 := grown_below b7 hg8 (Nat.le_refl _)
        have HB8 := Lib.hid (HB5.out.trans (hb8.mono hsz5))
        have hcn : Met.Cnt w8 w5.heap.size (0 + (scanN Ta l line : Int) + (scanN Ta l line2 : Int)) (0 + (lookN Ta l line : Int) + (lookN Ta l line2 : Int)) 0 0 := by
          rcases hM8 with h | ⟨g, h, hh⟩
          · cases h
          · cases h; exact hh
        have HC := Lib.hid (Met.counts_some w8 _ _ _ _ _ hcn)
        have d0 := (hb8.cell (p := ⟨w3.heap.size, 0, none⟩) hlt5).trans e0
        have d1 := (hb8.cell (p := ⟨w3.heap.size, 1, none⟩) hlt5).trans e1
        have HS8 := Lib.hid (HS5.out.keep hb8)
        have hlt8 := Nat.lt_of_lt_of_le hlt5 hb8.size
        clear hM8 hg8 hb8 b7 B7 CG hcn e0 e1 hlt5
        have HSZ := Lib.hid (fun X (hX : Below w8.heap.size w8 X) => Pat.size_any (.map m) aS cS (Pat.pats l) X ((Pat.IsSet.keep HS8.out hX).2) (by omega) (fun x h => Nat.le_trans (HP40.out x h) (by omega)))
        obtain ⟨S, hS⟩ : ∃ S : Nat, S = scanN Ta l line + scanN Ta l line2 := ⟨_, rfl⟩
        obtain ⟨L, hL⟩ : ∃ L : Nat, L = lookN Ta l line + lookN Ta l line2 := ⟨_, rfl⟩
        have hl1 := look_bound Ta l line
        have hl2 := look_bound Ta l line2
        rw [show (0 : Int) + (scanN Ta l line : Int) + (scanN Ta l line2 : Int) = (S : Int) by omega, show (0 : Int) + (lookN Ta l line : Int) + (lookN Ta l line2 : Int) = (L : Int) by omega] at HC
        obtain ⟨N, hN⟩ : ∃ N : Nat, N = line.length + line2.length := ⟨_, rfl⟩
        have hwN : IntKind.i64.wrap ((line.length : Int) + (line2.length : Int)) = (N : Int) := by rw [IntWalk.i64_in _ (by omega)]; omega
        have hLb : L ≤ 2 * N := by omega
        clear hl1 hl2
        have hNN : (line.length : Int) + (line2.length : Int) = (N : Int) := by omega
        have HS' : Hid ((Pat.pats l = [] ∨ 1 < Ta → S = 0 ∧ L = 0) ∧ (¬ (Pat.pats l = [] ∨ 1 < Ta) → S = N ∧ N ≤ L ∧ (Ta = 1 → L = N))) := Lib.hid ⟨fun h => by rw [hS, hL, scanN, scanN, lookN, lookN, if_pos h, if_pos h, if_pos h, if_pos h]; exact ⟨rfl, rfl⟩, fun h => by
          have hk1 := (looks_bound (paths_wf (Pat.pats l)) line line.length (Nat.le_refl _)).1
          have hk2 := (looks_bound (paths_wf (Pat.pats l)) line2 line2.length (Nat.le_refl _)).1
          rw [hS, hL, scanN, scanN, lookN, lookN, if_neg h, if_neg h, if_neg h, if_neg h]
          by_cases h1 : Ta = 1
          · rw [if_pos h1, if_pos h1]; omega
          · rw [if_neg h1, if_neg h1]; omega⟩
        clear hS hL hN
        go_wp2_with fail
        refine HC.out.mono ?_
        rintro e9 w9 ⟨rfl, hb9⟩
        have hb9' := HB8.out.trans (hb9.mono HB8.out.size)
        have f0 := (hb9.cell (p := ⟨w3.heap.size, 0, none⟩) hlt8).trans d0
        have f1 := (hb9.cell (p := ⟨w3.heap.size, 1, none⟩) hlt8).trans d1
        have hlt9 := Nat.lt_of_lt_of_le hlt8 hb9.size
        have kb := Met.Blk4.new w9 47 (.int .i64 (S : Int)) (.int .i64 (L : Int)) (.int .i64 0) (.int .i64 0)
        have b10 := below_new w9 (.cells #[.int .i64 (S : Int), .int .i64 (L : Int), .int .i64 0, .int .i64 0] 47)
        have HB10 := Lib.hid (hb9'.trans (b10.mono hb9'.size))
        have g0 : (w9.alloc (.cells #[.int .i64 (S : Int), .int .i64 (L : Int), .int .i64 0, .int .i64 0] 47)).cell? ⟨w3.heap.size, 0, none⟩ = some (.map m) := Lib.cell?_alloc_some _ f0
        have g1 : (w9.alloc (.cells #[.int .i64 (S : Int), .int .i64 (L : Int), .int .i64 0, .int .i64 0] 47)).cell? ⟨w3.heap.size, 1, none⟩ = some (.slice aS (Pat.pats l).length cS) := Lib.cell?_alloc_some _ f1
        have HSZ10 := Lib.hid (HSZ.out _ (hb9.trans (b10.mono hb9.size)))
        have KB := Lib.hid kb
        clear hb9 hb9' d0 d1 b10 kb HC HSZ hlt9
        go_wp2_with fail
        refine HSZ10.out.mono ?_
        rintro e11 w11 ⟨rfl, hb11⟩
        have HB11 := Lib.hid (HB10.out.trans (hb11.mono HB10.out.size))
        obtain ⟨k0, k1, k2, k3⟩ := (KB.out.same (hb11.block _ KB.out.lt)).cells
        clear hb11 f0 f1 g0 g1 HSZ10 KB HB10 HB8
        by_cases hpz : Pat.pats l = [] ∨ 1 < Ta
        · obtain ⟨rfl, rfl⟩ := HS'.out.1 hpz
          clear HS' hLb
          by_cases hp0 : Pat.pats l = []
          · have hbz : Pat.bytesIn (Pat.pats l) = 0 := HPZ.out.2 hp0
            rw [hbz]
            clear hpz hp0 hbz HPZ
            go_wp2
            go_ret
            exact ⟨rfl, HB.out.trans (HB11.out.mono hszw)⟩
          · have hbz : ((Pat.bytesIn (Pat.pats l) : Int) == 0) = false := by
              rw [beq_eq_false_iff_ne]; exact fun h => hp0 (HPZ.out.1 (by omega))
            have hta : 1 < Ta := by rcases hpz with h | h; exact absurd h hp0; exact h
            clear hpz hp0 HPZ
            generalize Pat.bytesIn (Pat.pats l) = bz at *
            go_wp2
            go_ret
            exact ⟨rfl, HB.out.trans (HB11.out.mono hszw)⟩
        · obtain ⟨rfl, hNL, hT1⟩ := HS'.out.2 hpz
          have hbz : ((Pat.bytesIn (Pat.pats l) : Int) == 0) = false := by
            rw [beq_eq_false_iff_ne]; exact fun h => hpz (.inl (HPZ.out.1 (by omega)))
          have hta : ¬ 1 < Ta := fun h => hpz (.inr h)
          have HT1 := Lib.hid hT1
          have hLi : (S : Int) ≤ (L : Int) := by omega
          obtain ⟨M, hM⟩ : ∃ M : Nat, M = 2 * S := ⟨_, rfl⟩
          have hwM : IntKind.i64.wrap (2 * (S : Int)) = (M : Int) := by rw [IntWalk.i64_in _ (by omega)]; omega
          have hLM : (L : Int) ≤ (M : Int) := by omega
          clear hpz HPZ hT1 HS' hM
          generalize Pat.bytesIn (Pat.pats l) = bz at *
          by_cases h1 : Ta = 1
          · have hLS : L = S := HT1.out h1
            subst hLS
            subst h1
            clear HT1
            go_wp2
            go_ret
            exact ⟨rfl, HB.out.trans (HB11.out.mono hszw)⟩
          · have h1b : (Ta != 1) = true := by rw [bne_iff_ne]; exact h1
            clear HT1 h1
            go_wp2
            go_ret
            exact ⟨rfl, HB.out.trans (HB11.out.mono hszw)⟩
      · have hp0 := HPN.out hza
        subst hp0
        have hzn : (wrongI Ta l != 0) = true := by rw [bne_iff_ne]; exact hza
        clear HPE HPN
        generalize wrongI Ta l = za at *
        go_wp2
        go_ret
        exact ⟨rfl, HB.out.trans (HB5.out.mono hszw)⟩
    · have hgi : decide ((400 : Int) < (line2.length : Int)) = true := decide_eq_true (by omega)
      go_wp2
      go_ret
      exact ⟨rfl, HB.out⟩
  · have hfi : decide ((400 : Int) < (line.length : Int)) = true := decide_eq_true (by omega)
    have hfi2 : (400 : Int) < (line.length : Int) := by omega
    go_wp2
    go_ret
    exact ⟨rfl, HB.out⟩
set_option maxHeartbeats 8000000 in
theorem walk (w : World) (xs : List TxV) (a0 : Option Addr) (cap0 : Nat) (hz0 : xs.length ≤ 6000000000000) (hx0 : ∀ x ∈ xs, x.text.length ≤ maxLen) (hts : Ts w a0 xs) (line : Tx) (aline : Option Addr) (cline : Nat) (hmline : line.length ≤ maxLen) (hbline : Bs w w.heap.size aline line) (hnline : aline = none → cline = 0) (hcline : line.length ≤ cline) (line2 : Tx) (aline2 : Option Addr) (cline2 : Nat) (hmline2 : line2.length ≤ maxLen) (hbline2 : Bs w w.heap.size aline2 line2) (hnline2 : aline2 = none → cline2 = 0) (hcline2 : line2.length ≤ cline2) (ta : UInt8) :
    Calls Tryz.prog 7 #[.slice a0 xs.length cap0, .slice aline line.length cline, .slice aline2 line2.length cline2, .int .u8 (ta.toNat : Int)] w fun e w' => e = .returned (.bool true) ∧ Below w.heap.size w w' := by
  by_cases hall : xs.length ≤ 12 ∧ (∀ x ∈ xs, x.text.length ≤ 40)
  · exact small w xs a0 cap0 hts hall.1 hall.2 line aline cline hmline hbline hnline hcline line2 aline2 cline2 hmline2 hbline2 hnline2 hcline2 ta
  · clear hmline hbline hnline hcline hmline2 hbline2 hnline2 hcline2
    have HALL := Lib.hid hall
    have HX := Lib.hid hx0
    clear hall hx0
    go_enter Tryz.func7, Tryz.ntmps7
    go_wp2_with fail
    refine (Eng.awake_any _).mono ?_
    rintro e' w1 ⟨rfl, hb2⟩
    have ts1 := hts.keep hb2
    go_wp2_with fail
    refine (ltexts_any xs a0 cap0 w1 ts1 hz0 HX.out).mono ?_
    rintro e' w2 ⟨hb3, hcase⟩
    have B2 := hb2.trans (hb3.mono hb2.size)
    rcases hcase with ⟨_, rfl⟩ | ⟨hok, aL, cL, rfl, _⟩
    · skip
      go_wp2
      go_ret
      exact ⟨rfl, B2⟩
    · have h12 : ¬ xs.length ≤ 12 := fun h => HALL.out ⟨h, hok⟩
      rw [decide_eq_false h12]
      clear HALL hok
      go_wp2
      go_ret
      exact ⟨rfl, B2⟩
end Go.Proofs.YtcbhjhhajeeimaaGreat.engineCounts
