/- The walk of EngineErrors. -/
import Derived.Test.YtcbhjhhajeeimaaGreatEngC
namespace Go.Proofs.YtcbhjhhajeeimaaGreat.engineErrors
open Go.Proofs.YtcbhjhhajeeimaaGreat.Tri Go.Proofs.YtcbhjhhajeeimaaGreat.Lnk Go.Proofs.YtcbhjhhajeeimaaGreat.Prs Go.Proofs.YtcbhjhhajeeimaaGreat.Spa Go.Proofs.YtcbhjhhajeeimaaGreat.Eng Go.Proofs.YtcbhjhhajeeimaaGreat.Reg Go.RowKit Go.Maps
set_option maxRecDepth 100000
set_option linter.unusedVariables false
attribute [local go_sem ↓] Met.eql_counts
theorem wrong_free (l : List Tx) : wrongI 0 l = 0 ∧ wrongI 3 l = 0 := by
  unfold wrongI
  exact ⟨by rw [if_neg (by omega), if_neg (by omega), if_neg (by omega)], by rw [if_neg (by omega), if_neg (by omega), if_neg (by omega)]⟩
theorem wrong_two (l : List Tx) : wrongI 2 l = if (Pat.pats l).length ≠ 1 ∨ [] ∈ l then 13 else 0 := by
  unfold wrongI
  rw [if_neg (by omega)]
  by_cases h : (Pat.pats l).length ≠ 1 ∨ [] ∈ l
  · rw [if_pos ⟨rfl, h⟩, if_pos h]
  · rw [if_neg (fun hh => h hh.2), if_neg h, if_neg (by omega)]
theorem wrong_one (l : List Tx) : wrongI 1 l = 0 ∨ wrongI 1 l = 14 := by
  unfold wrongI
  rw [if_neg (by omega), if_neg (by omega)]
  split
  · exact .inr rfl
  · exact .inl rfl
theorem wrong_off {tag : Int} (l : List Tx) (h : ¬ (0 ≤ tag ∧ tag ≤ 3)) : wrongI tag l = 11 := by
  unfold wrongI; rw [if_pos (by omega)]

set_option maxHeartbeats 8000000 in
theorem small (w : World) (xs : List TxV) (a0 : Option Addr) (cap0 : Nat) (hts : Ts w a0 xs) (h0 : xs.length ≤ 12) (hx : ∀ x ∈ xs, x.text.length ≤ 40) (tag : Int) (wtag : (Lit.int .i64 tag).wf = true) :
    Calls Tryz.prog 6 #[.slice a0 xs.length cap0, .int .i64 tag] w fun e w' => e = .returned (.bool true) ∧ Below w.heap.size w w' := by
  have hx' : ∀ x ∈ xs, x.text.length ≤ maxLen := fun x h => Nat.le_trans (hx x h) (by unfold maxLen; omega)
  have htot := Spa.few_tot h0 hx
  have HX := Lib.hid hx
  have HX' := Lib.hid hx'
  have HAW := Lib.hid (Eng.awake_any w)
  clear hx hx'
  go_enter Tryz.func6, Tryz.ntmps6
  go_wp2_with fail
  refine HAW.out.mono ?_
  rintro e' w1 ⟨rfl, hb2⟩
  have ts1 := hts.keep hb2
  go_wp2_with fail
  refine (ltexts_any xs a0 cap0 w1 ts1 (by omega) HX'.out).mono ?_
  rintro e' w2 ⟨hb3, hcase⟩
  rcases hcase with ⟨hbad, _⟩ | ⟨_, aL, cL, rfl, hsL⟩
  · exact absurd HX.out hbad
  rw [decide_eq_true h0]
  have HTS := Lib.hid (ts1.keep hb3)
  have HB := Lib.hid (hb2.trans (hb3.mono hb2.size))
  have hszw := HB.out.size
  obtain ⟨l, hl⟩ : ∃ l, l = xs.map TxV.text := ⟨_, rfl⟩
  have HLN : Hid (xs.length = l.length) := Lib.hid (by rw [hl]; simp)
  have HLL := Lib.hid hl
  have HL40 : Hid (∀ x ∈ l, x.length ≤ 40) := Lib.hid fun x h => by
    rw [hl] at h
    obtain ⟨y, hy, rfl⟩ := List.mem_map.1 h
    exact HX.out y hy
  rw [← hl] at hsL htot
  have HSL := Lib.hid hsL
  have hpl : (Pat.pats l).length ≤ 12 := by have h1 := Pat.pats_len l; have h2 := HLN.out; omega
  have HP40 : Hid (∀ x ∈ Pat.pats l, x.length ≤ 40) := Lib.hid fun x h => HL40.out x ((Pat.mem_pats l x).1 h).1
  have htp : tot (Pat.pats l) ≤ 480 := by have h1 : Pat.bytesIn (Pat.pats l) ≤ _ := Pat.bytesIn_le (Pat.pats l) 40 HP40.out; rw [bytes_tot] at h1; have := Nat.mul_le_mul_right 40 hpl; omega
  have HOF : Hid (∀ X, Below w2.heap.size w2 X → Calls Tryz.prog 13 #[.slice a0 xs.length cap0] X (Pat.GivesSet X l)) := Lib.hid fun X hX => by
    have := Pat.of_any xs a0 cap0 X (HTS.out.keep hX) (by omega) (fun x h => Nat.le_trans (HX.out x h) (by omega))
    rwa [← HLL.out] at this
  have HNEW : Hid (∀ X m a c, Pat.IsSet X m a l → ∀ tag : Int, (Lit.int .i64 tag).wf = true → Calls Tryz.prog 12 #[.int .i64 tag, .agg #[.map m, .slice a (Pat.pats l).length c]] X (GivesEn X tag l)) := Lib.hid fun X m a c hs tag ht => enew_any X tag ht m a c l hs (by have := HLN.out; omega) (fun x h => Nat.le_trans (HL40.out x h) (by omega)) (by omega)
  clear HX HX' HAW hb2 hb3 ts1 hsL hts hl 
  obtain ⟨HZ0, HZ3⟩ := wrong_free l
  go_wp2_with fail
  refine (HOF.out w2 (Below.refl _ _)).mono ?_
  rintro e' w3 ⟨m, aS, cS, rfl, hset, hb3⟩
  obtain ⟨c0, c1⟩ := (Pat.Blk2.new w3 38 (.map m) (.slice aS (Pat.pats l).length cS)).cells
  have b4 := below_new w3 (.cells #[.map m, .slice aS (Pat.pats l).length cS] 38)
  have hlt : w3.heap.size < (w3.alloc (.cells #[.map m, .slice aS (Pat.pats l).length cS] 38)).heap.size := by simp
  generalize hw4 : w3.alloc (.cells #[.map m, .slice aS (Pat.pats l).length cS] 38) = w4 at *
  have HS4 := Lib.hid (hset.keep (hb3.trans (b4.mono hb3.size) |> fun h => b4))
  have HB4 := Lib.hid (hb3.trans (b4.mono hb3.size))
  clear hset hb3 b4 HOF
  have HXL := HLN.out
  go_wp2_with fail
  have HPT := Lib.hid (Pat.patterns_any (.map m) aS cS (Pat.pats l) w4 HS4.out.2 (by omega) (fun x h => Nat.le_trans (HP40.out x h) (by omega)))
  refine HPT.out.mono ?_
  rintro e' w5 ⟨aP, cP, ys, rfl, _, _, hb5⟩
  have HB5 := Lib.hid (HB4.out.trans (hb5.mono HB4.out.size))
  have e05 := (hb5.cell (p := ⟨w3.heap.size, 0, none⟩) hlt).trans c0
  have e15 := (hb5.cell (p := ⟨w3.heap.size, 1, none⟩) hlt).trans c1
  have hlt5 := Nat.lt_of_lt_of_le hlt hb5.size
  have HS5 := Lib.hid (HS4.out.keep hb5)
  clear hb5 c0 c1 hlt HS4 HB4 hw4 HPT
  go_wp2_with fail
  refine (HNEW.out w5 m aS cS HS5.out 0 (by decide)).mono ?_
  rintro e' w6 ⟨pa, rfl, hpn, hpe, hb6⟩
  rw [HZ0]
  have HB6 := Lib.hid (HB5.out.trans (hb6.mono HB5.out.size))
  have e06 := (hb6.cell (p := ⟨w3.heap.size, 0, none⟩) hlt5).trans e05
  have e16 := (hb6.cell (p := ⟨w3.heap.size, 1, none⟩) hlt5).trans e15
  have hlt6 := Nat.lt_of_lt_of_le hlt5 hb6.size
  have HS6 := Lib.hid (HS5.out.keep hb6)
  clear hpn hpe hb6 hlt5 e05 e15 HS5 HB5
  go_wp2_with fail
  refine (HNEW.out w6 m aS cS HS6.out 3 (by decide)).mono ?_
  rintro e' w7 ⟨pb, rfl, hpn, hpe, hb7⟩
  rw [HZ3]
  have HB7 := Lib.hid (HB6.out.trans (hb7.mono HB6.out.size))
  have e07 := (hb7.cell (p := ⟨w3.heap.size, 0, none⟩) hlt6).trans e06
  have e17 := (hb7.cell (p := ⟨w3.heap.size, 1, none⟩) hlt6).trans e16
  have hlt7 := Nat.lt_of_lt_of_le hlt6 hb7.size
  have HS7 := Lib.hid (HS6.out.keep hb7)
  clear hpn hpe hb7 hlt6 e06 e16 HS6 HB6
  go_wp2_with fail
  refine (HNEW.out w7 m aS cS HS7.out 2 (by decide)).mono ?_
  rintro e' w8 ⟨pc, rfl, hpn, hpe, hb8⟩
  have HB8 := Lib.hid (HB7.out.trans (hb8.mono HB7.out.size))
  have e08 := (hb8.cell (p := ⟨w3.heap.size, 0, none⟩) hlt7).trans e07
  have e18 := (hb8.cell (p := ⟨w3.heap.size, 1, none⟩) hlt7).trans e17
  have hlt8 := Nat.lt_of_lt_of_le hlt7 hb8.size
  have HS8 := Lib.hid (HS7.out.keep hb8)
  clear hpn hpe hb8 hlt7 e07 e17 HS7 HB7
  go_wp2_with fail
  refine (HNEW.out w8 m aS cS HS8.out 1 (by decide)).mono ?_
  rintro e' w9 ⟨pd, rfl, hpn, hpe, hb9⟩
  have HB9 := Lib.hid (HB8.out.trans (hb9.mono HB8.out.size))
  have e09 := (hb9.cell (p := ⟨w3.heap.size, 0, none⟩) hlt8).trans e08
  have e19 := (hb9.cell (p := ⟨w3.heap.size, 1, none⟩) hlt8).trans e18
  have hlt9 := Nat.lt_of_lt_of_le hlt8 hb9.size
  have HS9 := Lib.hid (HS8.out.keep hb9)
  clear hpn hpe hb9 hlt8 e08 e18 HS8 HB8
  go_wp2_with fail
  refine (HNEW.out w9 m aS cS HS9.out tag wtag).mono ?_
  rintro e' w10 ⟨pe, rfl, hpn, hpe, hb10⟩
  have HB10 := Lib.hid (HB9.out.trans (hb10.mono HB9.out.size))
  have e010 := (hb10.cell (p := ⟨w3.heap.size, 0, none⟩) hlt9).trans e09
  have e110 := (hb10.cell (p := ⟨w3.heap.size, 1, none⟩) hlt9).trans e19
  have hlt10 := Nat.lt_of_lt_of_le hlt9 hb10.size
  have HS10 := Lib.hid (HS9.out.keep hb10)
  have HPN := Lib.hid hpn
  clear hpn hpe hb10 hlt9 e09 e19 HS9 HB9
  have HEM := Lib.hid (fun X (hX : Below w10.heap.size w10 X) => Pat.empty_any m aS (Pat.pats l).length cS l X (HS10.out.keep hX))
  have HSZ := Lib.hid (fun X (hX : Below w10.heap.size w10 X) => Pat.size_any (.map m) aS cS (Pat.pats l) X (Pat.IsSet.keep HS10.out hX).2 (by omega) (fun x h => Nat.le_trans (HP40.out x h) (by omega)))
  have HIS := Lib.hid (fun X => eis_any X tag wtag)
  have HW1 := Lib.hid (wrong_one l)
  have HW2 := Lib.hid (wrong_two l)
  have HGR := Lib.hid (fun h1 h2 => wrong_great (l := l) h1 h2)
  have HSM1 := Lib.hid (fun h => wrong_small (l := l) h)
  have HZT := Lib.hid (fun h => wrong_off (tag := tag) l h)
  clear HS10 HNEW HSL HL40 HP40 HLN HLL HTS
  by_cases hn : (Pat.pats l).length = 1
  · have hni : (((Pat.pats l).length : Int) == 1) = true := by rw [beq_iff_eq]; omega
    have hni2 : ((Pat.pats l).length : Int) = 1 := by omega
    by_cases he : ([] : Tx) ∈ l
    · have hz2 : wrongI 2 l = 13 := by rw [HW2.out, if_pos (.inr he)]
      rw [hz2]
      rw [decide_eq_true he] at HEM
      clear hz2 he
      rcases HW1.out with h1 | h1
      · rw [h1]
        have hbs : ¬ (160 : Int) ≤ (Pat.bytesIn (Pat.pats l) : Int) := fun h => by
          have h2 := HGR.out hn (by omega)
          rw [h1] at h2; cases h2
        clear h1 HW1 HGR HSM1 HW2 hn
        generalize Pat.bytesIn (Pat.pats l) = bz at *
        by_cases htt : 0 ≤ tag ∧ tag ≤ 3
        · rw [decide_eq_true htt] at HIS
          clear htt HPN HZT
          have BW10 := Lib.hid (Below.refl w10.heap.size w10)
          go_wp2_with fail
          refine (HEM.out w10 BW10.out).mono ?_
          rintro e' w11 ⟨rfl, hb11⟩
          have BW11 := Lib.hid (BW10.out.trans (hb11.mono BW10.out.size))
          have e011 := (hb11.cell (p := ⟨w3.heap.size, 0, none⟩) hlt10).trans e010
          have e111 := (hb11.cell (p := ⟨w3.heap.size, 1, none⟩) hlt10).trans e110
          have hlt11 := Nat.lt_of_lt_of_le hlt10 hb11.size
          clear hb11 hlt10 e010 e110
          go_wp2_with fail
          refine (HSZ.out w11 BW11.out).mono ?_
          rintro e' w12 ⟨rfl, hb12⟩
          have BW12 := Lib.hid (BW11.out.trans (hb12.mono BW11.out.size))
          have e012 := (hb12.cell (p := ⟨w3.heap.size, 0, none⟩) hlt11).trans e011
          have e112 := (hb12.cell (p := ⟨w3.heap.size, 1, none⟩) hlt11).trans e111
          have hlt12 := Nat.lt_of_lt_of_le hlt11 hb12.size
          clear hb12 hlt11 e011 e111
          go_wp2_with fail
          refine (HIS.out w12).mono ?_
          rintro e' w13 ⟨rfl, hb13⟩
          have BW13 := Lib.hid (BW12.out.trans (hb13.mono BW12.out.size))
          clear hb13
          go_wp2
          go_ret
          exact ⟨rfl, HB.out.trans ((HB10.out.trans (BW13.out.mono HB10.out.size)).mono hszw)⟩
        · have hz11 := HZT.out htt
          have hpe0 := HPN.out (by rw [hz11]; decide)
          subst hpe0
          rw [hz11]
          rw [decide_eq_false htt] at HIS
          clear htt hz11 HPN HZT
          have BW10 := Lib.hid (Below.refl w10.heap.size w10)
          go_wp2_with fail
          refine (HEM.out w10 BW10.out).mono ?_
          rintro e' w11 ⟨rfl, hb11⟩
          have BW11 := Lib.hid (BW10.out.trans (hb11.mono BW10.out.size))
          have e011 := (hb11.cell (p := ⟨w3.heap.size, 0, none⟩) hlt10).trans e010
          have e111 := (hb11.cell (p := ⟨w3.heap.size, 1, none⟩) hlt10).trans e110
          have hlt11 := Nat.lt_of_lt_of_le hlt10 hb11.size
          clear hb11 hlt10 e010 e110
          go_wp2_with fail
          refine (HSZ.out w11 BW11.out).mono ?_
          rintro e' w12 ⟨rfl, hb12⟩
          have BW12 := Lib.hid (BW11.out.trans (hb12.mono BW11.out.size))
          have e012 := (hb12.cell (p := ⟨w3.heap.size, 0, none⟩) hlt11).trans e011
          have e112 := (hb12.cell (p := ⟨w3.heap.size, 1, none⟩) hlt11).trans e111
          have hlt12 := Nat.lt_of_lt_of_le hlt11 hb12.size
          clear hb12 hlt11 e011 e111
          go_wp2_with fail
          refine (HIS.out w12).mono ?_
          rintro e' w13 ⟨rfl, hb13⟩
          have BW13 := Lib.hid (BW12.out.trans (hb13.mono BW12.out.size))
          clear hb13
          go_wp2
          go_ret
          exact ⟨rfl, HB.out.trans ((HB10.out.trans (BW13.out.mono HB10.out.size)).mono hszw)⟩
      · have hbs : ¬ (Pat.bytesIn (Pat.pats l) : Int) < 160 := by have := HSM1.out h1; omega
        rw [h1]
        clear h1 HW1 HGR HSM1 HW2 hn
        generalize Pat.bytesIn (Pat.pats l) = bz at *
        by_cases htt : 0 ≤ tag ∧ tag ≤ 3
        · rw [decide_eq_true htt] at HIS
          clear htt HPN HZT
          have BW10 := Lib.hid (Below.refl w10.heap.size w10)
          go_wp2_with fail
          refine (HEM.out w10 BW10.out).mono ?_
          rintro e' w11 ⟨rfl, hb11⟩
          have BW11 := Lib.hid (BW10.out.trans (hb11.mono BW10.out.size))
          have e011 := (hb11.cell (p := ⟨w3.heap.size, 0, none⟩) hlt10).trans e010
          have e111 := (hb11.cell (p := ⟨w3.heap.size, 1, none⟩) hlt10).trans e110
          have hlt11 := Nat.lt_of_lt_of_le hlt10 hb11.size
          clear hb11 hlt10 e010 e110
          go_wp2_with fail
          refine (HSZ.out w11 BW11.out).mono ?_
          rintro e' w12 ⟨rfl, hb12⟩
          have BW12 := Lib.hid (BW11.out.trans (hb12.mono BW11.out.size))
          have e012 := (hb12.cell (p := ⟨w3.heap.size, 0, none⟩) hlt11).trans e011
          have e112 := (hb12.cell (p := ⟨w3.heap.size, 1, none⟩) hlt11).trans e111
          have hlt12 := Nat.lt_of_lt_of_le hlt11 hb12.size
          clear hb12 hlt11 e011 e111
          go_wp2_with fail
          refine (HIS.out w12).mono ?_
          rintro e' w13 ⟨rfl, hb13⟩
          have BW13 := Lib.hid (BW12.out.trans (hb13.mono BW12.out.size))
          clear hb13
          go_wp2
          go_ret
          exact ⟨rfl, HB.out.trans ((HB10.out.trans (BW13.out.mono HB10.out.size)).mono hszw)⟩
        · have hz11 := HZT.out htt
          have hpe0 := HPN.out (by rw [hz11]; decide)
          subst hpe0
          rw [hz11]
          rw [decide_eq_false htt] at HIS
          clear htt hz11 HPN HZT
          have BW10 := Lib.hid (Below.refl w10.heap.size w10)
          go_wp2_with fail
          refine (HEM.out w10 BW10.out).mono ?_
          rintro e' w11 ⟨rfl, hb11⟩
          have BW11 := Lib.hid (BW10.out.trans (hb11.mono BW10.out.size))
          have e011 := (hb11.cell (p := ⟨w3.heap.size, 0, none⟩) hlt10).trans e010
          have e111 := (hb11.cell (p := ⟨w3.heap.size, 1, none⟩) hlt10).trans e110
          have hlt11 := Nat.lt_of_lt_of_le hlt10 hb11.size
          clear hb11 hlt10 e010 e110
          go_wp2_with fail
          refine (HSZ.out w11 BW11.out).mono ?_
          rintro e' w12 ⟨rfl, hb12⟩
          have BW12 := Lib.hid (BW11.out.trans (hb12.mono BW11.out.size))
          have e012 := (hb12.cell (p := ⟨w3.heap.size, 0, none⟩) hlt11).trans e011
          have e112 := (hb12.cell (p := ⟨w3.heap.size, 1, none⟩) hlt11).trans e111
          have hlt12 := Nat.lt_of_lt_of_le hlt11 hb12.size
          clear hb12 hlt11 e011 e111
          go_wp2_with fail
          refine (HIS.out w12).mono ?_
          rintro e' w13 ⟨rfl, hb13⟩
          have BW13 := Lib.hid (BW12.out.trans (hb13.mono BW12.out.size))
          clear hb13
          go_wp2
          go_ret
          exact ⟨rfl, HB.out.trans ((HB10.out.trans (BW13.out.mono HB10.out.size)).mono hszw)⟩
    · have hz2 : wrongI 2 l = 0 := by rw [HW2.out, if_neg (by rintro (h | h); exact h hn; exact he h)]
      rw [hz2]
      rw [decide_eq_false he] at HEM
      clear hz2 he
      rcases HW1.out with h1 | h1
      · rw [h1]
        have hbs : ¬ (160 : Int) ≤ (Pat.bytesIn (Pat.pats l) : Int) := fun h => by
          have h2 := HGR.out hn (by omega)
          rw [h1] at h2; cases h2
        clear h1 HW1 HGR HSM1 HW2 hn
        generalize Pat.bytesIn (Pat.pats l) = bz at *
        by_cases htt : 0 ≤ tag ∧ tag ≤ 3
        · rw [decide_eq_true htt] at HIS
          clear htt HPN HZT
          have BW10 := Lib.hid (Below.refl w10.heap.size w10)
          go_wp2_with fail
          refine (HEM.out w10 BW10.out).mono ?_
          rintro e' w11 ⟨rfl, hb11⟩
          have BW11 := Lib.hid (BW10.out.trans (hb11.mono BW10.out.size))
          have e011 := (hb11.cell (p := ⟨w3.heap.size, 0, none⟩) hlt10).trans e010
          have e111 := (hb11.cell (p := ⟨w3.heap.size, 1, none⟩) hlt10).trans e110
          have hlt11 := Nat.lt_of_lt_of_le hlt10 hb11.size
          clear hb11 hlt10 e010 e110
          go_wp2_with fail
          refine (HSZ.out w11 BW11.out).mono ?_
          rintro e' w12 ⟨rfl, hb12⟩
          have BW12 := Lib.hid (BW11.out.trans (hb12.mono BW11.out.size))
          have e012 := (hb12.cell (p := ⟨w3.heap.size, 0, none⟩) hlt11).trans e011
          have e112 := (hb12.cell (p := ⟨w3.heap.size, 1, none⟩) hlt11).trans e111
          have hlt12 := Nat.lt_of_lt_of_le hlt11 hb12.size
          clear hb12 hlt11 e011 e111
          go_wp2_with fail
          refine (HIS.out w12).mono ?_
          rintro e' w13 ⟨rfl, hb13⟩
          have BW13 := Lib.hid (BW12.out.trans (hb13.mono BW12.out.size))
          clear hb13
          go_wp2
          go_ret
          exact ⟨rfl, HB.out.trans ((HB10.out.trans (BW13.out.mono HB10.out.size)).mono hszw)⟩
        · have hz11 := HZT.out htt
          have hpe0 := HPN.out (by rw [hz11]; decide)
          subst hpe0
          rw [hz11]
          rw [decide_eq_false htt] at HIS
          clear htt hz11 HPN HZT
          have BW10 := Lib.hid (Below.refl w10.heap.size w10)
          go_wp2_with fail
          refine (HEM.out w10 BW10.out).mono ?_
          rintro e' w11 ⟨rfl, hb11⟩
          have BW11 := Lib.hid (BW10.out.trans (hb11.mono BW10.out.size))
          have e011 := (hb11.cell (p := ⟨w3.heap.size, 0, none⟩) hlt10).trans e010
          have e111 := (hb11.cell (p := ⟨w3.heap.size, 1, none⟩) hlt10).trans e110
          have hlt11 := Nat.lt_of_lt_of_le hlt10 hb11.size
          clear hb11 hlt10 e010 e110
          go_wp2_with fail
          refine (HSZ.out w11 BW11.out).mono ?_
          rintro e' w12 ⟨rfl, hb12⟩
          have BW12 := Lib.hid (BW11.out.trans (hb12.mono BW11.out.size))
          have e012 := (hb12.cell (p := ⟨w3.heap.size, 0, none⟩) hlt11).trans e011
          have e112 := (hb12.cell (p := ⟨w3.heap.size, 1, none⟩) hlt11).trans e111
          have hlt12 := Nat.lt_of_lt_of_le hlt11 hb12.size
          clear hb12 hlt11 e011 e111
          go_wp2_with fail
          refine (HIS.out w12).mono ?_
          rintro e' w13 ⟨rfl, hb13⟩
          have BW13 := Lib.hid (BW12.out.trans (hb13.mono BW12.out.size))
          clear hb13
          go_wp2
          go_ret
          exact ⟨rfl, HB.out.trans ((HB10.out.trans (BW13.out.mono HB10.out.size)).mono hszw)⟩
      · have hbs : ¬ (Pat.bytesIn (Pat.pats l) : Int) < 160 := by have := HSM1.out h1; omega
        rw [h1]
        clear h1 HW1 HGR HSM1 HW2 hn
        generalize Pat.bytesIn (Pat.pats l) = bz at *
        by_cases htt : 0 ≤ tag ∧ tag ≤ 3
        · rw [decide_eq_true htt] at HIS
          clear htt HPN HZT
          have BW10 := Lib.hid (Below.refl w10.heap.size w10)
          go_wp2_with fail
          refine (HEM.out w10 BW10.out).mono ?_
          rintro e' w11 ⟨rfl, hb11⟩
          have BW11 := Lib.hid (BW10.out.trans (hb11.mono BW10.out.size))
          have e011 := (hb11.cell (p := ⟨w3.heap.size, 0, none⟩) hlt10).trans e010
          have e111 := (hb11.cell (p := ⟨w3.heap.size, 1, none⟩) hlt10).trans e110
          have hlt11 := Nat.lt_of_lt_of_le hlt10 hb11.size
          clear hb11 hlt10 e010 e110
          go_wp2_with fail
          refine (HSZ.out w11 BW11.out).mono ?_
          rintro e' w12 ⟨rfl, hb12⟩
          have BW12 := Lib.hid (BW11.out.trans (hb12.mono BW11.out.size))
          have e012 := (hb12.cell (p := ⟨w3.heap.size, 0, none⟩) hlt11).trans e011
          have e112 := (hb12.cell (p := ⟨w3.heap.size, 1, none⟩) hlt11).trans e111
          have hlt12 := Nat.lt_of_lt_of_le hlt11 hb12.size
          clear hb12 hlt11 e011 e111
          go_wp2_with fail
          refine (HIS.out w12).mono ?_
          rintro e' w13 ⟨rfl, hb13⟩
          have BW13 := Lib.hid (BW12.out.trans (hb13.mono BW12.out.size))
          clear hb13
          go_wp2
          go_ret
          exact ⟨rfl, HB.out.trans ((HB10.out.trans (BW13.out.mono HB10.out.size)).mono hszw)⟩
        · have hz11 := HZT.out htt
          have hpe0 := HPN.out (by rw [hz11]; decide)
          subst hpe0
          rw [hz11]
          rw [decide_eq_false htt] at HIS
          clear htt hz11 HPN HZT
          have BW10 := Lib.hid (Below.refl w10.heap.size w10)
          go_wp2_with fail
          refine (HEM.out w10 BW10.out).mono ?_
          rintro e' w11 ⟨rfl, hb11⟩
          have BW11 := Lib.hid (BW10.out.trans (hb11.mono BW10.out.size))
          have e011 := (hb11.cell (p := ⟨w3.heap.size, 0, none⟩) hlt10).trans e010
          have e111 := (hb11.cell (p := ⟨w3.heap.size, 1, none⟩) hlt10).trans e110
          have hlt11 := Nat.lt_of_lt_of_le hlt10 hb11.size
          clear hb11 hlt10 e010 e110
          go_wp2_with fail
          refine (HSZ.out w11 BW11.out).mono ?_
          rintro e' w12 ⟨rfl, hb12⟩
          have BW12 := Lib.hid (BW11.out.trans (hb12.mono BW11.out.size))
          have e012 := (hb12.cell (p := ⟨w3.heap.size, 0, none⟩) hlt11).trans e011
          have e112 := (hb12.cell (p := ⟨w3.heap.size, 1, none⟩) hlt11).trans e111
          have hlt12 := Nat.lt_of_lt_of_le hlt11 hb12.size
          clear hb12 hlt11 e011 e111
          go_wp2_with fail
          refine (HIS.out w12).mono ?_
          rintro e' w13 ⟨rfl, hb13⟩
          have BW13 := Lib.hid (BW12.out.trans (hb13.mono BW12.out.size))
          clear hb13
          go_wp2
          go_ret
          exact ⟨rfl, HB.out.trans ((HB10.out.trans (BW13.out.mono HB10.out.size)).mono hszw)⟩
  · have hni : (((Pat.pats l).length : Int) == 1) = false := by rw [beq_eq_false_iff_ne]; omega
    have hz2 : wrongI 2 l = 13 := by rw [HW2.out, if_pos (.inl hn)]
    rw [hz2]
    clear hz2 hn
    rcases HW1.out with h1 | h1
    · rw [h1]
      clear h1 HW1 HGR HSM1 HW2
      generalize Pat.bytesIn (Pat.pats l) = bz at *
      by_cases htt : 0 ≤ tag ∧ tag ≤ 3
      · rw [decide_eq_true htt] at HIS
        clear htt HPN HZT
        have BW10 := Lib.hid (Below.refl w10.heap.size w10)
        go_wp2_with fail
        refine (HIS.out w10).mono ?_
        rintro e' w11 ⟨rfl, hb11⟩
        have BW11 := Lib.hid (BW10.out.trans (hb11.mono BW10.out.size))
        clear hb11
        go_wp2
        go_ret
        exact ⟨rfl, HB.out.trans ((HB10.out.trans (BW11.out.mono HB10.out.size)).mono hszw)⟩
      · have hz11 := HZT.out htt
        have hpe0 := HPN.out (by rw [hz11]; decide)
        subst hpe0
        rw [hz11]
        rw [decide_eq_false htt] at HIS
        clear htt hz11 HPN HZT
        have BW10 := Lib.hid (Below.refl w10.heap.size w10)
        go_wp2_with fail
        refine (HIS.out w10).mono ?_
        rintro e' w11 ⟨rfl, hb11⟩
        have BW11 := Lib.hid (BW10.out.trans (hb11.mono BW10.out.size))
        clear hb11
        go_wp2
        go_ret
        exact ⟨rfl, HB.out.trans ((HB10.out.trans (BW11.out.mono HB10.out.size)).mono hszw)⟩
    · have hbs : ¬ (Pat.bytesIn (Pat.pats l) : Int) < 160 := by have := HSM1.out h1; omega
      rw [h1]
      clear h1 HW1 HGR HSM1 HW2
      generalize Pat.bytesIn (Pat.pats l) = bz at *
      by_cases htt : 0 ≤ tag ∧ tag ≤ 3
      · rw [decide_eq_true htt] at HIS
        clear htt HPN HZT
        have BW10 := Lib.hid (Below.refl w10.heap.size w10)
        go_wp2_with fail
        refine (HSZ.out w10 BW10.out).mono ?_
        rintro e' w11 ⟨rfl, hb11⟩
        have BW11 := Lib.hid (BW10.out.trans (hb11.mono BW10.out.size))
        have e011 := (hb11.cell (p := ⟨w3.heap.size, 0, none⟩) hlt10).trans e010
        have e111 := (hb11.cell (p := ⟨w3.heap.size, 1, none⟩) hlt10).trans e110
        have hlt11 := Nat.lt_of_lt_of_le hlt10 hb11.size
        clear hb11 hlt10 e010 e110
        go_wp2_with fail
        refine (HIS.out w11).mono ?_
        rintro e' w12 ⟨rfl, hb12⟩
        have BW12 := Lib.hid (BW11.out.trans (hb12.mono BW11.out.size))
        clear hb12
        go_wp2
        go_ret
        exact ⟨rfl, HB.out.trans ((HB10.out.trans (BW12.out.mono HB10.out.size)).mono hszw)⟩
      · have hz11 := HZT.out htt
        have hpe0 := HPN.out (by rw [hz11]; decide)
        subst hpe0
        rw [hz11]
        rw [decide_eq_false htt] at HIS
        clear htt hz11 HPN HZT
        have BW10 := Lib.hid (Below.refl w10.heap.size w10)
        go_wp2_with fail
        refine (HSZ.out w10 BW10.out).mono ?_
        rintro e' w11 ⟨rfl, hb11⟩
        have BW11 := Lib.hid (BW10.out.trans (hb11.mono BW10.out.size))
        have e011 := (hb11.cell (p := ⟨w3.heap.size, 0, none⟩) hlt10).trans e010
        have e111 := (hb11.cell (p := ⟨w3.heap.size, 1, none⟩) hlt10).trans e110
        have hlt11 := Nat.lt_of_lt_of_le hlt10 hb11.size
        clear hb11 hlt10 e010 e110
        go_wp2_with fail
        refine (HIS.out w11).mono ?_
        rintro e' w12 ⟨rfl, hb12⟩
        have BW12 := Lib.hid (BW11.out.trans (hb12.mono BW11.out.size))
        clear hb12
        go_wp2
        go_ret
        exact ⟨rfl, HB.out.trans ((HB10.out.trans (BW12.out.mono HB10.out.size)).mono hszw)⟩
set_option maxHeartbeats 8000000 in
theorem walk (w : World) (xs : List TxV) (a0 : Option Addr) (cap0 : Nat) (hz0 : xs.length ≤ 6000000000000) (hx0 : ∀ x ∈ xs, x.text.length ≤ maxLen) (hts : Ts w a0 xs) (tag : Int) (wtag : (Lit.int .i64 tag).wf = true) :
    Calls Tryz.prog 6 #[.slice a0 xs.length cap0, .int .i64 tag] w fun e w' => e = .returned (.bool true) ∧ Below w.heap.size w w' := by
  by_cases hall : xs.length ≤ 12 ∧ (∀ x ∈ xs, x.text.length ≤ 40)
  · exact small w xs a0 cap0 hts hall.1 hall.2 tag wtag
  · skip
    have HALL := Lib.hid hall
    have HX := Lib.hid hx0
    clear hall hx0
    go_enter Tryz.func6, Tryz.ntmps6
    go_wp2_with fail
    refine (Eng.awake_any _).mono ?_
    rintro e' w1 ⟨rfl, hb2⟩
    have ts1 := hts.keep hb2
    go_wp2_with fail
    refine (ltexts_any xs a0 cap0 w1 ts1 hz0 HX.out).mono ?_
    rintro e' w2 ⟨hb3, hcase⟩
    have B2 := hb2.trans (hb3.mono hb2.size)
    rcases hcase with ⟨_, rfl⟩ | ⟨hok, aL, cL, rfl, _⟩
    · skip
      go_wp2
      go_ret
      exact ⟨rfl, B2⟩
    · have h12 : ¬ xs.length ≤ 12 := fun h => HALL.out ⟨h, hok⟩
      rw [decide_eq_false h12]
      clear HALL hok
      go_wp2
      go_ret
      exact ⟨rfl, B2⟩
end Go.Proofs.YtcbhjhhajeeimaaGreat.engineErrors
