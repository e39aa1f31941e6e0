/- The walk of DfaSparse. -/
import Derived.Test.YtnbfdjpmppflmaaDi
namespace Go.Proofs.Ytnbfdjpmppflmaa.dfaSparse
open Go.Proofs.Ytnbfdjpmppflmaa.Tri Go.Proofs.Ytnbfdjpmppflmaa.Lnk Go.Proofs.Ytnbfdjpmppflmaa.Prs Go.Proofs.Ytnbfdjpmppflmaa.Reg Go.Proofs.Ytnbfdjpmppflmaa.Dfa Go.RowKit Go.Maps
set_option maxRecDepth 100000
set_option linter.unusedVariables false
attribute [local go_sem ↓] Met.eql_counts

set_option maxHeartbeats 8000000 in
theorem small (w : World) (xs : List TxV) (a0 : Option Addr) (cap0 : Nat) (hts : Ts w a0 xs) (h0 : xs.length ≤ 12) (hx : ∀ x ∈ xs, x.text.length ≤ 40) (line : Tx) (al : Option Addr) (cl : Nat) (hml : line.length ≤ maxLen) (hbl : Bs w w.heap.size al line) (n : Int) (c : UInt8) (hl1 : line.length ≤ 400) :
    Calls Try.prog 5 #[.slice a0 xs.length cap0, .slice al line.length cl, .int .i64 n, .int .u8 (c.toNat : Int)] w fun e w' => e = .returned (.bool true) ∧ Below w.heap.size w w' := by
  have hx' : ∀ x ∈ xs, x.text.length ≤ maxLen := fun x h => Nat.le_trans (hx x h) (by unfold maxLen; omega)
  have htot := Spa.few_tot h0 hx
  have HX := Lib.hid hx
  have HX' := Lib.hid hx'
  have HAW := Lib.hid (Dfa.awake_any w)
  clear hx hx'
  go_enter Try.func5, Try.ntmps5
  go_wp2_with fail
  refine HAW.out.mono ?_
  rintro e' w1 ⟨rfl, hb2⟩
  have ts1 := hts.keep hb2
  go_wp2_with fail
  refine (ltexts_any xs a0 cap0 w1 ts1 (by omega) HX'.out).mono ?_
  rintro e' w2 ⟨hb3, hcase⟩
  rcases hcase with ⟨hbad, _⟩ | ⟨_, aL, cL, rfl, hsL⟩
  · exact absurd HX.out hbad
  rw [decide_eq_true h0]
  have HTS := Lib.hid (ts1.keep hb3)
  have HB := Lib.hid (hb2.trans (hb3.mono hb2.size))
  have hszw := HB.out.size
  obtain ⟨l, hl⟩ : ∃ l, l = xs.map TxV.text := ⟨_, rfl⟩
  have HNEW : Hid ((paths l).length ≤ 160 → ∀ X, Below w2.heap.size w2 X → Calls Try.prog 13 #[.slice a0 xs.length cap0] X (GivesDt X l)) := Lib.hid fun hn X hX => by
    have := dnew_any X xs a0 cap0 (HTS.out.keep hX) (by omega) (by omega) (fun x h => Nat.le_trans (HX.out x h) (by omega)) (by rw [← hl]; exact hn)
    rwa [← hl] at this
  have HOVER : Hid (160 < (paths l).length → ∀ X, Below w2.heap.size w2 X → Calls Try.prog 13 #[.slice a0 xs.length cap0] X (GivesNone X)) := Lib.hid fun hn X hX =>
    dnew_over X xs a0 cap0 (HTS.out.keep hX) (by omega) (by omega) (by rw [← hl]; exact hn)
  have HLN : Hid (xs.length = l.length) := Lib.hid (by rw [hl]; simp)
  have HLL := Lib.hid hl
  have HL40 : Hid (∀ x ∈ l, x.length ≤ 40) := Lib.hid fun x h => by
    rw [hl] at h
    obtain ⟨y, hy, rfl⟩ := List.mem_map.1 h
    exact HX.out y hy
  rw [← hl] at hsL htot
  have HSL := Lib.hid hsL
  have HPT : Hid (∀ X, Below w2.heap.size w2 X → Calls Try.prog 14 #[.slice aL xs.length cL] X (GivesSs X (paths l))) := Lib.hid fun X hX => by
    have := paths_any X l aL cL (HSL.out.keep hX) (by rw [← HLN.out]; omega) (by omega)
    rwa [← HLN.out] at this
  have hps : (paths l).length ≤ 481 := by have := paths_len l; omega
  have HW := Lib.hid (paths_wf l)
  clear HAW hb2 hb3 ts1 hsL hts hl HX'
  have HBL := Lib.hid (fun X (h : Below w2.heap.size w2 X) => (hbl.keep (HB.out.trans (h.mono hszw))).more (Nat.le_trans hszw h.size))
  have HSNEW : Hid (∀ X, Below w2.heap.size w2 X → Calls Try.prog 25 #[.slice a0 xs.length cap0] X (Spa.GivesAu X (paths l) l)) := Lib.hid fun X hX => by
    have := Spa.snew_any X xs a0 cap0 (HTS.out.keep hX) (by omega) (by rw [← HLL.out]; omega)
    rwa [← HLL.out] at this
  clear HPT HX HSL hbl
  have hl4 : ¬ (400 : Int) < (line.length : Int) := by omega
  by_cases hn : (paths l).length ≤ 160
  · have HN := Lib.hid (HNEW.out hn w2 (Below.refl _ _))
    clear HNEW HTS HOVER HL40 HLL
    go_wp2_with fail
    refine HN.out.mono ?_
    rintro e5 w5 ⟨t, rfl, hD, b5⟩
    have HD := Lib.hid hD
    have HB5 := Lib.hid b5
    clear hD b5 HN
    go_wp2_with fail
    refine (HSNEW.out _ HB5.out).mono ?_
    rintro e6 w6 ⟨ta, rfl, _, hA, b6⟩
    have HA6 := Lib.hid hA
    have HD6 := Lib.hid (HD.out.keep b6)
    have HB6 := Lib.hid (HB5.out.trans (b6.mono HB5.out.size))
    clear hA b6 HD HB5 HSNEW
    have HSTEP : Hid (∀ X, Below w6.heap.size w6 X → Calls Try.prog 28 #[.pointer (some ⟨ta, 0, none⟩), .pointer none, .int .i64 n, .int .u8 (c.toNat : Int)] X fun e w' => e = .returned (.int .i64 (nextOf (paths l) n c)) ∧ Below X.heap.size X w') := Lib.hid fun X hX => by
      by_cases hin : 0 ≤ n ∧ n < (paths l).length
      · obtain ⟨i, rfl⟩ : ∃ i : Nat, n = (i : Int) := ⟨n.toNat, by omega⟩
        have hi : i < (paths l).length := by omega
        have := Spa.step_free X ta (paths l) l (HA6.out.keep hX) (paths l)[i] (List.getElem_mem hi) c
        rw [place_at HW.out.nodup hi] at this
        rw [next_at hi]
        exact this
      · rw [next_out hin]
        refine (Spa.Step_out X ta (paths l) l (HA6.out.keep hX) none n _ hin).mono ?_
        rintro e w' ⟨rfl, rfl⟩
        exact ⟨rfl, Below.refl _ _⟩
    have HNX := Lib.hid (fun X (hX : Below w6.heap.size w6 X) => dnext_at X _ t l (HD6.out.keep hX) n c)
    have HST := Lib.hid (fun X (hX : Below w6.heap.size w6 X) => dstates_at X _ t l (HD6.out.keep hX))
    have HSS := Lib.hid (fun X (hX : Below w6.heap.size w6 X) => Spa.states_any X ta (paths l) l (HA6.out.keep hX))
    have HS1 := Lib.hid (dscan_free w6 _ t l HD6.out line al cl (HBL.out _ HB6.out) (by omega))
    have HS2 := Lib.hid (fun X (hX : Below w6.heap.size w6 X) => Spa.scan_free X ta (paths l) l (HA6.out.keep hX) line al cl (HBL.out _ (HB6.out.trans (hX.mono HB6.out.size))) (by omega))
    have hself : ((nextOf (paths l) n c) == (nextOf (paths l) n c)) = true := beq_self_eq_true _
    have hself2 : (((paths l).length : Int) == ((paths l).length : Int)) = true := beq_self_eq_true _
    have hsl : (Spa.scanOf l line).length ≤ 1000000 := by
      unfold Spa.scanOf
      exact Nat.le_trans (norm_length _) (Nat.le_trans (Spa.hits_len l line 1000 (by omega) line.length) (by omega))
    clear HD6 HA6 HW HBL
    generalize nextOf (paths l) n c = y at *
    generalize Spa.scanOf l line = S at *
    go_wp2_with fail
    refine HS1.out.mono ?_
    rintro e7 w7 ⟨A7, c7, rfl, hp7, hn7, b7⟩
    have HP7 := Lib.hid hp7
    have HB7 := Lib.hid b7
    clear hp7 b7 HS1
    go_wp2_with fail
    refine (HS2.out _ HB7.out).mono ?_
    rintro e8 w8 ⟨A8, c8, rfl, hp8, hn8, b8⟩
    have HSA := Lib.hid (same_any S S A7 A8 c7 c8 w8 (by omega) (HP7.out.keeps b8) hp8)
    have hdS : decide (S = S) = true := by simp
    rw [hdS] at HSA
    have HB8 := Lib.hid (HB7.out.trans (b8.mono HB7.out.size))
    clear hp8 b8 HS2 HP7 HB7 hdS
    go_wp2_with fail
    refine HSA.out.mono ?_
    rintro e9 w9 ⟨rfl, q9, rfl⟩
    have HB9 := Lib.hid (below_drews HB8.out q9)
    clear HSA HB8
    generalize w8.drewN q9 = w9 at *
    go_wp2_with fail
    refine (HNX.out _ HB9.out).mono ?_
    rintro e10 w10 ⟨rfl, q10, rfl⟩
    have HB10 := Lib.hid (below_drews HB9.out q10)
    clear HNX HB9
    generalize w9.drewN q10 = w10 at *
    go_wp2_with fail
    refine (HSTEP.out _ HB10.out).mono ?_
    rintro e11 w11 ⟨rfl, b11⟩
    have HB11 := Lib.hid (HB10.out.trans (b11.mono HB10.out.size))
    clear HSTEP HB10 b11
    go_wp2_with (first
      | (go_at_call 19; (with_reducible refine (HST.out _ HB11.out).mono ?_); rintro e12 w12 ⟨rfl, rfl⟩)
      | (go_at_call 26; (with_reducible refine (HSS.out _ HB11.out).mono ?_); rintro e12 w12 ⟨rfl, rfl⟩))
    go_ret
    exact ⟨rfl, HB.out.trans ((HB6.out.trans (HB11.out.mono HB6.out.size)).mono hszw)⟩
  · have hn2 : 160 < (paths l).length := by omega
    have hn3 : (160 : Int) < ((paths l).length : Int) := by omega
    go_wp2_with fail
    refine (HOVER.out hn2 w2 (Below.refl _ _)).mono ?_
    rintro e5 w5 ⟨rfl, b5⟩
    have HB5 := Lib.hid b5
    clear b5
    go_wp2_with fail
    refine (HSNEW.out _ HB5.out).mono ?_
    rintro e6 w6 ⟨ta, rfl, _, hA, b6⟩
    have HSS := Lib.hid (Spa.states_any w6 ta (paths l) l hA)
    have HB6 := Lib.hid (HB5.out.trans (b6.mono HB5.out.size))
    go_wp2_with (go_at_call 26; (with_reducible refine HSS.out.mono ?_); rintro e12 w12 ⟨rfl, rfl⟩)
    go_ret
    exact ⟨rfl, HB.out.trans (HB6.out.mono hszw)⟩
set_option maxHeartbeats 8000000 in
theorem long (w : World) (xs : List TxV) (a0 : Option Addr) (cap0 : Nat) (hts : Ts w a0 xs) (h0 : xs.length ≤ 12) (hx : ∀ x ∈ xs, x.text.length ≤ 40) (line : Tx) (al : Option Addr) (cl : Nat) (hml : line.length ≤ maxLen) (hbl : Bs w w.heap.size al line) (n : Int) (c : UInt8) (hl1 : ¬ line.length ≤ 400) :
    Calls Try.prog 5 #[.slice a0 xs.length cap0, .slice al line.length cl, .int .i64 n, .int .u8 (c.toNat : Int)] w fun e w' => e = .returned (.bool true) ∧ Below w.heap.size w w' := by
  have hx' : ∀ x ∈ xs, x.text.length ≤ maxLen := fun x h => Nat.le_trans (hx x h) (by unfold maxLen; omega)
  have htot := Spa.few_tot h0 hx
  have HX := Lib.hid hx
  have HX' := Lib.hid hx'
  have HAW := Lib.hid (Dfa.awake_any w)
  clear hx hx'
  go_enter Try.func5, Try.ntmps5
  go_wp2_with fail
  refine HAW.out.mono ?_
  rintro e' w1 ⟨rfl, hb2⟩
  have ts1 := hts.keep hb2
  go_wp2_with fail
  refine (ltexts_any xs a0 cap0 w1 ts1 (by omega) HX'.out).mono ?_
  rintro e' w2 ⟨hb3, hcase⟩
  rcases hcase with ⟨hbad, _⟩ | ⟨_, aL, cL, rfl, hsL⟩
  · exact absurd HX.out hbad
  rw [decide_eq_true h0]
  have HTS := Lib.hid (ts1.keep hb3)
  have HB := Lib.hid (hb2.trans (hb3.mono hb2.size))
  have hszw := HB.out.size
  obtain ⟨l, hl⟩ : ∃ l, l = xs.map TxV.text := ⟨_, rfl⟩
  have HNEW : Hid ((paths l).length ≤ 160 → ∀ X, Below w2.heap.size w2 X → Calls Try.prog 13 #[.slice a0 xs.length cap0] X (GivesDt X l)) := Lib.hid fun hn X hX => by
    have := dnew_any X xs a0 cap0 (HTS.out.keep hX) (by omega) (by omega) (fun x h => Nat.le_trans (HX.out x h) (by omega)) (by rw [← hl]; exact hn)
    rwa [← hl] at this
  have HOVER : Hid (160 < (paths l).length → ∀ X, Below w2.heap.size w2 X → Calls Try.prog 13 #[.slice a0 xs.length cap0] X (GivesNone X)) := Lib.hid fun hn X hX =>
    dnew_over X xs a0 cap0 (HTS.out.keep hX) (by omega) (by omega) (by rw [← hl]; exact hn)
  have HLN : Hid (xs.length = l.length) := Lib.hid (by rw [hl]; simp)
  have HLL := Lib.hid hl
  have HL40 : Hid (∀ x ∈ l, x.length ≤ 40) := Lib.hid fun x h => by
    rw [hl] at h
    obtain ⟨y, hy, rfl⟩ := List.mem_map.1 h
    exact HX.out y hy
  rw [← hl] at hsL htot
  have HSL := Lib.hid hsL
  have HPT : Hid (∀ X, Below w2.heap.size w2 X → Calls Try.prog 14 #[.slice aL xs.length cL] X (GivesSs X (paths l))) := Lib.hid fun X hX => by
    have := paths_any X l aL cL (HSL.out.keep hX) (by rw [← HLN.out]; omega) (by omega)
    rwa [← HLN.out] at this
  have hps : (paths l).length ≤ 481 := by have := paths_len l; omega
  have HW := Lib.hid (paths_wf l)
  clear HAW hb2 hb3 ts1 hsL hts hl HX'
  clear hbl HTS HSL HNEW HOVER HPT HLN HL40 HW HLL HX
  have hl4 : (400 : Int) < (line.length : Int) := by omega
  go_wp2
  go_ret
  exact ⟨rfl, HB.out⟩
set_option maxHeartbeats 8000000 in
theorem walk (w : World) (xs : List TxV) (a0 : Option Addr) (cap0 : Nat) (hz0 : xs.length ≤ 6000000000000) (hx0 : ∀ x ∈ xs, x.text.length ≤ maxLen) (hts : Ts w a0 xs) (line : Tx) (al : Option Addr) (cl : Nat) (hml : line.length ≤ maxLen) (hbl : Bs w w.heap.size al line) (n : Int) (c : UInt8) :
    Calls Try.prog 5 #[.slice a0 xs.length cap0, .slice al line.length cl, .int .i64 n, .int .u8 (c.toNat : Int)] w fun e w' => e = .returned (.bool true) ∧ Below w.heap.size w w' := by
  by_cases hall : xs.length ≤ 12 ∧ (∀ x ∈ xs, x.text.length ≤ 40)
  · by_cases hl1 : line.length ≤ 400
    · exact small w xs a0 cap0 hts hall.1 hall.2 line al cl hml hbl n c hl1
    · exact long w xs a0 cap0 hts hall.1 hall.2 line al cl hml hbl n c hl1
  · have HALL := Lib.hid hall
    have HX := Lib.hid hx0
    clear hall hx0
    go_enter Try.func5, Try.ntmps5
    go_wp2_with fail
    refine (Dfa.awake_any _).mono ?_
    rintro e' w1 ⟨rfl, hb2⟩
    have ts1 := hts.keep hb2
    go_wp2_with fail
    refine (ltexts_any xs a0 cap0 w1 ts1 hz0 HX.out).mono ?_
    rintro e' w2 ⟨hb3, hcase⟩
    have B2 := hb2.trans (hb3.mono hb2.size)
    rcases hcase with ⟨_, rfl⟩ | ⟨hok, aL, cL, rfl, _⟩
    · go_wp2
      go_ret
      exact ⟨rfl, B2⟩
    · have h12 : ¬ xs.length ≤ 12 := fun h => HALL.out ⟨h, hok⟩
      rw [decide_eq_false h12]
      clear HALL hok
      go_wp2
      go_ret
      exact ⟨rfl, B2⟩
end Go.Proofs.Ytnbfdjpmppflmaa.dfaSparse
