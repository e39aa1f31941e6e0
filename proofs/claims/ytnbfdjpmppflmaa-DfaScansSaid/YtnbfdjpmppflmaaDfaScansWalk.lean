/- The walk of DfaScans. -/
import Derived.Test.YtnbfdjpmppflmaaDi
namespace Go.Proofs.Ytnbfdjpmppflmaa.dfaScans
open Go.Proofs.Ytnbfdjpmppflmaa.Tri Go.Proofs.Ytnbfdjpmppflmaa.Lnk Go.Proofs.Ytnbfdjpmppflmaa.Prs Go.Proofs.Ytnbfdjpmppflmaa.Reg Go.Proofs.Ytnbfdjpmppflmaa.Dfa Go.RowKit Go.Maps
set_option maxRecDepth 100000
set_option linter.unusedVariables false
attribute [local go_sem ↓] Met.eql_counts

set_option maxHeartbeats 8000000 in
theorem small (w : World) (xs : List TxV) (a0 : Option Addr) (cap0 : Nat) (hts : Ts w a0 xs) (h0 : xs.length ≤ 12) (hx : ∀ x ∈ xs, x.text.length ≤ 40) (line : Tx) (al : Option Addr) (cl : Nat) (hml : line.length ≤ maxLen) (hbl : Bs w w.heap.size al line) (hl1 : line.length ≤ 120) :
    Calls Try.prog 3 #[.slice a0 xs.length cap0, .slice al line.length cl] w fun e w' => e = .returned (.bool true) ∧ Below w.heap.size w w' := by
  have hx' : ∀ x ∈ xs, x.text.length ≤ maxLen := fun x h => Nat.le_trans (hx x h) (by unfold maxLen; omega)
  have htot := Spa.few_tot h0 hx
  have HX := Lib.hid hx
  have HX' := Lib.hid hx'
  have HAW := Lib.hid (Dfa.awake_any w)
  clear hx hx'
  go_enter Try.func3, Try.ntmps3
  go_wp2_with fail
  refine HAW.out.mono ?_
  rintro e' w1 ⟨rfl, hb2⟩
  have ts1 := hts.keep hb2
  go_wp2_with fail
  refine (ltexts_any xs a0 cap0 w1 ts1 (by omega) HX'.out).mono ?_
  rintro e' w2 ⟨hb3, hcase⟩
  rcases hcase with ⟨hbad, _⟩ | ⟨_, aL, cL, rfl, hsL⟩
  · exact absurd HX.out hbad
  rw [decide_eq_true h0]
  have HTS := Lib.hid (ts1.keep hb3)
  have HB := Lib.hid (hb2.trans (hb3.mono hb2.size))
  have hszw := HB.out.size
  obtain ⟨l, hl⟩ : ∃ l, l = xs.map TxV.text := ⟨_, rfl⟩
  have HNEW : Hid ((paths l).length ≤ 160 → ∀ X, Below w2.heap.size w2 X → Calls Try.prog 13 #[.slice a0 xs.length cap0] X (GivesDt X l)) := Lib.hid fun hn X hX => by
    have := dnew_any X xs a0 cap0 (HTS.out.keep hX) (by omega) (by omega) (fun x h => Nat.le_trans (HX.out x h) (by omega)) (by rw [← hl]; exact hn)
    rwa [← hl] at this
  have HOVER : Hid (160 < (paths l).length → ∀ X, Below w2.heap.size w2 X → Calls Try.prog 13 #[.slice a0 xs.length cap0] X (GivesNone X)) := Lib.hid fun hn X hX =>
    dnew_over X xs a0 cap0 (HTS.out.keep hX) (by omega) (by omega) (by rw [← hl]; exact hn)
  have HLN : Hid (xs.length = l.length) := Lib.hid (by rw [hl]; simp)
  have HLL := Lib.hid hl
  have HL40 : Hid (∀ x ∈ l, x.length ≤ 40) := Lib.hid fun x h => by
    rw [hl] at h
    obtain ⟨y, hy, rfl⟩ := List.mem_map.1 h
    exact HX.out y hy
  rw [← hl] at hsL htot
  have HSL := Lib.hid hsL
  have HPT : Hid (∀ X, Below w2.heap.size w2 X → Calls Try.prog 14 #[.slice aL xs.length cL] X (GivesSs X (paths l))) := Lib.hid fun X hX => by
    have := paths_any X l aL cL (HSL.out.keep hX) (by rw [← HLN.out]; omega) (by omega)
    rwa [← HLN.out] at this
  have hps : (paths l).length ≤ 481 := by have := paths_len l; omega
  have HW := Lib.hid (paths_wf l)
  clear HAW hb2 hb3 ts1 hsL hts hl HX'
  have HBL := Lib.hid (fun X (h : Below w2.heap.size w2 X) => (hbl.keep (HB.out.trans (h.mono hszw))).more (Nat.le_trans hszw h.size))
  clear HX hbl
  go_wp2_with fail
  refine (Spa.few_any _ _ _ _).mono ?_
  rintro e3 w3 ⟨rfl, rfl⟩
  rw [decide_eq_true hl1]
  go_wp2_with fail
  refine (Met.new_any w2).mono ?_
  rintro e4 w4 ⟨rfl, hw4⟩
  have b4 : Below w2.heap.size w2 w4 := by rw [hw4]; exact Spa.below_new _ _
  have c4 : Met.Cnt w4 w2.heap.size ((0 : Nat) : Int) ((0 : Nat) : Int) 0 0 := by rw [hw4]; exact Spa.cnt_new w2
  clear hw4
  by_cases hn : (paths l).length ≤ 160
  · have hn2 : ¬ (160 : Int) < ((paths l).length : Int) := by omega
    have HN := Lib.hid (HNEW.out hn w4 b4)
    clear HNEW HTS HOVER HLL
    go_wp2_with fail
    refine HN.out.mono ?_
    rintro e5 w5 ⟨t, rfl, hD, b5⟩
    have c5 : Met.Cnt w5 w2.heap.size ((0 : Nat) : Int) ((0 : Nat) : Int) 0 0 := c4.same (b5.block _ c4.lt)
    have B5 : Below w2.heap.size w2 w5 := b4.trans (b5.mono b4.size)
    clear b4 c4 b5 HN
    have HP5 := Lib.hid (HPT.out w5 B5)
    go_wp2_with fail
    refine HP5.out.mono ?_
    rintro e6 w6 ⟨aP, cP, rfl, hsP, b6⟩
    have c6 : Met.Cnt w6 w2.heap.size ((0 : Nat) : Int) ((0 : Nat) : Int) 0 0 := c5.same (b6.block _ c5.lt)
    have B6 : Below w2.heap.size w2 w6 := B5.trans (b6.mono B5.size)
    have CS := dscan_new w6 _ t l (hD.keep b6) w2.heap.size line al cl (HBL.out w6 B6) (by omega) 0 0 c6 (by omega) (by omega)
    clear hsP HP5 B5 c5 hD b6 HPT
    go_wp2_with fail
    refine CS.mono ?_
    rintro e7 W ⟨A, cA, rfl, hpA, hnA, hcn, hg⟩
    rw [Nat.zero_add] at hcn
    have HWB : Hid (Below w2.heap.size w2 W) := Lib.hid (Spa.grown_below B6 hg (Nat.le_refl _))
    have HBW := Lib.hid (Below.refl W.heap.size W)
    have HPA : Hid (∀ X, Below W.heap.size W X → Ps X X.heap.size A (Spa.scanOf l line)) := Lib.hid fun X h => hpA.keeps h
    have HCNT : Hid (∀ X, Below W.heap.size W X → Calls Try.prog 18 #[.pointer (some ⟨w2.heap.size, 0, none⟩)] X fun e w' => e = .returned (.agg #[.int .i64 (line.length : Int), .int .i64 (line.length : Int), .int .i64 0, .int .i64 0]) ∧ Below X.heap.size X w') := Lib.hid fun X h => Met.counts_some X _ _ _ _ _ (hcn.same (h.block _ hcn.lt))
    have HCV : Hid (∀ X, Below W.heap.size W X → (convert 23 9 (.slice al line.length cl)).run Try.prog X = .ok (.string (str line)) X) := Lib.hid fun X h => str_of_bs cl (HBL.out X (HWB.out.trans (h.mono HWB.out.size)))
    have HOCC : Hid (∀ X, Below W.heap.size W X → Calls Try.prog 17 #[.string (str line), .slice aL xs.length cL] X (Gives X (Spa.occTo l line line.length))) := Lib.hid fun X h => by
      have := Spa.rocc_any X line l aL cL (HSL.out.keep (HWB.out.trans (h.mono HWB.out.size))) (by rw [← HLN.out]; omega) (fun x hx => by have := HL40.out x hx; omega) (by omega)
      rwa [← HLN.out] at this
    have HEQ : Hid (decide (Spa.scanOf l line = Spa.occTo l line line.length) = true) := Lib.hid (by rw [Spa.occ_scan]; simp)
    have hsl : (Spa.scanOf l line).length ≤ 1000000000 := by
      have h1 := norm_length (Spa.hitsTo l line line.length)
      have h2 := Spa.hits_len l line 1000 (by omega) line.length
      unfold Spa.scanOf; omega
    have HFIN : Hid (∀ X, Below W.heap.size W X → Below w.heap.size w X) := Lib.hid fun X h => (HB.out.trans (HWB.out.mono hszw)).trans (h.mono (Nat.le_trans hszw HWB.out.size))
    clear CS B6 c6 hpA hcn hg hnA HSL HWB HBL HB
    have hcv := HCV.out W (Below.refl _ _)
    go_wp2_with fail
    refine (HOCC.out W (Below.refl _ _)).mono ?_
    rintro e8 w8 ⟨aO, cO, rfl, _, _, hpO, b8⟩
    have HSA := Lib.hid (same_any (Spa.scanOf l line) (Spa.occTo l line line.length) A aO cA cO w8 hsl (HPA.out _ b8) hpO)
    rw [HEQ.out] at HSA
    have HB8 := Lib.hid b8
    clear hcv hpO b8 HOCC HCV HEQ
    go_wp2_with fail
    refine HSA.out.mono ?_
    rintro e9 w9 ⟨rfl, q9, rfl⟩
    have HB9 := Lib.hid (below_drews HB8.out q9)
    have HC9 := Lib.hid (HCNT.out _ HB9.out)
    clear HSA HB8 HCNT
    generalize w8.drewN q9 = w9 at *
    go_wp2_with fail
    refine HC9.out.mono ?_
    rintro e10 w10 ⟨rfl, b10⟩
    have HB10 := Lib.hid (HB9.out.trans (b10.mono HB9.out.size))
    go_wp2
    go_ret
    exact ⟨rfl, HFIN.out _ HB10.out⟩
  · have hn2 : 160 < (paths l).length := by omega
    have hn3 : (160 : Int) < ((paths l).length : Int) := by omega
    go_wp2_with fail
    refine (HOVER.out hn2 w4 b4).mono ?_
    rintro e5 w5 ⟨rfl, b5⟩
    have B5 : Below w2.heap.size w2 w5 := b4.trans (b5.mono b4.size)
    have HP5 := Lib.hid (HPT.out w5 B5)
    go_wp2_with (go_at_call 14; (with_reducible refine HP5.out.mono ?_); rintro e6 w6 ⟨aP, cP, rfl, hsP, b6⟩)
    go_ret
    exact ⟨rfl, HB.out.trans ((B5.trans (b6.mono B5.size)).mono hszw)⟩
set_option maxHeartbeats 8000000 in
theorem big (w : World) (xs : List TxV) (a0 : Option Addr) (cap0 : Nat) (hts : Ts w a0 xs) (h0 : xs.length ≤ 12) (hx : ∀ x ∈ xs, x.text.length ≤ 40) (line : Tx) (al : Option Addr) (cl : Nat) (hml : line.length ≤ maxLen) (hbl : Bs w w.heap.size al line) (hl1 : ¬ line.length ≤ 120) :
    Calls Try.prog 3 #[.slice a0 xs.length cap0, .slice al line.length cl] w fun e w' => e = .returned (.bool true) ∧ Below w.heap.size w w' := by
  have hx' : ∀ x ∈ xs, x.text.length ≤ maxLen := fun x h => Nat.le_trans (hx x h) (by unfold maxLen; omega)
  have htot := Spa.few_tot h0 hx
  have HX := Lib.hid hx
  have HX' := Lib.hid hx'
  have HAW := Lib.hid (Dfa.awake_any w)
  clear hx hx'
  go_enter Try.func3, Try.ntmps3
  go_wp2_with fail
  refine HAW.out.mono ?_
  rintro e' w1 ⟨rfl, hb2⟩
  have ts1 := hts.keep hb2
  go_wp2_with fail
  refine (ltexts_any xs a0 cap0 w1 ts1 (by omega) HX'.out).mono ?_
  rintro e' w2 ⟨hb3, hcase⟩
  rcases hcase with ⟨hbad, _⟩ | ⟨_, aL, cL, rfl, hsL⟩
  · exact absurd HX.out hbad
  rw [decide_eq_true h0]
  have HTS := Lib.hid (ts1.keep hb3)
  have HB := Lib.hid (hb2.trans (hb3.mono hb2.size))
  have hszw := HB.out.size
  obtain ⟨l, hl⟩ : ∃ l, l = xs.map TxV.text := ⟨_, rfl⟩
  have HNEW : Hid ((paths l).length ≤ 160 → ∀ X, Below w2.heap.size w2 X → Calls Try.prog 13 #[.slice a0 xs.length cap0] X (GivesDt X l)) := Lib.hid fun hn X hX => by
    have := dnew_any X xs a0 cap0 (HTS.out.keep hX) (by omega) (by omega) (fun x h => Nat.le_trans (HX.out x h) (by omega)) (by rw [← hl]; exact hn)
    rwa [← hl] at this
  have HOVER : Hid (160 < (paths l).length → ∀ X, Below w2.heap.size w2 X → Calls Try.prog 13 #[.slice a0 xs.length cap0] X (GivesNone X)) := Lib.hid fun hn X hX =>
    dnew_over X xs a0 cap0 (HTS.out.keep hX) (by omega) (by omega) (by rw [← hl]; exact hn)
  have HLN : Hid (xs.length = l.length) := Lib.hid (by rw [hl]; simp)
  have HLL := Lib.hid hl
  have HL40 : Hid (∀ x ∈ l, x.length ≤ 40) := Lib.hid fun x h => by
    rw [hl] at h
    obtain ⟨y, hy, rfl⟩ := List.mem_map.1 h
    exact HX.out y hy
  rw [← hl] at hsL htot
  have HSL := Lib.hid hsL
  have HPT : Hid (∀ X, Below w2.heap.size w2 X → Calls Try.prog 14 #[.slice aL xs.length cL] X (GivesSs X (paths l))) := Lib.hid fun X hX => by
    have := paths_any X l aL cL (HSL.out.keep hX) (by rw [← HLN.out]; omega) (by omega)
    rwa [← HLN.out] at this
  have hps : (paths l).length ≤ 481 := by have := paths_len l; omega
  have HW := Lib.hid (paths_wf l)
  clear HAW hb2 hb3 ts1 hsL hts hl HX'
  clear hbl HTS HSL HNEW HOVER HPT HLN HL40 HW HLL HX
  go_wp2_with fail
  refine (Spa.few_any _ _ _ _).mono ?_
  rintro e3 w3 ⟨rfl, rfl⟩
  rw [decide_eq_false hl1]
  go_wp2
  go_ret
  exact ⟨rfl, HB.out⟩
set_option maxHeartbeats 8000000 in
theorem walk (w : World) (xs : List TxV) (a0 : Option Addr) (cap0 : Nat) (hz0 : xs.length ≤ 6000000000000) (hx0 : ∀ x ∈ xs, x.text.length ≤ maxLen) (hts : Ts w a0 xs) (line : Tx) (al : Option Addr) (cl : Nat) (hml : line.length ≤ maxLen) (hbl : Bs w w.heap.size al line) :
    Calls Try.prog 3 #[.slice a0 xs.length cap0, .slice al line.length cl] w fun e w' => e = .returned (.bool true) ∧ Below w.heap.size w w' := by
  by_cases hall : xs.length ≤ 12 ∧ (∀ x ∈ xs, x.text.length ≤ 40)
  · by_cases hl1 : line.length ≤ 120
    · exact small w xs a0 cap0 hts hall.1 hall.2 line al cl hml hbl hl1
    · exact big w xs a0 cap0 hts hall.1 hall.2 line al cl hml hbl hl1
  · have HALL := Lib.hid hall
    have HX := Lib.hid hx0
    clear hall hx0
    go_enter Try.func3, Try.ntmps3
    go_wp2_with fail
    refine (Dfa.awake_any _).mono ?_
    rintro e' w1 ⟨rfl, hb2⟩
    have ts1 := hts.keep hb2
    go_wp2_with fail
    refine (ltexts_any xs a0 cap0 w1 ts1 hz0 HX.out).mono ?_
    rintro e' w2 ⟨hb3, hcase⟩
    have B2 := hb2.trans (hb3.mono hb2.size)
    rcases hcase with ⟨_, rfl⟩ | ⟨hok, aL, cL, rfl, _⟩
    · go_wp2_with fail
      refine (Spa.few_any _ _ _ _).mono ?_
      rintro e3 w3 ⟨rfl, rfl⟩
      go_wp2
      go_ret
      exact ⟨rfl, B2⟩
    · have h12 : ¬ xs.length ≤ 12 := fun h => HALL.out ⟨h, hok⟩
      rw [decide_eq_false h12]
      clear HALL hok
      go_wp2_with fail
      refine (Spa.few_any _ _ _ _).mono ?_
      rintro e3 w3 ⟨rfl, rfl⟩
      go_wp2
      go_ret
      exact ⟨rfl, B2⟩
end Go.Proofs.Ytnbfdjpmppflmaa.dfaScans
