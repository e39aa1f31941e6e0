/- The walk of DfaLinear. -/
import Derived.Test.YtnbfdjpmppflmaaDi
namespace Go.Proofs.Ytnbfdjpmppflmaa.dfaLinear
open Go.Proofs.Ytnbfdjpmppflmaa.Tri Go.Proofs.Ytnbfdjpmppflmaa.Lnk Go.Proofs.Ytnbfdjpmppflmaa.Prs Go.Proofs.Ytnbfdjpmppflmaa.Reg Go.Proofs.Ytnbfdjpmppflmaa.Dfa Go.RowKit Go.Maps
set_option maxRecDepth 100000
set_option linter.unusedVariables false
attribute [local go_sem ↓] Met.eql_counts

set_option maxHeartbeats 8000000 in
theorem small (w : World) (xs : List TxV) (a0 : Option Addr) (cap0 : Nat) (hts : Ts w a0 xs) (h0 : xs.length ≤ 12) (hx : ∀ x ∈ xs, x.text.length ≤ 40) (x : Tx) (ax : Option Addr) (cx : Nat) (hmx : x.length ≤ maxLen) (hbx : Bs w w.heap.size ax x) (y : Tx) (ay : Option Addr) (cy : Nat) (hmy : y.length ≤ maxLen) (hby : Bs w w.heap.size ay y) (hx1 : x.length ≤ 600) (hy1 : y.length ≤ 600) :
    Calls Try.prog 7 #[.slice a0 xs.length cap0, .slice ax x.length cx, .slice ay y.length cy] w fun e w' => e = .returned (.bool true) ∧ Below w.heap.size w w' := by
  have hx' : ∀ x ∈ xs, x.text.length ≤ maxLen := fun x h => Nat.le_trans (hx x h) (by unfold maxLen; omega)
  have htot := Spa.few_tot h0 hx
  have HX := Lib.hid hx
  have HX' := Lib.hid hx'
  have HAW := Lib.hid (Dfa.awake_any w)
  clear hx hx'
  go_enter Try.func7, Try.ntmps7
  go_wp2_with fail
  refine HAW.out.mono ?_
  rintro e' w1 ⟨rfl, hb2⟩
  have ts1 := hts.keep hb2
  go_wp2_with fail
  refine (ltexts_any xs a0 cap0 w1 ts1 (by omega) HX'.out).mono ?_
  rintro e' w2 ⟨hb3, hcase⟩
  rcases hcase with ⟨hbad, _⟩ | ⟨_, aL, cL, rfl, hsL⟩
  · exact absurd HX.out hbad
  rw [decide_eq_true h0]
  have HTS := Lib.hid (ts1.keep hb3)
  have HB := Lib.hid (hb2.trans (hb3.mono hb2.size))
  have hszw := HB.out.size
  obtain ⟨l, hl⟩ : ∃ l, l = xs.map TxV.text := ⟨_, rfl⟩
  have HNEW : Hid ((paths l).length ≤ 160 → ∀ X, Below w2.heap.size w2 X → Calls Try.prog 13 #[.slice a0 xs.length cap0] X (GivesDt X l)) := Lib.hid fun hn X hX => by
    have := dnew_any X xs a0 cap0 (HTS.out.keep hX) (by omega) (by omega) (fun x h => Nat.le_trans (HX.out x h) (by omega)) (by rw [← hl]; exact hn)
    rwa [← hl] at this
  have HOVER : Hid (160 < (paths l).length → ∀ X, Below w2.heap.size w2 X → Calls Try.prog 13 #[.slice a0 xs.length cap0] X (GivesNone X)) := Lib.hid fun hn X hX =>
    dnew_over X xs a0 cap0 (HTS.out.keep hX) (by omega) (by omega) (by rw [← hl]; exact hn)
  have HLN : Hid (xs.length = l.length) := Lib.hid (by rw [hl]; simp)
  have HLL := Lib.hid hl
  have HL40 : Hid (∀ x ∈ l, x.length ≤ 40) := Lib.hid fun x h => by
    rw [hl] at h
    obtain ⟨y, hy, rfl⟩ := List.mem_map.1 h
    exact HX.out y hy
  rw [← hl] at hsL htot
  have HSL := Lib.hid hsL
  have HPT : Hid (∀ X, Below w2.heap.size w2 X → Calls Try.prog 14 #[.slice aL xs.length cL] X (GivesSs X (paths l))) := Lib.hid fun X hX => by
    have := paths_any X l aL cL (HSL.out.keep hX) (by rw [← HLN.out]; omega) (by omega)
    rwa [← HLN.out] at this
  have hps : (paths l).length ≤ 481 := by have := paths_len l; omega
  have HW := Lib.hid (paths_wf l)
  clear HAW hb2 hb3 ts1 hsL hts hl HX'
  by_cases hn : (paths l).length ≤ 160
  · have HBX := Lib.hid (fun X (h : Below w2.heap.size w2 X) => (hbx.keep (HB.out.trans (h.mono hszw))).more (Nat.le_trans hszw h.size))
    have HBY := Lib.hid (fun X (h : Below w2.heap.size w2 X) => (hby.keep (HB.out.trans (h.mono hszw))).more (Nat.le_trans hszw h.size))
    clear hbx hby HTS HSL HPT HLN HL40 HOVER HLL HX
    have hx4 : ¬ (600 : Int) < (x.length : Int) := by omega
    have hy4 : ¬ (600 : Int) < (y.length : Int) := by omega
    go_wp2_with fail
    refine (HNEW.out hn w2 (Below.refl _ _)).mono ?_
    rintro e5 w5 ⟨t, rfl, hA, b5⟩
    go_wp2_with fail
    refine (Met.new_any w5).mono ?_
    rintro e4 w4 ⟨rfl, hw4⟩
    have b4 : Below w5.heap.size w5 w4 := by rw [hw4]; exact Spa.below_new _ _
    have c4 : Met.Cnt w4 w5.heap.size ((0 : Nat) : Int) ((0 : Nat) : Int) 0 0 := by rw [hw4]; exact Spa.cnt_new w5
    have B4 : Below w2.heap.size w2 w4 := b5.trans (b4.mono b5.size)
    have A4 := hA.keep b4
    have hgw : w2.heap.size ≤ w5.heap.size := b5.size
    clear hw4 b4 b5 hA HNEW
    generalize w5.heap.size = g at *
    have CS := Lib.hid (dscan_new w4 w2.heap.size t l A4 g x ax cx (HBX.out w4 B4) (by omega) 0 0 c4 (by omega) (by omega))
    have CS2 := Lib.hid (fun (X : World) (hA : Dt X w2.heap.size t l) (hB : Below w2.heap.size w2 X) (hc : Met.Cnt X g ((x.length : Nat) : Int) ((x.length : Nat) : Int) 0 0) => dscan_new X w2.heap.size t l hA g y ay cy (HBY.out X hB) (by omega) x.length x.length hc (by omega) (by omega))
    rw [Nat.zero_add] at CS
    have HA4 := Lib.hid A4
    have HC4 := Lib.hid c4
    have HB4 := Lib.hid B4
    clear A4 c4 B4 HBX HBY HW
    go_wp2_with fail
    refine CS.out.mono ?_
    rintro e6 w6 ⟨A, cA, rfl, hpA, hnA, hcn, hg⟩
    have hM4 : Met.Mt w4 (some ⟨g, 0, none⟩) ((0 : Nat) : Int) ((0 : Nat) : Int) 0 0 := .inr ⟨g, rfl, HC4.out⟩
    have HA6 := Lib.hid (HA4.out.adds hg hM4)
    have HB6 : Hid (Below w2.heap.size w2 w6) := Lib.hid (Spa.grown_below HB4.out hg hgw)
    have HC6 := Lib.hid hcn
    clear hM4 hg hpA hcn hnA HA4 HC4 HB4 CS
    have CC := Lib.hid (Met.counts_some w6 g _ _ 0 0 HC6.out)
    go_wp2_with fail
    refine CC.out.mono ?_
    rintro e7 w7 ⟨rfl, hb7⟩
    have B7 := HB6.out.trans (hb7.mono HB6.out.size)
    have bn := Spa.below_new w7 (.cells #[.int .i64 (x.length : Int), .int .i64 (x.length : Int), .int .i64 0, .int .i64 0] 41)
    have hA7 := (HA6.out.keep hb7).keep bn
    have hC7 := (HC6.out.same (hb7.block _ HC6.out.lt)).same (bn.block _ (Nat.lt_of_lt_of_le HC6.out.lt hb7.size))
    have hB7 := B7.trans (bn.mono B7.size)
    have HK := Lib.hid (Met.Blk4.new w7 41 (.int .i64 (x.length : Int)) (.int .i64 (x.length : Int)) (.int .i64 0) (.int .i64 0))
    have C2 := Lib.hid (CS2.out _ hA7 hB7 hC7)
    have HA7 := Lib.hid hA7
    have HC7 := Lib.hid hC7
    have HB7 := Lib.hid hB7
    clear hA7 hC7 hB7 bn B7 hb7 CC HA6 HB6 HC6 CS2
    go_wp2_with fail
    refine C2.out.mono ?_
    generalize w7.alloc (.cells #[.int .i64 (x.length : Int), .int .i64 (x.length : Int), .int .i64 0, .int .i64 0] 41) = w8 at *
    generalize w7.heap.size = gc at *
    rintro e9 w9 ⟨A2, cA2, rfl, hpA, hnA, hcn, hg⟩
    have hM8 : Met.Mt w8 (some ⟨g, 0, none⟩) (x.length : Int) (x.length : Int) 0 0 := .inr ⟨g, rfl, HC7.out⟩
    have HK9 := Lib.hid (HK.out.same (hg.block _ HK.out.lt (hM8.not HK.out (by decide))))
    have HB9 : Hid (Below w2.heap.size w2 w9) := Lib.hid (Spa.grown_below HB7.out hg hgw)
    rw [Int.natCast_add] at hcn
    have HC9 := Lib.hid hcn
    clear hM8 hg hpA hcn hnA HA7 HC7 HB7 C2 HK
    have CC := Lib.hid (Met.counts_some w9 g _ _ 0 0 HC9.out)
    obtain ⟨k0, k1, k2, k3⟩ := HK9.out.cells
    have es : IntKind.i64.wrap ((x.length : Int) + (y.length : Int)) = (x.length : Int) + (y.length : Int) := IntWalk.i64_in _ (by omega)
    go_wp2_with fail
    refine CC.out.mono ?_
    rintro e10 w10 ⟨rfl, hb10⟩
    have HB10 := Lib.hid (HB9.out.trans (hb10.mono HB9.out.size))
    go_wp2
    go_ret
    exact ⟨rfl, HB.out.trans (HB10.out.mono hszw)⟩
  · have hn2 : 160 < (paths l).length := by omega
    clear hbx hby HTS HSL HPT HLN HL40 HLL HX HNEW
    have hx4 : ¬ (600 : Int) < (x.length : Int) := by omega
    have hy4 : ¬ (600 : Int) < (y.length : Int) := by omega
    go_wp2_with fail
    refine (HOVER.out hn2 w2 (Below.refl _ _)).mono ?_
    rintro e5 w5 ⟨rfl, b5⟩
    go_wp2
    go_ret
    exact ⟨rfl, HB.out.trans (b5.mono hszw)⟩
set_option maxHeartbeats 8000000 in
theorem longx (w : World) (xs : List TxV) (a0 : Option Addr) (cap0 : Nat) (hts : Ts w a0 xs) (h0 : xs.length ≤ 12) (hx : ∀ x ∈ xs, x.text.length ≤ 40) (x : Tx) (ax : Option Addr) (cx : Nat) (hmx : x.length ≤ maxLen) (hbx : Bs w w.heap.size ax x) (y : Tx) (ay : Option Addr) (cy : Nat) (hmy : y.length ≤ maxLen) (hby : Bs w w.heap.size ay y) (hx1 : ¬ x.length ≤ 600) :
    Calls Try.prog 7 #[.slice a0 xs.length cap0, .slice ax x.length cx, .slice ay y.length cy] w fun e w' => e = .returned (.bool true) ∧ Below w.heap.size w w' := by
  have hx' : ∀ x ∈ xs, x.text.length ≤ maxLen := fun x h => Nat.le_trans (hx x h) (by unfold maxLen; omega)
  have htot := Spa.few_tot h0 hx
  have HX := Lib.hid hx
  have HX' := Lib.hid hx'
  have HAW := Lib.hid (Dfa.awake_any w)
  clear hx hx'
  go_enter Try.func7, Try.ntmps7
  go_wp2_with fail
  refine HAW.out.mono ?_
  rintro e' w1 ⟨rfl, hb2⟩
  have ts1 := hts.keep hb2
  go_wp2_with fail
  refine (ltexts_any xs a0 cap0 w1 ts1 (by omega) HX'.out).mono ?_
  rintro e' w2 ⟨hb3, hcase⟩
  rcases hcase with ⟨hbad, _⟩ | ⟨_, aL, cL, rfl, hsL⟩
  · exact absurd HX.out hbad
  rw [decide_eq_true h0]
  have HTS := Lib.hid (ts1.keep hb3)
  have HB := Lib.hid (hb2.trans (hb3.mono hb2.size))
  have hszw := HB.out.size
  obtain ⟨l, hl⟩ : ∃ l, l = xs.map TxV.text := ⟨_, rfl⟩
  have HNEW : Hid ((paths l).length ≤ 160 → ∀ X, Below w2.heap.size w2 X → Calls Try.prog 13 #[.slice a0 xs.length cap0] X (GivesDt X l)) := Lib.hid fun hn X hX => by
    have := dnew_any X xs a0 cap0 (HTS.out.keep hX) (by omega) (by omega) (fun x h => Nat.le_trans (HX.out x h) (by omega)) (by rw [← hl]; exact hn)
    rwa [← hl] at this
  have HOVER : Hid (160 < (paths l).length → ∀ X, Below w2.heap.size w2 X → Calls Try.prog 13 #[.slice a0 xs.length cap0] X (GivesNone X)) := Lib.hid fun hn X hX =>
    dnew_over X xs a0 cap0 (HTS.out.keep hX) (by omega) (by omega) (by rw [← hl]; exact hn)
  have HLN : Hid (xs.length = l.length) := Lib.hid (by rw [hl]; simp)
  have HLL := Lib.hid hl
  have HL40 : Hid (∀ x ∈ l, x.length ≤ 40) := Lib.hid fun x h => by
    rw [hl] at h
    obtain ⟨y, hy, rfl⟩ := List.mem_map.1 h
    exact HX.out y hy
  rw [← hl] at hsL htot
  have HSL := Lib.hid hsL
  have HPT : Hid (∀ X, Below w2.heap.size w2 X → Calls Try.prog 14 #[.slice aL xs.length cL] X (GivesSs X (paths l))) := Lib.hid fun X hX => by
    have := paths_any X l aL cL (HSL.out.keep hX) (by rw [← HLN.out]; omega) (by omega)
    rwa [← HLN.out] at this
  have hps : (paths l).length ≤ 481 := by have := paths_len l; omega
  have HW := Lib.hid (paths_wf l)
  clear HAW hb2 hb3 ts1 hsL hts hl HX'
  clear hbx hby HTS HSL HNEW HOVER HPT HLN HL40 HW HLL HX
  have hx4 : (600 : Int) < (x.length : Int) := by omega
  go_wp2
  go_ret
  exact ⟨rfl, HB.out⟩
set_option maxHeartbeats 8000000 in
theorem longy (w : World) (xs : List TxV) (a0 : Option Addr) (cap0 : Nat) (hts : Ts w a0 xs) (h0 : xs.length ≤ 12) (hx : ∀ x ∈ xs, x.text.length ≤ 40) (x : Tx) (ax : Option Addr) (cx : Nat) (hmx : x.length ≤ maxLen) (hbx : Bs w w.heap.size ax x) (y : Tx) (ay : Option Addr) (cy : Nat) (hmy : y.length ≤ maxLen) (hby : Bs w w.heap.size ay y) (hx1 : x.length ≤ 600) (hy1 : ¬ y.length ≤ 600) :
    Calls Try.prog 7 #[.slice a0 xs.length cap0, .slice ax x.length cx, .slice ay y.length cy] w fun e w' => e = .returned (.bool true) ∧ Below w.heap.size w w' := by
  have hx' : ∀ x ∈ xs, x.text.length ≤ maxLen := fun x h => Nat.le_trans (hx x h) (by unfold maxLen; omega)
  have htot := Spa.few_tot h0 hx
  have HX := Lib.hid hx
  have HX' := Lib.hid hx'
  have HAW := Lib.hid (Dfa.awake_any w)
  clear hx hx'
  go_enter Try.func7, Try.ntmps7
  go_wp2_with fail
  refine HAW.out.mono ?_
  rintro e' w1 ⟨rfl, hb2⟩
  have ts1 := hts.keep hb2
  go_wp2_with fail
  refine (ltexts_any xs a0 cap0 w1 ts1 (by omega) HX'.out).mono ?_
  rintro e' w2 ⟨hb3, hcase⟩
  rcases hcase with ⟨hbad, _⟩ | ⟨_, aL, cL, rfl, hsL⟩
  · exact absurd HX.out hbad
  rw [decide_eq_true h0]
  have HTS := Lib.hid (ts1.keep hb3)
  have HB := Lib.hid (hb2.trans (hb3.mono hb2.size))
  have hszw := HB.out.size
  obtain ⟨l, hl⟩ : ∃ l, l = xs.map TxV.text := ⟨_, rfl⟩
  have HNEW : Hid ((paths l).length ≤ 160 → ∀ X, Below w2.heap.size w2 X → Calls Try.prog 13 #[.slice a0 xs.length cap0] X (GivesDt X l)) := Lib.hid fun hn X hX => by
    have := dnew_any X xs a0 cap0 (HTS.out.keep hX) (by omega) (by omega) (fun x h => Nat.le_trans (HX.out x h) (by omega)) (by rw [← hl]; exact hn)
    rwa [← hl] at this
  have HOVER : Hid (160 < (paths l).length → ∀ X, Below w2.heap.size w2 X → Calls Try.prog 13 #[.slice a0 xs.length cap0] X (GivesNone X)) := Lib.hid fun hn X hX =>
    dnew_over X xs a0 cap0 (HTS.out.keep hX) (by omega) (by omega) (by rw [← hl]; exact hn)
  have HLN : Hid (xs.length = l.length) := Lib.hid (by rw [hl]; simp)
  have HLL := Lib.hid hl
  have HL40 : Hid (∀ x ∈ l, x.length ≤ 40) := Lib.hid fun x h => by
    rw [hl] at h
    obtain ⟨y, hy, rfl⟩ := List.mem_map.1 h
    exact HX.out y hy
  rw [← hl] at hsL htot
  have HSL := Lib.hid hsL
  have HPT : Hid (∀ X, Below w2.heap.size w2 X → Calls Try.prog 14 #[.slice aL xs.length cL] X (GivesSs X (paths l))) := Lib.hid fun X hX => by
    have := paths_any X l aL cL (HSL.out.keep hX) (by rw [← HLN.out]; omega) (by omega)
    rwa [← HLN.out] at this
  have hps : (paths l).length ≤ 481 := by have := paths_len l; omega
  have HW := Lib.hid (paths_wf l)
  clear HAW hb2 hb3 ts1 hsL hts hl HX'
  clear hbx hby HTS HSL HNEW HOVER HPT HLN HL40 HW HLL HX
  have hx4 : ¬ (600 : Int) < (x.length : Int) := by omega
  have hy4 : (600 : Int) < (y.length : Int) := by omega
  go_wp2
  go_ret
  exact ⟨rfl, HB.out⟩
set_option maxHeartbeats 8000000 in
theorem walk (w : World) (xs : List TxV) (a0 : Option Addr) (cap0 : Nat) (hz0 : xs.length ≤ 6000000000000) (hx0 : ∀ x ∈ xs, x.text.length ≤ maxLen) (hts : Ts w a0 xs) (x : Tx) (ax : Option Addr) (cx : Nat) (hmx : x.length ≤ maxLen) (hbx : Bs w w.heap.size ax x) (y : Tx) (ay : Option Addr) (cy : Nat) (hmy : y.length ≤ maxLen) (hby : Bs w w.heap.size ay y) :
    Calls Try.prog 7 #[.slice a0 xs.length cap0, .slice ax x.length cx, .slice ay y.length cy] w fun e w' => e = .returned (.bool true) ∧ Below w.heap.size w w' := by
  by_cases hall : xs.length ≤ 12 ∧ (∀ x ∈ xs, x.text.length ≤ 40)
  · by_cases hx1 : x.length ≤ 600
    · by_cases hy1 : y.length ≤ 600
      · exact small w xs a0 cap0 hts hall.1 hall.2 x ax cx hmx hbx y ay cy hmy hby hx1 hy1
      · exact longy w xs a0 cap0 hts hall.1 hall.2 x ax cx hmx hbx y ay cy hmy hby hx1 hy1
    · exact longx w xs a0 cap0 hts hall.1 hall.2 x ax cx hmx hbx y ay cy hmy hby hx1
  · have HALL := Lib.hid hall
    have HX := Lib.hid hx0
    clear hall hx0
    go_enter Try.func7, Try.ntmps7
    go_wp2_with fail
    refine (Dfa.awake_any _).mono ?_
    rintro e' w1 ⟨rfl, hb2⟩
    have ts1 := hts.keep hb2
    go_wp2_with fail
    refine (ltexts_any xs a0 cap0 w1 ts1 hz0 HX.out).mono ?_
    rintro e' w2 ⟨hb3, hcase⟩
    have B2 := hb2.trans (hb3.mono hb2.size)
    rcases hcase with ⟨_, rfl⟩ | ⟨hok, aL, cL, rfl, _⟩
    · go_wp2
      go_ret
      exact ⟨rfl, B2⟩
    · have h12 : ¬ xs.length ≤ 12 := fun h => HALL.out ⟨h, hok⟩
      rw [decide_eq_false h12]
      clear HALL hok
      go_wp2
      go_ret
      exact ⟨rfl, B2⟩
end Go.Proofs.Ytnbfdjpmppflmaa.dfaLinear
