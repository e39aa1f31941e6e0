/- The walk of SparseStates. -/
import Derived.Test.YtkooanahgffjgaaSi
namespace Go.Proofs.Ytkooanahgffjgaa.sparseStates
open Go.Proofs.Ytkooanahgffjgaa.Tri Go.Proofs.Ytkooanahgffjgaa.Lnk Go.Proofs.Ytkooanahgffjgaa.Prs Go.Proofs.Ytkooanahgffjgaa.Spa Go.Proofs.Ytkooanahgffjgaa.Reg Go.RowKit Go.Maps
set_option maxRecDepth 100000
set_option linter.unusedVariables false
attribute [local go_sem ↓] Met.eql_counts

set_option maxHeartbeats 8000000 in
theorem small (w : World) (xs : List TxV) (a0 : Option Addr) (cap0 : Nat) (hts : Ts w a0 xs) (h0 : xs.length ≤ 12) (hx : ∀ x ∈ xs, x.text.length ≤ 40) (line : Tx) (al : Option Addr) (cl : Nat) (hml : line.length ≤ maxLen) (hbl : Bs w w.heap.size al line) (hnl : al = none → cl = 0) (hcl : line.length ≤ cl) (hl1 : line.length ≤ 120) :
    Calls Try.prog 5 #[.slice a0 xs.length cap0, .slice al line.length cl] w fun e w' => e = .returned (.bool true) ∧ Below w.heap.size w w' := by
  have hx' : ∀ x ∈ xs, x.text.length ≤ maxLen := fun x h => Nat.le_trans (hx x h) (by unfold maxLen; omega)
  have htot := few_tot h0 hx
  have HX := Lib.hid hx
  have HX' := Lib.hid hx'
  have HAW := Lib.hid (awake_any w)
  clear hx hx'
  go_enter Try.func5, Try.ntmps5
  go_wp2_with fail
  refine HAW.out.mono ?_
  rintro e' w1 ⟨rfl, hb2⟩
  have ts1 := hts.keep hb2
  go_wp2_with fail
  refine (ltexts_any xs a0 cap0 w1 ts1 (by omega) HX'.out).mono ?_
  rintro e' w2 ⟨hb3, hcase⟩
  rcases hcase with ⟨hbad, _⟩ | ⟨_, aL, cL, rfl, hsL⟩
  · exact absurd HX.out hbad
  rw [decide_eq_true h0]
  have HTS := Lib.hid (ts1.keep hb3)
  have HB := Lib.hid (hb2.trans (hb3.mono hb2.size))
  have hszw := HB.out.size
  obtain ⟨l, hl⟩ : ∃ l, l = xs.map TxV.text := ⟨_, rfl⟩
  have HNEW : Hid (∀ X, Below w2.heap.size w2 X → Calls Try.prog 13 #[.slice a0 xs.length cap0] X (GivesAu X (paths l) l)) := Lib.hid fun X hX => by
    have := snew_any X xs a0 cap0 (HTS.out.keep hX) (by omega) (by omega)
    rwa [← hl] at this
  have HLN : Hid (xs.length = l.length) := Lib.hid (by rw [hl]; simp)
  have HL40 : Hid (∀ x ∈ l, x.length ≤ 40) := Lib.hid fun x h => by
    rw [hl] at h
    obtain ⟨y, hy, rfl⟩ := List.mem_map.1 h
    exact HX.out y hy
  rw [← hl] at hsL htot
  have HSL := Lib.hid hsL
  have HPT : Hid (∀ X, Below w2.heap.size w2 X → Calls Try.prog 19 #[.slice aL xs.length cL] X (GivesSs X (paths l))) := Lib.hid fun X hX => by
    have := paths_any X l aL cL (HSL.out.keep hX) (by rw [← HLN.out]; omega) (by omega)
    rwa [← HLN.out] at this
  have hps : (paths l).length ≤ 481 := by have := paths_len l; omega
  have HW := Lib.hid (paths_wf l)
  have HPM := Lib.hid (paths_mem l)
  have HLS := Lib.hid (paths_sub l)
  clear HX HX' HAW hb2 hb3 ts1 hsL hts hl
  have HBL := Lib.hid (fun X (h : Below w2.heap.size w2 X) => (hbl.keep (HB.out.trans (h.mono hszw))).more (Nat.le_trans hszw h.size))
  clear hbl
  go_wp2_with fail
  refine (few_any _ _ _ _).mono ?_
  rintro e3 w3 ⟨rfl, rfl⟩
  rw [decide_eq_true hl1]
  go_wp2_with fail
  refine (HNEW.out w2 (Below.refl _ _)).mono ?_
  rintro e5 w5 ⟨t, rfl, _, hA, b5⟩
  go_wp2_with fail
  refine (HPT.out w5 b5).mono ?_
  rintro e7 W ⟨aP, cP, rfl, hsP, b7⟩
  have HWB : Hid (Below w2.heap.size w2 W) := Lib.hid (b5.trans (b7.mono b5.size))
  have HA : Hid (∀ X, Below W.heap.size W X → Au X t (paths l) l) := Lib.hid fun X h => (hA.keep b7).keep h
  have HSP : Hid (∀ X, Below W.heap.size W X → Ss X aP (paths l)) := Lib.hid fun X h => hsP.keep h
  have HBW : Hid (∀ X, Below W.heap.size W X → Bs X X.heap.size al line) := Lib.hid fun X h => HBL.out X (HWB.out.trans (h.mono HWB.out.size))
  have HFIN : Hid (∀ X, Below W.heap.size W X → Below w.heap.size w X) := Lib.hid fun X h => (HB.out.trans (HWB.out.mono hszw)).trans (h.mono (Nat.le_trans hszw HWB.out.size))
  clear hA hsP b5 b7 HNEW HTS HSL HPT HWB HBL HB HPM HLS HL40
  generalize paths l = ps at *
  go_wp2
  go_loopw [11, 12] (fun v i wr => ∃ k : Nat, k ≤ line.length ∧ i = .int .i64 (k : Int) ∧ v = .int .i64 (place ps (longT ps (line.take k))) ∧ Below W.heap.size W wr) (fun _ i _ => line.length - (intOf i).toNat)
  case atStart => exact ⟨0, by omega, rfl, by rw [List.take_zero, longT, place_nil HW.out], Below.refl _ _⟩
  case round =>
    obtain ⟨k, hk, rfl, rfl, hbel⟩ := hrel
    have HBE := Lib.hid hbel
    clear hbel
    by_cases hlt : k < line.length
    · have hlt2 : (k : Int) < (line.length : Int) := by omega
      have HQM := Lib.hid (longT_mem HW.out (line.take k))
      have HST := Lib.hid (long_take HW.out line k hlt)
      obtain ⟨b, off, eb, _, hcl⟩ := HBW.out _ HBE.out (by omega)
      have hcell := hcl k hlt
      clear hcl
      subst eb
      have HSTEP := Lib.hid (step_free _ t ps l (HA.out _ HBE.out) (longT ps (line.take k)) HQM.out line[k])
      rw [← HST.out] at HSTEP
      generalize line[k] = c at *
      go_wp2_with (go_at_call 21; (with_reducible refine HSTEP.out.mono ?_); rintro e w6 ⟨rfl, hb6⟩; have HB6 := Lib.hid (HBE.out.trans (hb6.mono HBE.out.size)); clear hb6)
      have hkc : k + 1 ≤ cl := by omega
      have hkc2 : (k : Int) + 1 ≤ (cl : Int) := by omega
      have hwk : IntKind.i64.wrap ((k : Int) + 1) = (k : Int) + 1 := by simp [IntKind.wrap, IntKind.bits, IntKind.signed]; omega
      have htn : ((k : Int) + 1).toNat = k + 1 := by omega
      have hk0 : 0 ≤ (k : Int) + 1 := by omega
      have HTL : Hid ((line.take (k + 1)).length = k + 1) := Lib.hid (by rw [List.length_take]; omega)
      have HPATH : Hid (∀ X, Below W.heap.size W X → Calls Try.prog 22 #[.pointer (some ⟨t, 0, none⟩), .int .i64 (place ps (longT ps (line.take (k + 1))))] X (GivesText X (longT ps (line.take (k + 1))))) := Lib.hid fun X h => by
        have := spath_any X t ps l (HA.out X h) (place ps (longT ps (line.take (k + 1))))
        rwa [pathD_place (longT_mem HW.out _)] at this
      have HLONG : Hid (∀ X, Below W.heap.size W X → Calls Try.prog 25 #[.slice aP ps.length cP, .string (str (line.take (k + 1)))] X fun e w' => e = .returned (.string (str (longT ps (line.take (k + 1))))) ∧ X = w') := Lib.hid fun X h => rlong_any X ps aP cP (HSP.out X h) (by omega) (line.take (k + 1)) (by rw [HTL.out]; omega)
      have HCV : Hid (∀ X, Below W.heap.size W X → (convert 23 9 (.slice (some ⟨b, off, none⟩) (k + 1) cl)).run Try.prog X = .ok (.string (str (line.take (k + 1)))) X) := Lib.hid fun X h => by
        have hbs : Bs X X.heap.size (some ⟨b, off, none⟩) (line.take (k + 1)) := fun _ => by
          obtain ⟨b', off', e', hb', hc'⟩ := HBW.out X h (by omega)
          cases e'
          exact ⟨b, off, rfl, hb', fun i hi => by
            rw [HTL.out] at hi
            rw [hc' i (by omega), List.getElem_take]⟩
        have := str_of_bs cl hbs
        rwa [HTL.out] at this
      have hne : ((str (longT ps (line.take (k + 1)))).toList == (str (longT ps (line.take (k + 1)))).toList) = true := by simp
      have hne2 : ((str (longT ps (line.take (k + 1)))).toList != (str (longT ps (line.take (k + 1)))).toList) = false := by simp
      have HL1 : Hid (longT ps (line.take (k + 1)) ∈ ps) := Lib.hid (longT_mem HW.out _)
      clear HSTEP HST HQM HTL hcell HBE
      obtain ⟨y, hy⟩ : ∃ y, y = longT ps (line.take (k + 1)) := ⟨_, rfl⟩
      rw [← hy] at HPATH HLONG hne hne2 HL1 ⊢
      have HY := Lib.hid hy
      clear hy
      go_wp2_with fail
      refine wp_region_held_drew (S := fun w' => Below w6.drew.heap.size w6.drew w') (by kernel_rfl) (Below.refl _ _) (fun hH0 => ?_)
      have B0 := Lib.hid (below_drews HB6.out 1)
      change Hid (Below _ _ w6.drew) at B0
      generalize w6.drew = x0 at *
      have V0 := Lib.hid (fun (w' : World) (h : Below x0.heap.size x0 w') => HCV.out w' (B0.out.trans (h.mono B0.out.size)))
      refine held_take (i := 0) (d := 46) (oi := _) (v := ?_) rfl rfl (by kernel_rfl) (by kernel_rfl) (by kernel_rfl) (fun _ _ _ h => h) (Or.inl ⟨by rfl, ?_⟩) (by assumption) ?_
      rotate_left
      · (intro w hSw; clear hSw; go_simp; (try with_reducible rfl))
      simp only [Act.put, List.setIfInBounds_toArray, List.set_cons_zero, List.set_cons_succ]
      refine held_take (i := 1) (d := 47) (oi := _) (v := ?_) rfl rfl (by kernel_rfl) (by kernel_rfl) (by kernel_rfl) (fun _ _ _ h => h) (Or.inl ⟨by rfl, ?_⟩) (by assumption) ?_
      rotate_left
      · (intro w hSw; clear hSw; go_simp; (try with_reducible rfl))
      simp only [Act.put, List.setIfInBounds_toArray, List.set_cons_zero, List.set_cons_succ]
      refine held_take (i := 4) (d := 50) (oi := _) (v := ?_) rfl rfl (by kernel_rfl) (by kernel_rfl) (by kernel_rfl) (fun _ _ _ h => h) (Or.inl ⟨by rfl, ?_⟩) (by assumption) ?_
      rotate_left
      · (intro w hSw; clear hSw; go_simp; (try with_reducible rfl))
      simp only [Act.put, List.setIfInBounds_toArray, List.set_cons_zero, List.set_cons_succ]
      refine held_take (i := 5) (d := 51) (oi := _) (v := ?_) rfl rfl (by kernel_rfl) (by kernel_rfl) (by kernel_rfl) (fun _ _ _ h => h) (Or.inl ⟨by rfl, ?_⟩) (by assumption) ?_
      rotate_left
      · (intro w hSw; clear hSw; go_simp; (try with_reducible rfl))
      simp only [Act.put, List.setIfInBounds_toArray, List.set_cons_zero, List.set_cons_succ]
      refine held_take (i := 6) (d := 52) (oi := _) (v := ?_) rfl rfl (by kernel_rfl) (by kernel_rfl) (by kernel_rfl) (fun _ _ _ h => h) (Or.inl ⟨by rfl, ?_⟩) (by assumption) ?_
      rotate_left
      · (intro w hSw; clear hSw; go_simp; (try with_reducible rfl))
      simp only [Act.put, List.setIfInBounds_toArray, List.set_cons_zero, List.set_cons_succ]
      refine held_take (i := 7) (d := 53) (oi := _) (v := ?_) rfl rfl (by kernel_rfl) (by kernel_rfl) (by kernel_rfl) (fun _ _ _ h => h) (Or.inl ⟨by rfl, ?_⟩) (by assumption) ?_
      rotate_left
      · (intro w hSw; clear hSw; go_simp; (try with_reducible rfl))
      simp only [Act.put, List.setIfInBounds_toArray, List.set_cons_zero, List.set_cons_succ]
      refine held_take (i := 8) (d := 54) (oi := _) (v := ?_) rfl rfl (by kernel_rfl) (by kernel_rfl) (by kernel_rfl) (fun _ _ _ h => h) (Or.inl ⟨by rfl, ?_⟩) (by assumption) ?_
      rotate_left
      · (intro w hSw; clear hSw; go_simp; (try with_reducible rfl))
      simp only [Act.put, List.setIfInBounds_toArray, List.set_cons_zero, List.set_cons_succ]
      refine held_take (i := 9) (d := 55) (oi := _) (v := ?_) rfl rfl (by kernel_rfl) (by kernel_rfl) (by kernel_rfl) (fun _ _ _ h => h) (Or.inl ⟨by rfl, ?_⟩) (by assumption) ?_
      rotate_left
      · (intro w hSw; have hcvw := V0.out w hSw; clear hSw; go_simp; (try with_reducible rfl))
      simp only [Act.put, List.setIfInBounds_toArray, List.set_cons_zero, List.set_cons_succ]
      clear V0
      refine wpAnyH_ready (rs := [2]) (by kernel_rfl) (by simp) ?_
      refine AllReadyH.cons rfl (fun K hK => ?_) AllReadyH.nil
      go_simp
      go_wp2_with (go_at_call 22; (with_reducible refine (HPATH.out _ B0.out).mono ?_); rintro e x1 ⟨aT1, cT1, rfl, htx, _, _, hb⟩)
      have T1 := Lib.hid (fun (w' : World) (h : Below x1.heap.size x1 w') => str_of_bs cT1 (htx.bs.keep h))
      clear htx
      refine hK.out _ _ hb (fun _ => ?_)
      have B1 := Lib.hid (B0.out.trans (hb.mono B0.out.size))
      refine wpAnyH_more (S' := fun w' => Below x1.heap.size x1 w') (fun w' h => hb.trans (h.mono hb.size)) _ _ _ _ ?_
      have hH1 : Below x1.heap.size x1 x1 := Below.refl _ _
      clear hK K hH0 hb B0
      refine held_take (i := 3) (d := 49) (oi := _) (v := ?_) rfl rfl (by kernel_rfl) (by kernel_rfl) (by kernel_rfl) (fun _ _ _ h => h) (Or.inl ⟨by rfl, ?_⟩) (by assumption) ?_
      rotate_left
      · (intro w hSw; have hcvw := T1.out w hSw; clear hSw; go_simp; (try with_reducible rfl))
      simp only [Act.put, List.setIfInBounds_toArray, List.set_cons_zero, List.set_cons_succ]
      clear T1
      refine wpAnyH_ready (rs := [10]) (by kernel_rfl) (by simp) ?_
      refine AllReadyH.cons rfl (fun K hK => ?_) AllReadyH.nil
      go_simp
      go_wp2_with (go_at_call 25; (with_reducible refine (HLONG.out _ B1.out).mono ?_); rintro e x' ⟨rfl, rfl⟩)
      refine hK.out _ _ hH1 (fun _ => ?_)
      clear hK K
      refine held_take (i := 11) (d := 57) (oi := _) (v := ?_) rfl rfl (by kernel_rfl) (by kernel_rfl) (by kernel_rfl) (fun _ _ _ h => h) (Or.inl ⟨by rfl, ?_⟩) (by assumption) ?_
      rotate_left
      · (intro w hSw; clear hSw; go_simp; (try with_reducible rfl))
      simp only [Act.put, List.setIfInBounds_toArray, List.set_cons_zero, List.set_cons_succ]
      refine wpAnyH_done (by kernel_rfl) ?_ _
      clear hwk htn hk0 hne hne2 HCV HLONG HPATH
      have B9 := Lib.hid (B1.out)
      go_wp2
      go_roundw
      case rel => exact ⟨k + 1, by omega, by go_num, by rw [HY.out], B9.out⟩
      case measure => simp [intOf]; omega
    · have hk3 : ¬ (k : Int) < (line.length : Int) := by omega
      go_wp2
      go_ret
      exact ⟨rfl, HFIN.out _ HBE.out⟩
set_option maxHeartbeats 8000000 in
theorem big (w : World) (xs : List TxV) (a0 : Option Addr) (cap0 : Nat) (hts : Ts w a0 xs) (h0 : xs.length ≤ 12) (hx : ∀ x ∈ xs, x.text.length ≤ 40) (line : Tx) (al : Option Addr) (cl : Nat) (hml : line.length ≤ maxLen) (hbl : Bs w w.heap.size al line) (hnl : al = none → cl = 0) (hcl : line.length ≤ cl) (hl1 : ¬ line.length ≤ 120) :
    Calls Try.prog 5 #[.slice a0 xs.length cap0, .slice al line.length cl] w fun e w' => e = .returned (.bool true) ∧ Below w.heap.size w w' := by
  have hx' : ∀ x ∈ xs, x.text.length ≤ maxLen := fun x h => Nat.le_trans (hx x h) (by unfold maxLen; omega)
  have htot := few_tot h0 hx
  have HX := Lib.hid hx
  have HX' := Lib.hid hx'
  have HAW := Lib.hid (awake_any w)
  clear hx hx'
  go_enter Try.func5, Try.ntmps5
  go_wp2_with fail
  refine HAW.out.mono ?_
  rintro e' w1 ⟨rfl, hb2⟩
  have ts1 := hts.keep hb2
  go_wp2_with fail
  refine (ltexts_any xs a0 cap0 w1 ts1 (by omega) HX'.out).mono ?_
  rintro e' w2 ⟨hb3, hcase⟩
  rcases hcase with ⟨hbad, _⟩ | ⟨_, aL, cL, rfl, hsL⟩
  · exact absurd HX.out hbad
  rw [decide_eq_true h0]
  have HTS := Lib.hid (ts1.keep hb3)
  have HB := Lib.hid (hb2.trans (hb3.mono hb2.size))
  have hszw := HB.out.size
  obtain ⟨l, hl⟩ : ∃ l, l = xs.map TxV.text := ⟨_, rfl⟩
  have HNEW : Hid (∀ X, Below w2.heap.size w2 X → Calls Try.prog 13 #[.slice a0 xs.length cap0] X (GivesAu X (paths l) l)) := Lib.hid fun X hX => by
    have := snew_any X xs a0 cap0 (HTS.out.keep hX) (by omega) (by omega)
    rwa [← hl] at this
  have HLN : Hid (xs.length = l.length) := Lib.hid (by rw [hl]; simp)
  have HL40 : Hid (∀ x ∈ l, x.length ≤ 40) := Lib.hid fun x h => by
    rw [hl] at h
    obtain ⟨y, hy, rfl⟩ := List.mem_map.1 h
    exact HX.out y hy
  rw [← hl] at hsL htot
  have HSL := Lib.hid hsL
  have HPT : Hid (∀ X, Below w2.heap.size w2 X → Calls Try.prog 19 #[.slice aL xs.length cL] X (GivesSs X (paths l))) := Lib.hid fun X hX => by
    have := paths_any X l aL cL (HSL.out.keep hX) (by rw [← HLN.out]; omega) (by omega)
    rwa [← HLN.out] at this
  have hps : (paths l).length ≤ 481 := by have := paths_len l; omega
  have HW := Lib.hid (paths_wf l)
  have HPM := Lib.hid (paths_mem l)
  have HLS := Lib.hid (paths_sub l)
  clear HX HX' HAW hb2 hb3 ts1 hsL hts hl
  clear hbl HTS HSL HNEW HPT HLN HL40 HW HPM HLS
  go_wp2_with fail
  refine (few_any _ _ _ _).mono ?_
  rintro e3 w3 ⟨rfl, rfl⟩
  rw [decide_eq_false hl1]
  go_wp2
  go_ret
  exact ⟨rfl, HB.out⟩
set_option maxHeartbeats 8000000 in
theorem walk (w : World) (xs : List TxV) (a0 : Option Addr) (cap0 : Nat) (hz0 : xs.length ≤ 6000000000000) (hx0 : ∀ x ∈ xs, x.text.length ≤ maxLen) (hts : Ts w a0 xs) (line : Tx) (al : Option Addr) (cl : Nat) (hml : line.length ≤ maxLen) (hbl : Bs w w.heap.size al line) (hnl : al = none → cl = 0) (hcl : line.length ≤ cl) :
    Calls Try.prog 5 #[.slice a0 xs.length cap0, .slice al line.length cl] w fun e w' => e = .returned (.bool true) ∧ Below w.heap.size w w' := by
  by_cases hall : xs.length ≤ 12 ∧ (∀ x ∈ xs, x.text.length ≤ 40)
  · by_cases hl1 : line.length ≤ 120
    · exact small w xs a0 cap0 hts hall.1 hall.2 line al cl hml hbl hnl hcl hl1
    · exact big w xs a0 cap0 hts hall.1 hall.2 line al cl hml hbl hnl hcl hl1
  · have HALL := Lib.hid hall
    have HX := Lib.hid hx0
    clear hall hx0
    go_enter Try.func5, Try.ntmps5
    go_wp2_with fail
    refine (awake_any _).mono ?_
    rintro e' w1 ⟨rfl, hb2⟩
    have ts1 := hts.keep hb2
    go_wp2_with fail
    refine (ltexts_any xs a0 cap0 w1 ts1 hz0 HX.out).mono ?_
    rintro e' w2 ⟨hb3, hcase⟩
    have B2 := hb2.trans (hb3.mono hb2.size)
    rcases hcase with ⟨_, rfl⟩ | ⟨hok, aL, cL, rfl, _⟩
    · go_wp2_with fail
      refine (few_any _ _ _ _).mono ?_
      rintro e3 w3 ⟨rfl, rfl⟩
      go_wp2
      go_ret
      exact ⟨rfl, B2⟩
    · have h12 : ¬ xs.length ≤ 12 := fun h => HALL.out ⟨h, hok⟩
      rw [decide_eq_false h12]
      clear HALL hok
      go_wp2_with fail
      refine (few_any _ _ _ _).mono ?_
      rintro e3 w3 ⟨rfl, rfl⟩
      go_wp2
      go_ret
      exact ⟨rfl, B2⟩
end Go.Proofs.Ytkooanahgffjgaa.sparseStates
