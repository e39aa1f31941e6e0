/- The walk of SparseScans. -/
import Derived.Test.YtkooanahgffjgaaSi
namespace Go.Proofs.Ytkooanahgffjgaa.sparseScans
open Go.Proofs.Ytkooanahgffjgaa.Tri Go.Proofs.Ytkooanahgffjgaa.Lnk Go.Proofs.Ytkooanahgffjgaa.Prs Go.Proofs.Ytkooanahgffjgaa.Spa Go.Proofs.Ytkooanahgffjgaa.Reg Go.RowKit Go.Maps
set_option maxRecDepth 100000
set_option linter.unusedVariables false
attribute [local go_sem ↓] Met.eql_counts

set_option maxHeartbeats 8000000 in
theorem small (w : World) (xs : List TxV) (a0 : Option Addr) (cap0 : Nat) (hts : Ts w a0 xs) (h0 : xs.length ≤ 12) (hx : ∀ x ∈ xs, x.text.length ≤ 40) (line : Tx) (al : Option Addr) (cl : Nat) (hml : line.length ≤ maxLen) (hbl : Bs w w.heap.size al line) (hl1 : line.length ≤ 120) :
    Calls Try.prog 3 #[.slice a0 xs.length cap0, .slice al line.length cl] w fun e w' => e = .returned (.bool true) ∧ Below w.heap.size w w' := by
  have hx' : ∀ x ∈ xs, x.text.length ≤ maxLen := fun x h => Nat.le_trans (hx x h) (by unfold maxLen; omega)
  have htot := few_tot h0 hx
  have HX := Lib.hid hx
  have HX' := Lib.hid hx'
  have HAW := Lib.hid (awake_any w)
  clear hx hx'
  go_enter Try.func3, Try.ntmps3
  go_wp2_with fail
  refine HAW.out.mono ?_
  rintro e' w1 ⟨rfl, hb2⟩
  have ts1 := hts.keep hb2
  go_wp2_with fail
  refine (ltexts_any xs a0 cap0 w1 ts1 (by omega) HX'.out).mono ?_
  rintro e' w2 ⟨hb3, hcase⟩
  rcases hcase with ⟨hbad, _⟩ | ⟨_, aL, cL, rfl, hsL⟩
  · exact absurd HX.out hbad
  rw [decide_eq_true h0]
  have HTS := Lib.hid (ts1.keep hb3)
  have HB := Lib.hid (hb2.trans (hb3.mono hb2.size))
  have hszw := HB.out.size
  obtain ⟨l, hl⟩ : ∃ l, l = xs.map TxV.text := ⟨_, rfl⟩
  have HNEW : Hid (∀ X, Below w2.heap.size w2 X → Calls Try.prog 13 #[.slice a0 xs.length cap0] X (GivesAu X (paths l) l)) := Lib.hid fun X hX => by
    have := snew_any X xs a0 cap0 (HTS.out.keep hX) (by omega) (by omega)
    rwa [← hl] at this
  have HLN : Hid (xs.length = l.length) := Lib.hid (by rw [hl]; simp)
  have HL40 : Hid (∀ x ∈ l, x.length ≤ 40) := Lib.hid fun x h => by
    rw [hl] at h
    obtain ⟨y, hy, rfl⟩ := List.mem_map.1 h
    exact HX.out y hy
  rw [← hl] at hsL htot
  have HSL := Lib.hid hsL
  have HPT : Hid (∀ X, Below w2.heap.size w2 X → Calls Try.prog 19 #[.slice aL xs.length cL] X (GivesSs X (paths l))) := Lib.hid fun X hX => by
    have := paths_any X l aL cL (HSL.out.keep hX) (by rw [← HLN.out]; omega) (by omega)
    rwa [← HLN.out] at this
  have hps : (paths l).length ≤ 481 := by have := paths_len l; omega
  have HW := Lib.hid (paths_wf l)
  have HPM := Lib.hid (paths_mem l)
  have HLS := Lib.hid (paths_sub l)
  clear HX HX' HAW hb2 hb3 ts1 hsL hts hl
  have HBL := Lib.hid (fun X (h : Below w2.heap.size w2 X) => (hbl.keep (HB.out.trans (h.mono hszw))).more (Nat.le_trans hszw h.size))
  clear hbl
  go_wp2_with fail
  refine (few_any _ _ _ _).mono ?_
  rintro e3 w3 ⟨rfl, rfl⟩
  rw [decide_eq_true hl1]
  go_wp2_with fail
  refine (Met.new_any w2).mono ?_
  rintro e4 w4 ⟨rfl, hw4⟩
  have b4 : Below w2.heap.size w2 w4 := by rw [hw4]; exact below_new _ _
  have c4 : Met.Cnt w4 w2.heap.size 0 0 0 0 := by rw [hw4]; exact cnt_new w2
  clear hw4
  go_wp2_with fail
  refine (HNEW.out w4 b4).mono ?_
  rintro e5 w5 ⟨t, rfl, _, hA, b5⟩
  have c5 : Met.Cnt w5 w2.heap.size 0 0 0 0 := c4.same (b5.block _ c4.lt)
  have B5 : Below w2.heap.size w2 w5 := b4.trans (b5.mono b4.size)
  clear b4 c4 b5
  have CS := scan_new w5 t (paths l) l hA w2.heap.size line al cl (HBL.out w5 B5) (by omega) 0 0 c5 (by omega) (by omega)
  go_wp2_with fail
  refine CS.mono ?_
  rintro e6 W ⟨A, cA, rfl, hpA, hcn, hg⟩
  rw [Nat.zero_add, Nat.zero_add] at hcn
  have HWB : Hid (Below w2.heap.size w2 W) := Lib.hid (grown_below B5 hg (Nat.le_refl _))
  have HBW := Lib.hid (Below.refl W.heap.size W)
  have HPA : Hid (∀ X, Below W.heap.size W X → Ps X X.heap.size A (scanOf l line)) := Lib.hid fun X h => hpA.keeps h
  have HCNT : Hid (∀ X, Below W.heap.size W X → Calls Try.prog 17 #[.pointer (some ⟨w2.heap.size, 0, none⟩)] X fun e w' => e = .returned (.agg #[.int .i64 (line.length : Int), .int .i64 (looksTo (paths l) line line.length : Int), .int .i64 0, .int .i64 0]) ∧ Below X.heap.size X w') := Lib.hid fun X h => Met.counts_some X _ _ _ _ _ (hcn.same (h.block _ hcn.lt))
  have HCV : Hid (∀ X, Below W.heap.size W X → (convert 23 9 (.slice al line.length cl)).run Try.prog X = .ok (.string (str line)) X) := Lib.hid fun X h => str_of_bs cl (HBL.out X (HWB.out.trans (h.mono HWB.out.size)))
  have HOCC : Hid (∀ X, Below W.heap.size W X → Calls Try.prog 16 #[.string (str line), .slice aL xs.length cL] X (Gives X (occTo l line line.length))) := Lib.hid fun X h => by
    have := rocc_any X line l aL cL (HSL.out.keep (HWB.out.trans (h.mono HWB.out.size))) (by rw [← HLN.out]; omega) (fun x hx => by have := HL40.out x hx; omega) (by omega)
    rwa [← HLN.out] at this
  have HPW : Hid (∀ X, Below W.heap.size W X → Calls Try.prog 19 #[.slice aL xs.length cL] X (GivesSs X (paths l))) := Lib.hid fun X h => HPT.out X (HWB.out.trans (h.mono HWB.out.size))
  have HEQ : Hid (decide (scanOf l line = occTo l line line.length) = true) := Lib.hid (by rw [occ_scan]; simp)
  have hsl : (scanOf l line).length ≤ 1000000000 := by
    have h1 := norm_length (hitsTo l line line.length)
    have h2 := hits_len l line 1000 (by omega) line.length
    unfold scanOf; omega
  have HFIN : Hid (∀ X, Below W.heap.size W X → Below w.heap.size w X) := Lib.hid fun X h => (HB.out.trans (HWB.out.mono hszw)).trans (h.mono (Nat.le_trans hszw HWB.out.size))
  clear CS B5 c5 hA hpA hcn hg HNEW HTS HSL HPT HWB HBL HB
  go_wp2
  refine wp_region_held_drew (S := fun w' => Below W.drew.heap.size W.drew w') (by kernel_rfl) (Below.refl _ _) (fun hH0 => ?_)
  have B0 := Lib.hid (below_drews HBW.out 1)
  change Hid (Below _ _ W.drew) at B0
  generalize W.drew = x0 at *
  have V0 := Lib.hid (fun (w' : World) (h : Below x0.heap.size x0 w') => HCV.out w' (B0.out.trans (h.mono B0.out.size)))
  refine held_take (i := 0) (d := 35) (oi := _) (v := ?_) rfl rfl (by kernel_rfl) (by kernel_rfl) (by kernel_rfl) (fun _ _ _ h => h) (Or.inl ⟨by rfl, ?_⟩) (by assumption) ?_
  rotate_left
  · (intro w hSw; clear hSw; go_simp; (try with_reducible rfl))
  simp only [Act.put, List.setIfInBounds_toArray, List.set_cons_zero, List.set_cons_succ]
  refine held_take (i := 1) (d := 36) (oi := _) (v := ?_) rfl rfl (by kernel_rfl) (by kernel_rfl) (by kernel_rfl) (fun _ _ _ h => h) (Or.inl ⟨by rfl, ?_⟩) (by assumption) ?_
  rotate_left
  · (intro w hSw; clear hSw; go_simp; (try with_reducible rfl))
  simp only [Act.put, List.setIfInBounds_toArray, List.set_cons_zero, List.set_cons_succ]
  refine held_take (i := 2) (d := 37) (oi := _) (v := ?_) rfl rfl (by kernel_rfl) (by kernel_rfl) (by kernel_rfl) (fun _ _ _ h => h) (Or.inl ⟨by rfl, ?_⟩) (by assumption) ?_
  rotate_left
  · (intro w hSw; have hcvw := V0.out w hSw; clear hSw; go_simp; (try with_reducible rfl))
  simp only [Act.put, List.setIfInBounds_toArray, List.set_cons_zero, List.set_cons_succ]
  refine held_take (i := 3) (d := 38) (oi := _) (v := ?_) rfl rfl (by kernel_rfl) (by kernel_rfl) (by kernel_rfl) (fun _ _ _ h => h) (Or.inl ⟨by rfl, ?_⟩) (by assumption) ?_
  rotate_left
  · (intro w hSw; clear hSw; go_simp; (try with_reducible rfl))
  simp only [Act.put, List.setIfInBounds_toArray, List.set_cons_zero, List.set_cons_succ]
  clear V0
  refine wpAnyH_ready (rs := [4]) (by kernel_rfl) (by simp) ?_
  refine AllReadyH.cons rfl (fun K hK => ?_) AllReadyH.nil
  go_simp
  go_wp2_with (go_at_call 16; (with_reducible refine (HOCC.out _ B0.out).mono ?_); rintro e x1 ⟨aO, cO, rfl, _, _, hpO, hb⟩)
  refine hK.out _ _ hb (fun _ => ?_)
  have B1 := Lib.hid (B0.out.trans (hb.mono B0.out.size))
  refine wpAnyH_more (S' := fun w' => Below x1.heap.size x1 w') (fun w' h => hb.trans (h.mono hb.size)) _ _ _ _ ?_
  have hH1 : Below x1.heap.size x1 x1 := Below.refl _ _
  clear hK K hH0 hb B0
  refine wpAnyH_ready (rs := [5]) (by kernel_rfl) (by simp) ?_
  refine AllReadyH.cons rfl (fun K hK => ?_) AllReadyH.nil
  go_simp
  go_wp2_with (go_at_call 15; (with_reducible refine (same_any (scanOf l line) (occTo l line line.length) A aO cA cO x1 hsl (HPA.out _ B1.out) hpO).mono ?_); rintro e x' ⟨rfl, q, rfl⟩)
  have hb : Below x1.heap.size x1 (x1.drewN q) := below_drews (Below.refl _ _) q
  generalize x1.drewN q = x2 at *
  refine hK.out _ _ hb (fun _ => ?_)
  have B2 := Lib.hid (B1.out.trans (hb.mono B1.out.size))
  refine wpAnyH_more (S' := fun w' => Below x2.heap.size x2 w') (fun w' h => hb.trans (h.mono hb.size)) _ _ _ _ ?_
  have hH2 : Below x2.heap.size x2 x2 := Below.refl _ _
  clear hK K hH1 hb B1
  rw [HEQ.out]
  clear hpO
  have V1 := Lib.hid (fun (w' : World) (h : Below x2.heap.size x2 w') => HCV.out w' (B2.out.trans (h.mono B2.out.size)))
  refine held_take (i := 6) (d := 41) (oi := _) (v := ?_) rfl rfl (by kernel_rfl) (by kernel_rfl) (by kernel_rfl) (fun _ _ _ h => h) (Or.inl ⟨by rfl, ?_⟩) (by assumption) ?_
  rotate_left
  · (intro w hSw; clear hSw; go_simp; (try with_reducible rfl))
  simp only [Act.put, List.setIfInBounds_toArray, List.set_cons_zero, List.set_cons_succ]
  refine held_take (i := 7) (d := 42) (oi := _) (v := ?_) rfl rfl (by kernel_rfl) (by kernel_rfl) (by kernel_rfl) (fun _ _ _ h => h) (Or.inl ⟨by rfl, ?_⟩) (by assumption) ?_
  rotate_left
  · (intro w hSw; clear hSw; go_simp; (try with_reducible rfl))
  simp only [Act.put, List.setIfInBounds_toArray, List.set_cons_zero, List.set_cons_succ]
  refine held_take (i := 9) (d := 44) (oi := _) (v := ?_) rfl rfl (by kernel_rfl) (by kernel_rfl) (by kernel_rfl) (fun _ _ _ h => h) (Or.inl ⟨by rfl, ?_⟩) (by assumption) ?_
  rotate_left
  · (intro w hSw; clear hSw; go_simp; (try with_reducible rfl))
  simp only [Act.put, List.setIfInBounds_toArray, List.set_cons_zero, List.set_cons_succ]
  refine held_take (i := 10) (d := 45) (oi := _) (v := ?_) rfl rfl (by kernel_rfl) (by kernel_rfl) (by kernel_rfl) (fun _ _ _ h => h) (Or.inl ⟨by rfl, ?_⟩) (by assumption) ?_
  rotate_left
  · (intro w hSw; clear hSw; go_simp; (try with_reducible rfl))
  simp only [Act.put, List.setIfInBounds_toArray, List.set_cons_zero, List.set_cons_succ]
  refine held_take (i := 11) (d := 46) (oi := _) (v := ?_) rfl rfl (by kernel_rfl) (by kernel_rfl) (by kernel_rfl) (fun _ _ _ h => h) (Or.inl ⟨by rfl, ?_⟩) (by assumption) ?_
  rotate_left
  · (intro w hSw; clear hSw; go_simp; (try with_reducible rfl))
  simp only [Act.put, List.setIfInBounds_toArray, List.set_cons_zero, List.set_cons_succ]
  refine held_take (i := 13) (d := 48) (oi := _) (v := ?_) rfl rfl (by kernel_rfl) (by kernel_rfl) (by kernel_rfl) (fun _ _ _ h => h) (Or.inl ⟨by rfl, ?_⟩) (by assumption) ?_
  rotate_left
  · (intro w hSw; clear hSw; go_simp; (try with_reducible rfl))
  simp only [Act.put, List.setIfInBounds_toArray, List.set_cons_zero, List.set_cons_succ]
  refine held_take (i := 14) (d := 49) (oi := _) (v := ?_) rfl rfl (by kernel_rfl) (by kernel_rfl) (by kernel_rfl) (fun _ _ _ h => h) (Or.inl ⟨by rfl, ?_⟩) (by assumption) ?_
  rotate_left
  · (intro w hSw; have hcvw := V1.out w hSw; clear hSw; go_simp; (try with_reducible rfl))
  simp only [Act.put, List.setIfInBounds_toArray, List.set_cons_zero, List.set_cons_succ]
  clear V1
  refine wpAnyH_ready (rs := [8]) (by kernel_rfl) (by simp) ?_
  refine AllReadyH.cons rfl (fun K hK => ?_) AllReadyH.nil
  go_simp
  go_wp2_with (go_at_call 17; (with_reducible refine (HCNT.out _ B2.out).mono ?_); rintro e x3 ⟨rfl, hb⟩)
  refine hK.out _ _ hb (fun _ => ?_)
  have B3 := Lib.hid (B2.out.trans (hb.mono B2.out.size))
  refine wpAnyH_more (S' := fun w' => Below x3.heap.size x3 w') (fun w' h => hb.trans (h.mono hb.size)) _ _ _ _ ?_
  have hH3 : Below x3.heap.size x3 x3 := Below.refl _ _
  clear hK K hH2 hb B2
  refine wpAnyH_ready (rs := [12]) (by kernel_rfl) (by simp) ?_
  refine AllReadyH.cons rfl (fun K hK => ?_) AllReadyH.nil
  go_simp
  go_wp2_with (go_at_call 19; (with_reducible refine (HPW.out _ B3.out).mono ?_); rintro e x4 ⟨aP, cP, rfl, hsP, hb⟩)
  refine hK.out _ _ hb (fun _ => ?_)
  have B4 := Lib.hid (B3.out.trans (hb.mono B3.out.size))
  refine wpAnyH_more (S' := fun w' => Below x4.heap.size x4 w') (fun w' h => hb.trans (h.mono hb.size)) _ _ _ _ ?_
  have hH4 : Below x4.heap.size x4 x4 := Below.refl _ _
  clear hK K hH3 hb B3
  have HLK := Lib.hid (fun (X : World) (h : Below W.heap.size W X) (hx : Ss X aP (paths l)) => rlooks_any X (paths l) HW.out aP cP hx (by omega) line (by omega))
  refine wpAnyH_ready (rs := [15]) (by kernel_rfl) (by simp) ?_
  refine AllReadyH.cons rfl (fun K hK => ?_) AllReadyH.nil
  go_simp
  go_wp2_with (go_at_call 18; (with_reducible refine (HLK.out _ B4.out hsP).mono ?_); rintro e x5 ⟨rfl, hb⟩)
  refine hK.out _ _ hb (fun _ => ?_)
  have B5 := Lib.hid (B4.out.trans (hb.mono B4.out.size))
  refine wpAnyH_more (S' := fun w' => Below x5.heap.size x5 w') (fun w' h => hb.trans (h.mono hb.size)) _ _ _ _ ?_
  have hH5 : Below x5.heap.size x5 x5 := Below.refl _ _
  clear hK K hH4 hb B4
  refine held_take (i := 16) (d := 51) (oi := _) (v := ?_) rfl rfl (by kernel_rfl) (by kernel_rfl) (by kernel_rfl) (fun _ _ _ h => h) (Or.inl ⟨by rfl, ?_⟩) (by assumption) ?_
  rotate_left
  · (intro w hSw; clear hSw; go_simp; (try with_reducible rfl))
  simp only [Act.put, List.setIfInBounds_toArray, List.set_cons_zero, List.set_cons_succ]
  refine held_take (i := 17) (d := 52) (oi := _) (v := ?_) rfl rfl (by kernel_rfl) (by kernel_rfl) (by kernel_rfl) (fun _ _ _ h => h) (Or.inl ⟨by rfl, ?_⟩) (by assumption) ?_
  rotate_left
  · (intro w hSw; clear hSw; go_simp; (try with_reducible rfl))
  simp only [Act.put, List.setIfInBounds_toArray, List.set_cons_zero, List.set_cons_succ]
  refine held_take (i := 18) (d := 53) (oi := _) (v := ?_) rfl rfl (by kernel_rfl) (by kernel_rfl) (by kernel_rfl) (fun _ _ _ h => h) (Or.inl ⟨by rfl, ?_⟩) (by assumption) ?_
  rotate_left
  · (intro w hSw; clear hSw; go_simp; (try with_reducible rfl))
  simp only [Act.put, List.setIfInBounds_toArray, List.set_cons_zero, List.set_cons_succ]
  refine held_take (i := 19) (d := 4) (oi := _) (v := ?_) rfl rfl (by kernel_rfl) (by kernel_rfl) (by kernel_rfl) (fun _ _ _ h => h) (Or.inl ⟨by rfl, ?_⟩) (by assumption) ?_
  rotate_left
  · (intro w hSw; clear hSw; go_simp; (try with_reducible rfl))
  simp only [Act.put, List.setIfInBounds_toArray, List.set_cons_zero, List.set_cons_succ]
  refine wpAnyH_done (by kernel_rfl) ?_ _
  go_wp2
  go_ret
  exact ⟨rfl, HFIN.out _ B5.out⟩
set_option maxHeartbeats 8000000 in
theorem big (w : World) (xs : List TxV) (a0 : Option Addr) (cap0 : Nat) (hts : Ts w a0 xs) (h0 : xs.length ≤ 12) (hx : ∀ x ∈ xs, x.text.length ≤ 40) (line : Tx) (al : Option Addr) (cl : Nat) (hml : line.length ≤ maxLen) (hbl : Bs w w.heap.size al line) (hl1 : ¬ line.length ≤ 120) :
    Calls Try.prog 3 #[.slice a0 xs.length cap0, .slice al line.length cl] w fun e w' => e = .returned (.bool true) ∧ Below w.heap.size w w' := by
  have hx' : ∀ x ∈ xs, x.text.length ≤ maxLen := fun x h => Nat.le_trans (hx x h) (by unfold maxLen; omega)
  have htot := few_tot h0 hx
  have HX := Lib.hid hx
  have HX' := Lib.hid hx'
  have HAW := Lib.hid (awake_any w)
  clear hx hx'
  go_enter Try.func3, Try.ntmps3
  go_wp2_with fail
  refine HAW.out.mono ?_
  rintro e' w1 ⟨rfl, hb2⟩
  have ts1 := hts.keep hb2
  go_wp2_with fail
  refine (ltexts_any xs a0 cap0 w1 ts1 (by omega) HX'.out).mono ?_
  rintro e' w2 ⟨hb3, hcase⟩
  rcases hcase with ⟨hbad, _⟩ | ⟨_, aL, cL, rfl, hsL⟩
  · exact absurd HX.out hbad
  rw [decide_eq_true h0]
  have HTS := Lib.hid (ts1.keep hb3)
  have HB := Lib.hid (hb2.trans (hb3.mono hb2.size))
  have hszw := HB.out.size
  obtain ⟨l, hl⟩ : ∃ l, l = xs.map TxV.text := ⟨_, rfl⟩
  have HNEW : Hid (∀ X, Below w2.heap.size w2 X → Calls Try.prog 13 #[.slice a0 xs.length cap0] X (GivesAu X (paths l) l)) := Lib.hid fun X hX => by
    have := snew_any X xs a0 cap0 (HTS.out.keep hX) (by omega) (by omega)
    rwa [← hl] at this
  have HLN : Hid (xs.length = l.length) := Lib.hid (by rw [hl]; simp)
  have HL40 : Hid (∀ x ∈ l, x.length ≤ 40) := Lib.hid fun x h => by
    rw [hl] at h
    obtain ⟨y, hy, rfl⟩ := List.mem_map.1 h
    exact HX.out y hy
  rw [← hl] at hsL htot
  have HSL := Lib.hid hsL
  have HPT : Hid (∀ X, Below w2.heap.size w2 X → Calls Try.prog 19 #[.slice aL xs.length cL] X (GivesSs X (paths l))) := Lib.hid fun X hX => by
    have := paths_any X l aL cL (HSL.out.keep hX) (by rw [← HLN.out]; omega) (by omega)
    rwa [← HLN.out] at this
  have hps : (paths l).length ≤ 481 := by have := paths_len l; omega
  have HW := Lib.hid (paths_wf l)
  have HPM := Lib.hid (paths_mem l)
  have HLS := Lib.hid (paths_sub l)
  clear HX HX' HAW hb2 hb3 ts1 hsL hts hl
  clear hbl HTS HSL HNEW HPT HLN HL40 HW HPM HLS
  go_wp2_with fail
  refine (few_any _ _ _ _).mono ?_
  rintro e3 w3 ⟨rfl, rfl⟩
  rw [decide_eq_false hl1]
  go_wp2
  go_ret
  exact ⟨rfl, HB.out⟩
set_option maxHeartbeats 8000000 in
theorem walk (w : World) (xs : List TxV) (a0 : Option Addr) (cap0 : Nat) (hz0 : xs.length ≤ 6000000000000) (hx0 : ∀ x ∈ xs, x.text.length ≤ maxLen) (hts : Ts w a0 xs) (line : Tx) (al : Option Addr) (cl : Nat) (hml : line.length ≤ maxLen) (hbl : Bs w w.heap.size al line) :
    Calls Try.prog 3 #[.slice a0 xs.length cap0, .slice al line.length cl] w fun e w' => e = .returned (.bool true) ∧ Below w.heap.size w w' := by
  by_cases hall : xs.length ≤ 12 ∧ (∀ x ∈ xs, x.text.length ≤ 40)
  · by_cases hl1 : line.length ≤ 120
    · exact small w xs a0 cap0 hts hall.1 hall.2 line al cl hml hbl hl1
    · exact big w xs a0 cap0 hts hall.1 hall.2 line al cl hml hbl hl1
  · have HALL := Lib.hid hall
    have HX := Lib.hid hx0
    clear hall hx0
    go_enter Try.func3, Try.ntmps3
    go_wp2_with fail
    refine (awake_any _).mono ?_
    rintro e' w1 ⟨rfl, hb2⟩
    have ts1 := hts.keep hb2
    go_wp2_with fail
    refine (ltexts_any xs a0 cap0 w1 ts1 hz0 HX.out).mono ?_
    rintro e' w2 ⟨hb3, hcase⟩
    have B2 := hb2.trans (hb3.mono hb2.size)
    rcases hcase with ⟨_, rfl⟩ | ⟨hok, aL, cL, rfl, _⟩
    · go_wp2_with fail
      refine (few_any _ _ _ _).mono ?_
      rintro e3 w3 ⟨rfl, rfl⟩
      go_wp2
      go_ret
      exact ⟨rfl, B2⟩
    · have h12 : ¬ xs.length ≤ 12 := fun h => HALL.out ⟨h, hok⟩
      rw [decide_eq_false h12]
      clear HALL hok
      go_wp2_with fail
      refine (few_any _ _ _ _).mono ?_
      rintro e3 w3 ⟨rfl, rfl⟩
      go_wp2
      go_ret
      exact ⟨rfl, B2⟩
end Go.Proofs.Ytkooanahgffjgaa.sparseScans
