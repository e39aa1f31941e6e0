/- The walk of CutsPieces. -/
import Derived.Test.YtlpjghhmacobdaaCutD
namespace Go.Proofs.Ytlpjghhmacobdaa.cutsPieces
open Go.Proofs.Ytlpjghhmacobdaa.Tri Go.Proofs.Ytlpjghhmacobdaa.Lnk Go.Proofs.Ytlpjghhmacobdaa.Cts Go.Proofs.Ytlpjghhmacobdaa.Reg Go.RowKit Go.Maps
set_option maxRecDepth 100000
set_option linter.unusedVariables false

set_option maxHeartbeats 8000000 in
theorem walk (w : World) (line : List UInt8) (aline : Option Addr) (cline : Nat) (hmline : line.length ≤ maxLen) (hbline : Bs w w.heap.size aline line) (hnline : aline = none → cline = 0) (l : List Int) (al : Option Addr) (cl : Nat) (hml : l.length ≤ maxLen) (hil : Is w w.heap.size al l) (hwl : ∀ i ∈ l, (Lit.int .i64 i).wf = true) (n : Int) (wn : (Lit.int .i64 n).wf = true) :
    Calls Try.prog 3 #[.slice aline line.length cline, .slice al l.length cl, .int .i64 n] w fun e w' => e = .returned (.bool true) ∧ Below w.heap.size w w' := by
  have HT := Lib.hid hbline
  have HNT := Lib.hid hnline
  have HL := Lib.hid hil
  have HWL := Lib.hid hwl
  have HAW := Lib.hid (awake_any w)
  clear hbline hil hwl hnline
  go_enter Try.func3, Try.ntmps3
  go_wp2_with fail
  refine HAW.out.mono ?_
  rintro e' w1 ⟨rfl, hb1⟩
  have HB1 := Lib.hid hb1
  clear HAW hb1
  by_cases hA : line.length ≤ 600
  rotate_left
  · have hAi : ¬ (line.length : Int) ≤ 600 := by omega
    go_wp2_with fail
    go_ret
    exact ⟨rfl, HB1.out⟩
  have hAi : (line.length : Int) ≤ 600 := by omega
  by_cases hB : l.length ≤ 100
  rotate_left
  · have hBi : ¬ (l.length : Int) ≤ 100 := by omega
    go_wp2_with fail
    go_ret
    exact ⟨rfl, HB1.out⟩
  have hBi : (l.length : Int) ≤ 100 := by omega
  have hsz := HB1.out.size
  have HBB : Hid (Below w1.heap.size w1 w1) := Lib.hid (Below.refl _ _)
  have z1 : line.length ≤ 1000000 := by omega
  have z2 : l.length ≤ 1000000 := by omega
  have z3 : l.length ≤ 1000000000 := by omega
  have IT : ∀ X, Below w1.heap.size w1 X → Is X X.heap.size al l := fun X h => (HL.out.keep (HB1.out.trans (h.mono hsz))).more (HB1.out.trans (h.mono hsz)).size
  have BT : ∀ X, Below w1.heap.size w1 X → Bs X X.heap.size aline line := fun X h => (HT.out.keep (HB1.out.trans (h.mono hsz))).more (HB1.out.trans (h.mono hsz)).size
  have VT0 : Hid (∀ X, Below w1.heap.size w1 X → (convert 22 9 (.slice aline line.length cline)).run Try.prog X = .ok (.string (str line)) X) := Lib.hid fun X h => str_of_bs cline (BT X h)
  have CP : Hid (∀ X, Below w1.heap.size w1 X → Calls Try.prog 9 #[.slice aline line.length cline, .slice al l.length cl] X (GivesPcs X (pieces line l))) := Lib.hid fun X h => pieces_any X line aline cline (BT X h) HNT.out z1 l HWL.out al cl (IT X h) z2
  have CR : Hid (∀ X, Below w1.heap.size w1 X → Calls Try.prog 10 #[.string (str line), .slice al l.length cl] X (GivesStrs X (pieces line l))) := Lib.hid fun X h => rpieces_any X line z1 l HWL.out al cl (IT X h) z2
  have CPL : Hid (∀ X, Below w1.heap.size w1 X → Calls Try.prog 12 #[.int .i64 n, .slice al l.length cl] X (GivesInts X (ints (places n.toNat l)))) := Lib.hid fun X h => places_any X n wn l HWL.out al cl (IT X h) z3
  have CRL : Hid (∀ X, Below w1.heap.size w1 X → Calls Try.prog 13 #[.int .i64 n, .slice al l.length cl] X (GivesInts X (ints (places n.toNat l)))) := Lib.hid fun X h => rplaces_any X n wn l HWL.out al cl (IT X h) z2
  have HPL : Hid ((pieces line l).length ≤ 101) := Lib.hid (by have := pieces_len line l; omega)
  have HIL : Hid ((ints (places n.toNat l)).length ≤ 1000000000) := Lib.hid (by rw [ints_len, places_len]; omega)
  have PZ : Hid (∀ xs : List TxV, xs.map TxV.text = pieces line l → ∀ x ∈ xs, x.text.length ≤ 1000000) := Lib.hid fun xs h x hx => by
    have h1 := pieces_join line l
    have h2 : x.text ∈ pieces line l := by rw [← h]; exact List.mem_map_of_mem hx
    have h3 := part_le h2
    rw [h1] at h3
    omega
  clear IT BT z1 z2 z3
  go_wp2_with fail
  refine wp_region_held_drew (S := fun w' => Below w1.drew.heap.size w1.drew w') (by kernel_rfl) (Below.refl _ _) (fun hH0 => ?_)
  have B0 := Lib.hid (below_drews HBB.out 1)
  change Hid (Below _ _ w1.drew) at B0
  generalize w1.drew = x0 at *
  refine held_take (i := 0) (d := 19) (oi := _) (v := ?_) rfl rfl (by kernel_rfl) (by kernel_rfl) (by kernel_rfl) (fun _ _ _ h => h) (Or.inl ⟨by rfl, ?_⟩) (by assumption) ?_
  rotate_left
  · (intro w hSw; clear hSw; go_simp; (try with_reducible rfl))
  simp only [Act.put, List.setIfInBounds_toArray, List.set_cons_zero, List.set_cons_succ]
  refine held_take (i := 1) (d := 20) (oi := _) (v := ?_) rfl rfl (by kernel_rfl) (by kernel_rfl) (by kernel_rfl) (fun _ _ _ h => h) (Or.inl ⟨by rfl, ?_⟩) (by assumption) ?_
  rotate_left
  · (intro w hSw; clear hSw; go_simp; (try with_reducible rfl))
  simp only [Act.put, List.setIfInBounds_toArray, List.set_cons_zero, List.set_cons_succ]
  refine held_take (i := 3) (d := 22) (oi := _) (v := ?_) rfl rfl (by kernel_rfl) (by kernel_rfl) (by kernel_rfl) (fun _ _ _ h => h) (Or.inl ⟨by rfl, ?_⟩) (by assumption) ?_
  rotate_left
  · (intro w hSw; clear hSw; go_simp; (try with_reducible rfl))
  simp only [Act.put, List.setIfInBounds_toArray, List.set_cons_zero, List.set_cons_succ]
  have VT := Lib.hid (fun (w' : World) (h : Below x0.heap.size x0 w') => VT0.out w' (B0.out.trans (h.mono B0.out.size)))
  refine held_take (i := 4) (d := 23) (oi := _) (v := ?_) rfl rfl (by kernel_rfl) (by kernel_rfl) (by kernel_rfl) (fun _ _ _ h => h) (Or.inl ⟨by rfl, ?_⟩) (by assumption) ?_
  rotate_left
  · (intro w hSw; have hcvw := VT.out w hSw; clear hSw; go_simp; (try with_reducible rfl))
  simp only [Act.put, List.setIfInBounds_toArray, List.set_cons_zero, List.set_cons_succ]
  refine held_take (i := 5) (d := 24) (oi := _) (v := ?_) rfl rfl (by kernel_rfl) (by kernel_rfl) (by kernel_rfl) (fun _ _ _ h => h) (Or.inl ⟨by rfl, ?_⟩) (by assumption) ?_
  rotate_left
  · (intro w hSw; clear hSw; go_simp; (try with_reducible rfl))
  simp only [Act.put, List.setIfInBounds_toArray, List.set_cons_zero, List.set_cons_succ]
  refine wpAnyH_ready (rs := [2]) (by kernel_rfl) (by simp) ?_
  refine AllReadyH.cons rfl (fun K hK => ?_) AllReadyH.nil
  go_simp
  go_wp2_with (go_at_call 9; (with_reducible refine (CP.out _ B0.out).mono ?_); rintro e x1 ⟨xs, ax, cx, rfl, hxs, htx, _, _, hb⟩)
  have hxn : xs.length = (pieces line l).length := by rw [← hxs, List.length_map]
  have hxz : ∀ x ∈ xs, x.text.length ≤ 1000000 := PZ.out xs hxs
  have HTX := Lib.hid (fun (w' : World) (h : Below x1.heap.size x1 w') => htx.keep h)
  have HXS := Lib.hid hxs
  have HXN := Lib.hid hxn
  have HXZ := Lib.hid hxz
  rw [hxn]
  clear hxs htx hxn hxz
  refine hK.out _ _ hb (fun _ => ?_)
  have B1 := Lib.hid (B0.out.trans (hb.mono B0.out.size))
  refine wpAnyH_more (S' := fun w' => Below x1.heap.size x1 w') (fun w' h => hb.trans (h.mono hb.size)) _ _ _ _ ?_
  have hH1 : Below x1.heap.size x1 x1 := Below.refl _ _
  clear hK K hH0 hb B0
  refine wpAnyH_ready (rs := [6]) (by kernel_rfl) (by simp) ?_
  refine AllReadyH.cons rfl (fun K hK => ?_) AllReadyH.nil
  go_simp
  go_wp2_with (go_at_call 10; (with_reducible refine (CR.out _ B1.out).mono ?_); rintro e x2 ⟨ay, cy, rfl, hty, hb⟩)
  have HTX := Lib.hid (fun (w' : World) (h : Below x2.heap.size x2 w') => HTX.out w' (hb.trans (h.mono hb.size)))
  refine hK.out _ _ hb (fun _ => ?_)
  have B2 := Lib.hid (B1.out.trans (hb.mono B1.out.size))
  refine wpAnyH_more (S' := fun w' => Below x2.heap.size x2 w') (fun w' h => hb.trans (h.mono hb.size)) _ _ _ _ ?_
  have hH2 : Below x2.heap.size x2 x2 := Below.refl _ _
  clear hK K hH1 hb B1
  have CS : Hid (Calls Try.prog 8 #[.slice ax (pieces line l).length cx, .slice ay (pieces line l).length cy] x2 fun e w' => e = .returned (.bool true) ∧ Below x2.heap.size x2 w') := Lib.hid (by have h2 := same_any x2 xs ax cx (HTX.out x2 (Below.refl _ _)) ay cy (by rw [HXS.out]; exact hty) (by have := HXN.out; have := HPL.out; omega) HXZ.out; rwa [HXN.out] at h2)
  clear hty HTX
  refine wpAnyH_ready (rs := [7]) (by kernel_rfl) (by simp) ?_
  refine AllReadyH.cons rfl (fun K hK => ?_) AllReadyH.nil
  go_simp
  go_wp2_with (go_at_call 8; (with_reducible refine (CS.out).mono ?_); rintro e x3 ⟨rfl, hb⟩)
  refine hK.out _ _ hb (fun _ => ?_)
  have B3 := Lib.hid (B2.out.trans (hb.mono B2.out.size))
  refine wpAnyH_more (S' := fun w' => Below x3.heap.size x3 w') (fun w' h => hb.trans (h.mono hb.size)) _ _ _ _ ?_
  have hH3 : Below x3.heap.size x3 x3 := Below.refl _ _
  clear hK K hH2 hb B2
  clear CS
  refine held_take (i := 8) (d := 27) (oi := _) (v := ?_) rfl rfl (by kernel_rfl) (by kernel_rfl) (by kernel_rfl) (fun _ _ _ h => h) (Or.inl ⟨by rfl, ?_⟩) (by assumption) ?_
  rotate_left
  · (intro w hSw; clear hSw; go_simp; (try with_reducible rfl))
  simp only [Act.put, List.setIfInBounds_toArray, List.set_cons_zero, List.set_cons_succ]
  refine held_take (i := 9) (d := 28) (oi := _) (v := ?_) rfl rfl (by kernel_rfl) (by kernel_rfl) (by kernel_rfl) (fun _ _ _ h => h) (Or.inl ⟨by rfl, ?_⟩) (by assumption) ?_
  rotate_left
  · (intro w hSw; clear hSw; go_simp; (try with_reducible rfl))
  simp only [Act.put, List.setIfInBounds_toArray, List.set_cons_zero, List.set_cons_succ]
  refine held_take (i := 10) (d := 29) (oi := _) (v := ?_) rfl rfl (by kernel_rfl) (by kernel_rfl) (by kernel_rfl) (fun _ _ _ h => h) (Or.inl ⟨by rfl, ?_⟩) (by assumption) ?_
  rotate_left
  · (intro w hSw; clear hSw; go_simp; (try with_reducible rfl))
  simp only [Act.put, List.setIfInBounds_toArray, List.set_cons_zero, List.set_cons_succ]
  refine held_take (i := 12) (d := 31) (oi := _) (v := ?_) rfl rfl (by kernel_rfl) (by kernel_rfl) (by kernel_rfl) (fun _ _ _ h => h) (Or.inl ⟨by rfl, ?_⟩) (by assumption) ?_
  rotate_left
  · (intro w hSw; clear hSw; go_simp; (try with_reducible rfl))
  simp only [Act.put, List.setIfInBounds_toArray, List.set_cons_zero, List.set_cons_succ]
  refine held_take (i := 13) (d := 32) (oi := _) (v := ?_) rfl rfl (by kernel_rfl) (by kernel_rfl) (by kernel_rfl) (fun _ _ _ h => h) (Or.inl ⟨by rfl, ?_⟩) (by assumption) ?_
  rotate_left
  · (intro w hSw; clear hSw; go_simp; (try with_reducible rfl))
  simp only [Act.put, List.setIfInBounds_toArray, List.set_cons_zero, List.set_cons_succ]
  refine wpAnyH_ready (rs := [11]) (by kernel_rfl) (by simp) ?_
  refine AllReadyH.cons rfl (fun K hK => ?_) AllReadyH.nil
  go_simp
  go_wp2_with (go_at_call 12; (with_reducible refine (CPL.out _ B3.out).mono ?_); rintro e x4 ⟨aIA, cIA, rfl, hix, _, hb⟩)
  have IA := Lib.hid (fun (w' : World) (h : Below x4.heap.size x4 w') => (hix.keep h).more h.size)
  clear hix
  refine hK.out _ _ hb (fun _ => ?_)
  have B4 := Lib.hid (B3.out.trans (hb.mono B3.out.size))
  refine wpAnyH_more (S' := fun w' => Below x4.heap.size x4 w') (fun w' h => hb.trans (h.mono hb.size)) _ _ _ _ ?_
  have hH4 : Below x4.heap.size x4 x4 := Below.refl _ _
  clear hK K hH3 hb B3
  refine wpAnyH_ready (rs := [14]) (by kernel_rfl) (by simp) ?_
  refine AllReadyH.cons rfl (fun K hK => ?_) AllReadyH.nil
  go_simp
  go_wp2_with (go_at_call 13; (with_reducible refine (CRL.out _ B4.out).mono ?_); rintro e x5 ⟨aIB, cIB, rfl, hix, _, hb⟩)
  have IB := Lib.hid (fun (w' : World) (h : Below x5.heap.size x5 w') => (hix.keep h).more h.size)
  clear hix
  have IA := Lib.hid (fun (w' : World) (h : Below x5.heap.size x5 w') => IA.out w' (hb.trans (h.mono hb.size)))
  refine hK.out _ _ hb (fun _ => ?_)
  have B5 := Lib.hid (B4.out.trans (hb.mono B4.out.size))
  refine wpAnyH_more (S' := fun w' => Below x5.heap.size x5 w') (fun w' h => hb.trans (h.mono hb.size)) _ _ _ _ ?_
  have hH5 : Below x5.heap.size x5 x5 := Below.refl _ _
  clear hK K hH4 hb B4
  have CE : Hid (Calls Try.prog 11 #[.slice aIA (ints (places n.toNat l)).length cIA, .slice aIB (ints (places n.toNat l)).length cIB] x5 fun e w' => e = .returned (.bool true) ∧ ∃ q, w' = x5.drewN q) := Lib.hid (by have h2 := isame_any x5 _ _ aIA aIB cIA cIB _ (IA.out x5 (Below.refl _ _)) (IB.out x5 (Below.refl _ _)) HIL.out HIL.out; rwa [decide_eq_true rfl] at h2)
  refine wpAnyH_ready (rs := [15]) (by kernel_rfl) (by simp) ?_
  refine AllReadyH.cons rfl (fun K hK => ?_) AllReadyH.nil
  go_simp
  go_wp2_with (go_at_call 11; (with_reducible refine (CE.out).mono ?_); rintro e x' ⟨rfl, q, rfl⟩)
  have hb : Below x5.heap.size x5 (x5.drewN q) := below_drews (Below.refl _ _) q
  generalize x5.drewN q = x6 at *
  refine hK.out _ _ hb (fun _ => ?_)
  have B6 := Lib.hid (B5.out.trans (hb.mono B5.out.size))
  refine wpAnyH_more (S' := fun w' => Below x6.heap.size x6 w') (fun w' h => hb.trans (h.mono hb.size)) _ _ _ _ ?_
  have hH6 : Below x6.heap.size x6 x6 := Below.refl _ _
  clear hK K hH5 hb B5
  refine held_take (i := 16) (d := 35) (oi := _) (v := ?_) rfl rfl (by kernel_rfl) (by kernel_rfl) (by kernel_rfl) (fun _ _ _ h => h) (Or.inl ⟨by rfl, ?_⟩) (by assumption) ?_
  rotate_left
  · (intro w hSw; clear hSw; go_simp; (try with_reducible rfl))
  simp only [Act.put, List.setIfInBounds_toArray, List.set_cons_zero, List.set_cons_succ]
  refine held_take (i := 17) (d := 6) (oi := _) (v := ?_) rfl rfl (by kernel_rfl) (by kernel_rfl) (by kernel_rfl) (fun _ _ _ h => h) (Or.inl ⟨by rfl, ?_⟩) (by assumption) ?_
  rotate_left
  · (intro w hSw; clear hSw; go_simp; (try with_reducible rfl))
  simp only [Act.put, List.setIfInBounds_toArray, List.set_cons_zero, List.set_cons_succ]
  refine wpAnyH_done (by kernel_rfl) ?_ _
  go_wp2_with fail
  go_ret
  exact ⟨rfl, HB1.out.trans (B6.out.mono HB1.out.size)⟩
end Go.Proofs.Ytlpjghhmacobdaa.cutsPieces
