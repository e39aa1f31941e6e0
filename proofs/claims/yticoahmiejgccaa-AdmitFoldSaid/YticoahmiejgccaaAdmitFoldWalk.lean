/- AdmitFold, walked. -/
import Derived.Test.YticoahmiejgccaaAdmC
import Derived.Test.YticoahmiejgccaaGQ
namespace Go.Proofs.Yticoahmiejgccaa.admitFold
open Go.RowKit Go.Proofs.Yticoahmiejgccaa.Prs Adm Reg
set_option maxRecDepth 100000
theorem wd_low (c : UInt8) : isWd (Pat.low c) = isWd c := by
  have h : ∀ n : Fin 256, isWd (Pat.low (UInt8.ofNat n.val)) = isWd (UInt8.ofNat n.val) := by decide +kernel
  have h1 := h ⟨c.toNat, c.toNat_lt⟩
  have e : UInt8.ofNat c.toNat = c := by apply UInt8.toNat_inj.1; simp
  rwa [e] at h1
theorem filt_low (line : List UInt8) (l : List Pr) (w x : Bool) : filt isWd (Pat.lows line) l w x = filt isWd line l w x := by
  unfold filt
  congr 1
  funext p
  exact may_fold wd_low line w x p
set_option maxHeartbeats 4000000 in
theorem walk (W : World) (line : List UInt8) (aline : Option Addr) (cline : Nat) (_hmline : line.length ≤ maxLen) (hbline : Bs W W.heap.size aline line) (l : List Pr) (al : Option Addr) (cl : Nat) (hpl : Ps W W.heap.size al l) (w x : Bool) :
    Calls Try.prog 7 #[.slice aline line.length cline, .slice al l.length cl, .bool w, .bool x] W fun r w' => r = .returned (.bool true) ∧ Below W.heap.size W w' := by
  have HAW := Lib.hid (awake_any W)
  have HT := Lib.hid hbline
  have HL := Lib.hid hpl
  clear hbline hpl
  go_enter Try.func7, Try.ntmps7
  by_cases hA : line.length ≤ 300
  rotate_left
  · have hAi : decide ((300 : Int) < (line.length : Int)) = true := decide_eq_true (by omega)
    go_wp2_with (go_at_call 8; (with_reducible refine HAW.out.mono ?_); rintro r w1 ⟨rfl, hb1⟩)
    go_ret
    exact ⟨rfl, hb1⟩
  have hAi : decide ((300 : Int) < (line.length : Int)) = false := decide_eq_false (by omega)
  by_cases hB : l.length ≤ 100
  rotate_left
  · have hBi : decide ((100 : Int) < (l.length : Int)) = true := decide_eq_true (by omega)
    go_wp2_with (go_at_call 8; (with_reducible refine HAW.out.mono ?_); rintro r w1 ⟨rfl, hb1⟩)
    go_ret
    exact ⟨rfl, hb1⟩
  have hBi : decide ((100 : Int) < (l.length : Int)) = false := decide_eq_false (by omega)
  go_wp2_with (go_at_call 8; (with_reducible refine HAW.out.mono ?_); rintro r w1 ⟨rfl, hb1⟩)
  have HB1 := Lib.hid hb1
  have hsz := hb1.size
  have hl9 : line.length ≤ 1000000000 := by omega
  have hl6 : l.length ≤ 1000000 := by omega
  have HBB : Hid (Below w1.heap.size w1 w1) := Lib.hid (Below.refl _ _)
  have BT : ∀ X, Below w1.heap.size w1 X → Bs X X.heap.size aline line := fun X h => (HT.out.keep (hb1.trans (h.mono hsz))).more (hb1.trans (h.mono hsz)).size
  have PT : Hid (∀ X, Below w1.heap.size w1 X → Ps X X.heap.size al l) := Lib.hid fun X h => HL.out.keeps (hb1.trans (h.mono hsz))
  have VT0 : Hid (∀ X, Below w1.heap.size w1 X → (convert 22 9 (.slice aline line.length cline)).run Try.prog X = .ok (.string (str line)) X) := Lib.hid fun X h => str_of_bs cline (BT X h)
  have CF1 : Hid (∀ X, Below w1.heap.size w1 X → Calls Try.prog 11 #[.slice aline line.length cline, .slice al l.length cl, .bool w, .bool x] X (Gives X (filt isWd line l w x))) := Lib.hid fun X h => filter_any line aline cline l al cl w x X hl9 hl6 (BT X h) (PT.out X h)
  have CB : Hid (∀ X, Below w1.heap.size w1 X → Calls Try.prog 20 #[.string (str line)] X fun e w' => e = .returned (.string (str (Pat.lows line))) ∧ Below X.heap.size X w') := Lib.hid fun X h => Pat.rbytes_any line X (by omega)
  have HFO := Lib.hid (filt_low line l w x)
  have HLL : Hid ((Pat.lows line).length = line.length) := Lib.hid (by simp [Pat.lows])
  have HFL : Hid ((filt isWd line l w x).length ≤ 1000000000) := Lib.hid (by have := filt_len isWd line l w x; omega)
  clear BT hb1
  refine wp_region_held_drew (S := fun w' => Below w1.drew.heap.size w1.drew w') (by kernel_rfl) (Below.refl _ _) (fun hH0 => ?_)
  have B0 := Lib.hid (below_drews HBB.out 1)
  change Hid (Below _ _ w1.drew) at B0
  generalize w1.drew = x0 at *
  refine held_take (i := 0) (d := 21) (oi := _) (v := ?_) rfl rfl (by kernel_rfl) (by kernel_rfl) (by kernel_rfl) (fun _ _ _ h => h) (Or.inl ⟨by rfl, ?_⟩) (by assumption) ?_
  rotate_left
  · (intro w hSw; clear hSw; go_simp; (try with_reducible rfl))
  simp only [Act.put, List.setIfInBounds_toArray, List.set_cons_zero, List.set_cons_succ]
  refine held_take (i := 1) (d := 22) (oi := _) (v := ?_) rfl rfl (by kernel_rfl) (by kernel_rfl) (by kernel_rfl) (fun _ _ _ h => h) (Or.inl ⟨by rfl, ?_⟩) (by assumption) ?_
  rotate_left
  · (intro w hSw; clear hSw; go_simp; (try with_reducible rfl))
  simp only [Act.put, List.setIfInBounds_toArray, List.set_cons_zero, List.set_cons_succ]
  refine held_take (i := 2) (d := 23) (oi := _) (v := ?_) rfl rfl (by kernel_rfl) (by kernel_rfl) (by kernel_rfl) (fun _ _ _ h => h) (Or.inl ⟨by rfl, ?_⟩) (by assumption) ?_
  rotate_left
  · (intro w hSw; clear hSw; go_simp; (try with_reducible rfl))
  simp only [Act.put, List.setIfInBounds_toArray, List.set_cons_zero, List.set_cons_succ]
  refine held_take (i := 3) (d := 24) (oi := _) (v := ?_) rfl rfl (by kernel_rfl) (by kernel_rfl) (by kernel_rfl) (fun _ _ _ h => h) (Or.inl ⟨by rfl, ?_⟩) (by assumption) ?_
  rotate_left
  · (intro w hSw; clear hSw; go_simp; (try with_reducible rfl))
  simp only [Act.put, List.setIfInBounds_toArray, List.set_cons_zero, List.set_cons_succ]
  refine held_take (i := 5) (d := 26) (oi := _) (v := ?_) rfl rfl (by kernel_rfl) (by kernel_rfl) (by kernel_rfl) (fun _ _ _ h => h) (Or.inl ⟨by rfl, ?_⟩) (by assumption) ?_
  rotate_left
  · (intro w hSw; clear hSw; go_simp; (try with_reducible rfl))
  simp only [Act.put, List.setIfInBounds_toArray, List.set_cons_zero, List.set_cons_succ]
  have VT := Lib.hid (fun (X : World) (h : Below x0.heap.size x0 X) => VT0.out X (B0.out.trans (h.mono B0.out.size)))
  refine held_take (i := 6) (d := 27) (oi := _) (v := ?_) rfl rfl (by kernel_rfl) (by kernel_rfl) (by kernel_rfl) (fun _ _ _ h => h) (Or.inl ⟨by rfl, ?_⟩) (by assumption) ?_
  rotate_left
  · (intro w hSw; have hcvw := VT.out w hSw; clear hSw; go_simp; (try with_reducible rfl))
  simp only [Act.put, List.setIfInBounds_toArray, List.set_cons_zero, List.set_cons_succ]
  refine held_take (i := 9) (d := 30) (oi := _) (v := ?_) rfl rfl (by kernel_rfl) (by kernel_rfl) (by kernel_rfl) (fun _ _ _ h => h) (Or.inl ⟨by rfl, ?_⟩) (by assumption) ?_
  rotate_left
  · (intro w hSw; clear hSw; go_simp; (try with_reducible rfl))
  simp only [Act.put, List.setIfInBounds_toArray, List.set_cons_zero, List.set_cons_succ]
  refine held_take (i := 10) (d := 31) (oi := _) (v := ?_) rfl rfl (by kernel_rfl) (by kernel_rfl) (by kernel_rfl) (fun _ _ _ h => h) (Or.inl ⟨by rfl, ?_⟩) (by assumption) ?_
  rotate_left
  · (intro w hSw; clear hSw; go_simp; (try with_reducible rfl))
  simp only [Act.put, List.setIfInBounds_toArray, List.set_cons_zero, List.set_cons_succ]
  refine held_take (i := 11) (d := 32) (oi := _) (v := ?_) rfl rfl (by kernel_rfl) (by kernel_rfl) (by kernel_rfl) (fun _ _ _ h => h) (Or.inl ⟨by rfl, ?_⟩) (by assumption) ?_
  rotate_left
  · (intro w hSw; clear hSw; go_simp; (try with_reducible rfl))
  simp only [Act.put, List.setIfInBounds_toArray, List.set_cons_zero, List.set_cons_succ]
  refine wpAnyH_ready (rs := [4]) (by kernel_rfl) (by simp) ?_
  refine AllReadyH.cons rfl (fun K hK => ?_) AllReadyH.nil
  go_simp
  go_wp2_with (go_at_call 11; (with_reducible refine (CF1.out _ B0.out).mono ?_); rintro e x1 ⟨a1, c1, rfl, _, _, hp1, hb⟩)
  have HP1 := Lib.hid (fun (X : World) (h : Below x1.heap.size x1 X) => hp1.keeps h)
  clear hp1
  refine hK.out _ _ hb (fun _ => ?_)
  have B1 := Lib.hid (B0.out.trans (hb.mono B0.out.size))
  refine wpAnyH_more (S' := fun w' => Below x1.heap.size x1 w') (fun w' h => hb.trans (h.mono hb.size)) _ _ _ _ ?_
  have hH1 : Below x1.heap.size x1 x1 := Below.refl _ _
  clear hK K hH0 hb B0
  refine wpAnyH_ready (rs := [7]) (by kernel_rfl) (by simp) ?_
  refine AllReadyH.cons rfl (fun K hK => ?_) AllReadyH.nil
  go_simp
  go_wp2_with (go_at_call 20; (with_reducible refine (CB.out _ B1.out).mono ?_); rintro e x2 ⟨rfl, hb⟩)
  have HP1 := Lib.hid (fun (w' : World) (h : Below x2.heap.size x2 w') => HP1.out w' (hb.trans (h.mono hb.size)))
  refine hK.out _ _ hb (fun _ => ?_)
  have B2 := Lib.hid (B1.out.trans (hb.mono B1.out.size))
  refine wpAnyH_more (S' := fun w' => Below x2.heap.size x2 w') (fun w' h => hb.trans (h.mono hb.size)) _ _ _ _ ?_
  have hH2 : Below x2.heap.size x2 x2 := Below.refl _ _
  clear hK K hH1 hb B1
  obtain ⟨cv8, x3, hcv8, htx8, hb⟩ := Pat.conv_text x2 (Pat.lows line)
  refine wpAnyH_ready (rs := [8]) (by kernel_rfl) (by simp) ?_
  refine AllReadyH.cons rfl (fun K hK => ?_) AllReadyH.nil
  go_simp
  have HT8 := Lib.hid (fun (X : World) (h : Below x3.heap.size x3 X) => (htx8.keep h).bs)
  clear hcv8 htx8
  have HP1 := Lib.hid (fun (w' : World) (h : Below x3.heap.size x3 w') => HP1.out w' (hb.trans (h.mono hb.size)))
  refine hK.out _ _ hb (fun _ => ?_)
  have B3 := Lib.hid (B2.out.trans (hb.mono B2.out.size))
  refine wpAnyH_more (S' := fun w' => Below x3.heap.size x3 w') (fun w' h => hb.trans (h.mono hb.size)) _ _ _ _ ?_
  have hH3 : Below x3.heap.size x3 x3 := Below.refl _ _
  clear hK K hH2 hb B2
  have CF2 : Hid (Calls Try.prog 11 #[.slice (some ⟨x2.heap.size, 0, none⟩) (Pat.lows line).length cv8, .slice al l.length cl, .bool w, .bool x] x3 (Gives x3 (filt isWd line l w x))) := Lib.hid (by have h2 := filter_any (Pat.lows line) _ cv8 l al cl w x x3 (by rw [HLL.out]; exact hl9) hl6 (HT8.out x3 (Below.refl _ _)) (PT.out x3 B3.out); rwa [HFO.out] at h2)
  refine wpAnyH_ready (rs := [12]) (by kernel_rfl) (by simp) ?_
  refine AllReadyH.cons rfl (fun K hK => ?_) AllReadyH.nil
  go_simp
  go_wp2_with (go_at_call 11; (with_reducible refine (CF2.out).mono ?_); rintro e x4 ⟨a2, c2, rfl, _, _, hp2, hb⟩)
  have HP1 := Lib.hid (fun (w' : World) (h : Below x4.heap.size x4 w') => HP1.out w' (hb.trans (h.mono hb.size)))
  have HP2 := Lib.hid hp2
  clear hp2 CF2
  refine hK.out _ _ hb (fun _ => ?_)
  have B4 := Lib.hid (B3.out.trans (hb.mono B3.out.size))
  refine wpAnyH_more (S' := fun w' => Below x4.heap.size x4 w') (fun w' h => hb.trans (h.mono hb.size)) _ _ _ _ ?_
  have hH4 : Below x4.heap.size x4 x4 := Below.refl _ _
  clear hK K hH3 hb B3
  have CS : Hid (Calls Try.prog 10 #[.slice a1 (filt isWd line l w x).length c1, .slice a2 (filt isWd line l w x).length c2] x4 fun e w' => e = .returned (.bool true) ∧ ∃ q, w' = x4.drewN q) := Lib.hid (by have h2 := same_any _ _ a1 a2 c1 c2 x4 HFL.out (HP1.out x4 (Below.refl _ _)) HP2.out; rwa [decide_eq_true rfl] at h2)
  refine wpAnyH_ready (rs := [13]) (by kernel_rfl) (by simp) ?_
  refine AllReadyH.cons rfl (fun K hK => ?_) AllReadyH.nil
  go_simp
  go_wp2_with (go_at_call 10; (with_reducible refine (CS.out).mono ?_); rintro e x' ⟨rfl, q, rfl⟩)
  have hb : Below x4.heap.size x4 (x4.drewN q) := below_drews (Below.refl _ _) q
  generalize x4.drewN q = x5 at *
  refine hK.out _ _ hb (fun _ => ?_)
  have B5 := Lib.hid (B4.out.trans (hb.mono B4.out.size))
  refine wpAnyH_more (S' := fun w' => Below x5.heap.size x5 w') (fun w' h => hb.trans (h.mono hb.size)) _ _ _ _ ?_
  have hH5 : Below x5.heap.size x5 x5 := Below.refl _ _
  clear hK K hH4 hb B4
  refine held_take (i := 14) (d := 8) (oi := _) (v := ?_) rfl rfl (by kernel_rfl) (by kernel_rfl) (by kernel_rfl) (fun _ _ _ h => h) (Or.inl ⟨by rfl, ?_⟩) (by assumption) ?_
  rotate_left
  · (intro w hSw; clear hSw; go_simp; (try with_reducible rfl))
  simp only [Act.put, List.setIfInBounds_toArray, List.set_cons_zero, List.set_cons_succ]
  refine wpAnyH_done (by kernel_rfl) ?_ _
  go_wp2_with fail
  go_ret
  exact ⟨rfl, HB1.out.trans (B5.out.mono HB1.out.size)⟩
end Go.Proofs.Yticoahmiejgccaa.admitFold
