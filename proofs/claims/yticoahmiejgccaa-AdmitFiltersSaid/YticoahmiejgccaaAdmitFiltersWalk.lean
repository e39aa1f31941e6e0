/- AdmitFilters, walked. -/
import Derived.Test.YticoahmiejgccaaAdmC
namespace Go.Proofs.Yticoahmiejgccaa.admitFilters
open Go.RowKit Go.Proofs.Yticoahmiejgccaa.Prs Adm Reg
set_option maxRecDepth 100000
set_option maxHeartbeats 4000000 in
theorem walk (W : World) (line : List UInt8) (aline : Option Addr) (cline : Nat) (_hmline : line.length ≤ maxLen) (hbline : Bs W W.heap.size aline line) (l : List Pr) (al : Option Addr) (cl : Nat) (hpl : Ps W W.heap.size al l) (w x : Bool) :
    Calls Try.prog 3 #[.slice aline line.length cline, .slice al l.length cl, .bool w, .bool x] W fun r w' => r = .returned (.bool true) ∧ Below W.heap.size W w' := by
  have HAW := Lib.hid (awake_any W)
  have HT := Lib.hid hbline
  have HL := Lib.hid hpl
  clear hbline hpl
  go_enter Try.func3, Try.ntmps3
  by_cases hA : line.length ≤ 300
  rotate_left
  · have hAi : decide ((300 : Int) < (line.length : Int)) = true := decide_eq_true (by omega)
    go_wp2_with (go_at_call 8; (with_reducible refine HAW.out.mono ?_); rintro r w1 ⟨rfl, hb1⟩)
    go_ret
    exact ⟨rfl, hb1⟩
  have hAi : decide ((300 : Int) < (line.length : Int)) = false := decide_eq_false (by omega)
  by_cases hB : l.length ≤ 100
  rotate_left
  · have hBi : decide ((100 : Int) < (l.length : Int)) = true := decide_eq_true (by omega)
    go_wp2_with (go_at_call 8; (with_reducible refine HAW.out.mono ?_); rintro r w1 ⟨rfl, hb1⟩)
    go_ret
    exact ⟨rfl, hb1⟩
  have hBi : decide ((100 : Int) < (l.length : Int)) = false := decide_eq_false (by omega)
  have hl9 : line.length ≤ 1000000000 := by omega
  have hl6 : l.length ≤ 1000000 := by omega
  go_wp2_with (go_at_call 8; (with_reducible refine HAW.out.mono ?_); rintro r w1 ⟨rfl, hb1⟩)
  have BT := Lib.hid (fun (X : World) (h : Below w1.heap.size w1 X) => (HT.out.keep (hb1.trans (h.mono hb1.size))).more (hb1.trans (h.mono hb1.size)).size)
  have PL := Lib.hid (fun (X : World) (h : Below w1.heap.size w1 X) => HL.out.keeps (hb1.trans (h.mono hb1.size)))
  have HB := Lib.hid (fun (X : World) (h : Below w1.heap.size w1 X) => hb1.trans (h.mono hb1.size))
  clear hb1
  have hcv : (convert 22 9 (.slice aline line.length cline)).run Try.prog w1 = .ok (.string (str line)) w1 := str_of_bs cline (BT.out w1 (Below.refl _ _))
  go_wp2_with fail
  rw [hcv]
  go_wp2_with fail
  refine (rfilter_any line l al cl w x w1 hl9 hl6 (PL.out w1 (Below.refl _ _))).mono ?_
  rintro e w2 ⟨aw, cw, rfl, hcw, hnw, hp, hb⟩
  have BT := Lib.hid (fun (X : World) (h : Below w2.heap.size w2 X) => BT.out X (hb.trans (h.mono hb.size)))
  have PL := Lib.hid (fun (X : World) (h : Below w2.heap.size w2 X) => PL.out X (hb.trans (h.mono hb.size)))
  have HB := Lib.hid (fun (X : World) (h : Below w2.heap.size w2 X) => HB.out X (hb.trans (h.mono hb.size)))
  clear hb
  have PW := Lib.hid (fun (X : World) (h : Below w2.heap.size w2 X) => hp.keeps h)
  clear hp hcv
  have HFL := Lib.hid (filt_len isWd line l w x)
  have HAN : Hid (∀ X, Below w2.heap.size w2 X → Calls Try.prog 12 #[.slice aline line.length cline, .slice al l.length cl, .bool w, .bool x] X fun e w' => e = .returned (.bool (decide (0 < (filt isWd line l w x).length))) ∧ Below X.heap.size X w') := Lib.hid fun X h => eqv (any_filt isWd line l w x) (any_any line aline cline l al cl w x X hl9 hl6 (BT.out X h) (PL.out X h))
  go_wp2_with (go_at_call 11; (with_reducible refine (filter_any line aline cline l al cl w x w2 hl9 hl6 (BT.out w2 (Below.refl _ _)) (PL.out w2 (Below.refl _ _))).mono ?_); rintro e w3 ⟨av, cv, rfl, hcv, hnv, hp, hb⟩)
  have BT := Lib.hid (fun (X : World) (h : Below w3.heap.size w3 X) => BT.out X (hb.trans (h.mono hb.size)))
  have PL := Lib.hid (fun (X : World) (h : Below w3.heap.size w3 X) => PL.out X (hb.trans (h.mono hb.size)))
  have HB := Lib.hid (fun (X : World) (h : Below w3.heap.size w3 X) => HB.out X (hb.trans (h.mono hb.size)))
  have PW := Lib.hid (fun (X : World) (h : Below w3.heap.size w3 X) => PW.out X (hb.trans (h.mono hb.size)))
  have HAN := Lib.hid (fun (X : World) (h : Below w3.heap.size w3 X) => HAN.out X (hb.trans (h.mono hb.size)))
  clear hb
  have PV := Lib.hid (fun (X : World) (h : Below w3.heap.size w3 X) => hp.keeps h)
  clear hp
  have CS : Hid (Calls Try.prog 10 #[.slice av (filt isWd line l w x).length cv, .slice aw (filt isWd line l w x).length cw] w3 fun e w' => e = .returned (.bool true) ∧ ∃ q, w' = w3.drewN q) := Lib.hid (by have h2 := same_any _ _ av aw cv cw w3 (by have := HFL.out; omega) (PV.out w3 (Below.refl _ _)) (PW.out w3 (Below.refl _ _)); rwa [decide_eq_true rfl] at h2)
  go_wp2_with (go_at_call 10; (with_reducible refine (CS.out).mono ?_); rintro e x' ⟨rfl, q, rfl⟩)
  have hb : Below w3.heap.size w3 (w3.drewN q) := below_drews (Below.refl _ _) q
  generalize w3.drewN q = w4 at *
  clear CS PV PW
  have BT := Lib.hid (fun (X : World) (h : Below w4.heap.size w4 X) => BT.out X (hb.trans (h.mono hb.size)))
  have PL := Lib.hid (fun (X : World) (h : Below w4.heap.size w4 X) => PL.out X (hb.trans (h.mono hb.size)))
  have HB := Lib.hid (fun (X : World) (h : Below w4.heap.size w4 X) => HB.out X (hb.trans (h.mono hb.size)))
  have HAN := Lib.hid (fun (X : World) (h : Below w4.heap.size w4 X) => HAN.out X (hb.trans (h.mono hb.size)))
  clear hb
  go_wp2_with (go_at_call 12; (with_reducible refine (HAN.out w4 (Below.refl _ _)).mono ?_); rintro e w5 ⟨rfl, hb⟩)
  have BT := Lib.hid (fun (X : World) (h : Below w5.heap.size w5 X) => BT.out X (hb.trans (h.mono hb.size)))
  have PL := Lib.hid (fun (X : World) (h : Below w5.heap.size w5 X) => PL.out X (hb.trans (h.mono hb.size)))
  have HB := Lib.hid (fun (X : World) (h : Below w5.heap.size w5 X) => HB.out X (hb.trans (h.mono hb.size)))
  have HAN := Lib.hid (fun (X : World) (h : Below w5.heap.size w5 X) => HAN.out X (hb.trans (h.mono hb.size)))
  clear hb HAN
  go_loopg [11] l.length (fun gf s11 wr => ∃ k : Nat, k + gf = l.length ∧ s11 = .int .i64 k ∧ Below w5.heap.size w5 wr)
  case atStart => exact ⟨0, by omega, rfl, Below.refl _ _⟩
  case round =>
    obtain ⟨k, hk, rfl, hbel⟩ := hrel
    cases gk with
    | zero =>
      obtain rfl : k = l.length := by omega
      have hni : ¬ ((l.length : Int) < (l.length : Int)) := by omega
      go_wp2
      go_ret
      exact ⟨rfl, HB.out _ hbel⟩
    | succ gf =>
      have hlt : k < l.length := by omega
      have hli : (k : Int) < (l.length : Int) := by omega
      obtain ⟨o1, o2, rfl, hbl, hc⟩ := PL.out w5 (Below.refl _ _) (by omega)
      have HCC : Hid (∀ X, Below w5.heap.size w5 X → X.cell? ⟨o1, o2 + k * 2, none⟩ = some (.int .i64 l[k].s) ∧ X.cell? ⟨o1, o2 + k * 2 + 1, none⟩ = some (.int .i64 l[k].e)) := Lib.hid fun X h => ⟨(h.cell (p := ⟨o1, o2 + k * 2, none⟩) hbl).trans (hc k hlt).1, (h.cell (p := ⟨o1, o2 + k * 2 + 1, none⟩) hbl).trans (hc k hlt).2⟩
      clear hc
      have VT : Hid (∀ X, Below w5.heap.size w5 X → (convert 22 9 (.slice aline line.length cline)).run Try.prog X = .ok (.string (str line)) X) := Lib.hid fun X h => str_of_bs cline (BT.out X h)
      obtain ⟨p, hp⟩ : ∃ p, l[k] = p := ⟨_, rfl⟩
      rw [hp] at HCC
      obtain ⟨f1, hf1⟩ : ∃ f1, free isWd line p = f1 := ⟨_, rfl⟩
      obtain ⟨m1, hm1⟩ : ∃ m1, may isWd line w x p = m1 := ⟨_, rfl⟩
      have C1 : Hid (∀ X, Below w5.heap.size w5 X → Calls Try.prog 13 #[.slice aline line.length cline, pv p] X fun e w' => e = .returned (.bool f1) ∧ Below X.heap.size X w') := Lib.hid fun X h => eqv hf1 (free_any line aline cline p X hl9 (BT.out X h))
      have C2 : Hid (∀ X, Below w5.heap.size w5 X → Calls Try.prog 14 #[.string (str line), pv p] X fun e w' => e = .returned (.bool f1) ∧ Below X.heap.size X w') := Lib.hid fun X h => eqv hf1 (rfree_any line p X hl9)
      have C3 : Hid (∀ X, Below w5.heap.size w5 X → Calls Try.prog 15 #[.slice aline line.length cline, pv p, .bool w, .bool x] X fun e w' => e = .returned (.bool m1) ∧ Below X.heap.size X w') := Lib.hid fun X h => eqv hm1 (may_any line aline cline p w x X hl9 (BT.out X h))
      have C4 : Hid (∀ X, Below w5.heap.size w5 X → Calls Try.prog 16 #[.string (str line), pv p, .bool w, .bool x] X fun e w' => e = .returned (.bool m1) ∧ Below X.heap.size X w') := Lib.hid fun X h => eqv hm1 (rmay_any line p w x X hl9)
      clear hp hf1 hm1
      have HBR := Lib.hid hbel
      go_wp2_with fail
      refine wp_region_held_drew (S := fun w' => Below wr.drew.heap.size wr.drew w') (by kernel_rfl) (Below.refl _ _) (fun hH0 => ?_)
      have B0 := Lib.hid (below_drews HBR.out 1)
      change Hid (Below _ _ wr.drew) at B0
      generalize wr.drew = x0 at *
      refine held_take (i := 0) (d := 54) (oi := _) (v := ?_) rfl rfl (by kernel_rfl) (by kernel_rfl) (by kernel_rfl) (fun _ _ _ h => h) (Or.inl ⟨by rfl, ?_⟩) (by assumption) ?_
      rotate_left
      · (intro w hSw; clear hSw; go_simp; (try with_reducible rfl))
      simp only [Act.put, List.setIfInBounds_toArray, List.set_cons_zero, List.set_cons_succ]
      refine held_take (i := 1) (d := 55) (oi := _) (v := ?_) rfl rfl (by kernel_rfl) (by kernel_rfl) (by kernel_rfl) (fun _ _ _ h => h) (Or.inl ⟨by rfl, ?_⟩) (by assumption) ?_
      rotate_left
      · (intro w hSw; clear hSw; go_simp; (try with_reducible rfl))
      simp only [Act.put, List.setIfInBounds_toArray, List.set_cons_zero, List.set_cons_succ]
      refine held_take (i := 2) (d := 56) (oi := _) (v := ?_) rfl rfl (by kernel_rfl) (by kernel_rfl) (by kernel_rfl) (fun _ _ _ h => h) (Or.inl ⟨by rfl, ?_⟩) (by assumption) ?_
      rotate_left
      · (intro w hSw; clear hSw; go_simp; (try with_reducible rfl))
      simp only [Act.put, List.setIfInBounds_toArray, List.set_cons_zero, List.set_cons_succ]
      refine held_take (i := 3) (d := 57) (oi := _) (v := ?_) rfl rfl (by kernel_rfl) (by kernel_rfl) (by kernel_rfl) (fun _ _ _ h => h) (Or.inl ⟨by rfl, ?_⟩) (by assumption) ?_
      rotate_left
      · (intro w hSw; clear hSw; go_simp; (try with_reducible rfl))
      simp only [Act.put, List.setIfInBounds_toArray, List.set_cons_zero, List.set_cons_succ]
      refine held_take (i := 4) (d := 58) (oi := _) (v := ?_) rfl rfl (by kernel_rfl) (by kernel_rfl) (by kernel_rfl) (fun _ _ _ h => h) (Or.inl ⟨by rfl, ?_⟩) (by assumption) ?_
      rotate_left
      · (intro w hSw; obtain ⟨hl0, hl1⟩ := HCC.out w (B0.out.trans (hSw.mono B0.out.size)); clear hSw; go_simp; (try with_reducible rfl))
      simp only [Act.put, List.setIfInBounds_toArray, List.set_cons_zero, List.set_cons_succ]
      refine held_take (i := 6) (d := 60) (oi := _) (v := ?_) rfl rfl (by kernel_rfl) (by kernel_rfl) (by kernel_rfl) (fun _ _ _ h => h) (Or.inl ⟨by rfl, ?_⟩) (by assumption) ?_
      rotate_left
      · (intro w hSw; clear hSw; go_simp; (try with_reducible rfl))
      simp only [Act.put, List.setIfInBounds_toArray, List.set_cons_zero, List.set_cons_succ]
      refine held_take (i := 7) (d := 61) (oi := _) (v := ?_) rfl rfl (by kernel_rfl) (by kernel_rfl) (by kernel_rfl) (fun _ _ _ h => h) (Or.inl ⟨by rfl, ?_⟩) (by assumption) ?_
      rotate_left
      · (intro w hSw; have hcvw := VT.out w (B0.out.trans (hSw.mono B0.out.size)); clear hSw; go_simp; (try with_reducible rfl))
      simp only [Act.put, List.setIfInBounds_toArray, List.set_cons_zero, List.set_cons_succ]
      refine held_take (i := 8) (d := 62) (oi := _) (v := ?_) rfl rfl (by kernel_rfl) (by kernel_rfl) (by kernel_rfl) (fun _ _ _ h => h) (Or.inl ⟨by rfl, ?_⟩) (by assumption) ?_
      rotate_left
      · (intro w hSw; clear hSw; go_simp; (try with_reducible rfl))
      simp only [Act.put, List.setIfInBounds_toArray, List.set_cons_zero, List.set_cons_succ]
      refine held_take (i := 9) (d := 63) (oi := _) (v := ?_) rfl rfl (by kernel_rfl) (by kernel_rfl) (by kernel_rfl) (fun _ _ _ h => h) (Or.inl ⟨by rfl, ?_⟩) (by assumption) ?_
      rotate_left
      · (intro w hSw; clear hSw; go_simp; (try with_reducible rfl))
      simp only [Act.put, List.setIfInBounds_toArray, List.set_cons_zero, List.set_cons_succ]
      refine held_take (i := 10) (d := 64) (oi := _) (v := ?_) rfl rfl (by kernel_rfl) (by kernel_rfl) (by kernel_rfl) (fun _ _ _ h => h) (Or.inl ⟨by rfl, ?_⟩) (by assumption) ?_
      rotate_left
      · (intro w hSw; clear hSw; go_simp; (try with_reducible rfl))
      simp only [Act.put, List.setIfInBounds_toArray, List.set_cons_zero, List.set_cons_succ]
      refine held_take (i := 11) (d := 65) (oi := _) (v := ?_) rfl rfl (by kernel_rfl) (by kernel_rfl) (by kernel_rfl) (fun _ _ _ h => h) (Or.inl ⟨by rfl, ?_⟩) (by assumption) ?_
      rotate_left
      · (intro w hSw; obtain ⟨hl0, hl1⟩ := HCC.out w (B0.out.trans (hSw.mono B0.out.size)); clear hSw; go_simp; (try with_reducible rfl))
      simp only [Act.put, List.setIfInBounds_toArray, List.set_cons_zero, List.set_cons_succ]
      refine wpAnyH_ready (rs := [5]) (by kernel_rfl) (by simp) ?_
      refine AllReadyH.cons rfl (fun K hK => ?_) AllReadyH.nil
      go_simp
      go_wp2_with (go_at_call 13; (with_reducible refine (C1.out _ B0.out).mono ?_); rintro e x1 ⟨rfl, hb⟩)
      refine hK.out _ _ hb (fun _ => ?_)
      have B1 := Lib.hid (B0.out.trans (hb.mono B0.out.size))
      refine wpAnyH_more (S' := fun w' => Below x1.heap.size x1 w') (fun w' h => hb.trans (h.mono hb.size)) _ _ _ _ ?_
      have hH1 : Below x1.heap.size x1 x1 := Below.refl _ _
      clear hK K hH0 hb B0
      refine wpAnyH_ready (rs := [12]) (by kernel_rfl) (by simp) ?_
      refine AllReadyH.cons rfl (fun K hK => ?_) AllReadyH.nil
      go_simp
      go_wp2_with (go_at_call 14; (with_reducible refine (C2.out _ B1.out).mono ?_); rintro e x2 ⟨rfl, hb⟩)
      refine hK.out _ _ hb (fun _ => ?_)
      have B2 := Lib.hid (B1.out.trans (hb.mono B1.out.size))
      refine wpAnyH_more (S' := fun w' => Below x2.heap.size x2 w') (fun w' h => hb.trans (h.mono hb.size)) _ _ _ _ ?_
      have hH2 : Below x2.heap.size x2 x2 := Below.refl _ _
      clear hK K hH1 hb B1
      refine held_take (i := 13) (d := 67) (oi := _) (v := ?_) rfl rfl (by kernel_rfl) (by kernel_rfl) (by kernel_rfl) (fun _ _ _ h => h) (Or.inl ⟨by rfl, ?_⟩) (by assumption) ?_
      rotate_left
      · (intro w hSw; clear hSw; go_simp; (try with_reducible rfl))
      simp only [Act.put, List.setIfInBounds_toArray, List.set_cons_zero, List.set_cons_succ]
      refine held_take (i := 14) (d := 68) (oi := _) (v := ?_) rfl rfl (by kernel_rfl) (by kernel_rfl) (by kernel_rfl) (fun _ _ _ h => h) (Or.inl ⟨by rfl, ?_⟩) (by assumption) ?_
      rotate_left
      · (intro w hSw; clear hSw; go_simp; (try with_reducible rfl))
      simp only [Act.put, List.setIfInBounds_toArray, List.set_cons_zero, List.set_cons_succ]
      refine held_take (i := 15) (d := 69) (oi := _) (v := ?_) rfl rfl (by kernel_rfl) (by kernel_rfl) (by kernel_rfl) (fun _ _ _ h => h) (Or.inl ⟨by rfl, ?_⟩) (by assumption) ?_
      rotate_left
      · (intro w hSw; clear hSw; go_simp; (try with_reducible rfl))
      simp only [Act.put, List.setIfInBounds_toArray, List.set_cons_zero, List.set_cons_succ]
      refine held_take (i := 16) (d := 70) (oi := _) (v := ?_) rfl rfl (by kernel_rfl) (by kernel_rfl) (by kernel_rfl) (fun _ _ _ h => h) (Or.inl ⟨by rfl, ?_⟩) (by assumption) ?_
      rotate_left
      · (intro w hSw; clear hSw; go_simp; (try with_reducible rfl))
      simp only [Act.put, List.setIfInBounds_toArray, List.set_cons_zero, List.set_cons_succ]
      refine held_take (i := 17) (d := 71) (oi := _) (v := ?_) rfl rfl (by kernel_rfl) (by kernel_rfl) (by kernel_rfl) (fun _ _ _ h => h) (Or.inl ⟨by rfl, ?_⟩) (by assumption) ?_
      rotate_left
      · (intro w hSw; clear hSw; go_simp; (try with_reducible rfl))
      simp only [Act.put, List.setIfInBounds_toArray, List.set_cons_zero, List.set_cons_succ]
      refine held_take (i := 18) (d := 72) (oi := _) (v := ?_) rfl rfl (by kernel_rfl) (by kernel_rfl) (by kernel_rfl) (fun _ _ _ h => h) (Or.inl ⟨by rfl, ?_⟩) (by assumption) ?_
      rotate_left
      · (intro w hSw; clear hSw; go_simp; (try with_reducible rfl))
      simp only [Act.put, List.setIfInBounds_toArray, List.set_cons_zero, List.set_cons_succ]
      refine held_take (i := 19) (d := 73) (oi := _) (v := ?_) rfl rfl (by kernel_rfl) (by kernel_rfl) (by kernel_rfl) (fun _ _ _ h => h) (Or.inl ⟨by rfl, ?_⟩) (by assumption) ?_
      rotate_left
      · (intro w hSw; obtain ⟨hl0, hl1⟩ := HCC.out w (B2.out.trans (hSw.mono B2.out.size)); clear hSw; go_simp; (try with_reducible rfl))
      simp only [Act.put, List.setIfInBounds_toArray, List.set_cons_zero, List.set_cons_succ]
      refine held_take (i := 20) (d := 74) (oi := _) (v := ?_) rfl rfl (by kernel_rfl) (by kernel_rfl) (by kernel_rfl) (fun _ _ _ h => h) (Or.inl ⟨by rfl, ?_⟩) (by assumption) ?_
      rotate_left
      · (intro w hSw; clear hSw; go_simp; (try with_reducible rfl))
      simp only [Act.put, List.setIfInBounds_toArray, List.set_cons_zero, List.set_cons_succ]
      refine held_take (i := 21) (d := 75) (oi := _) (v := ?_) rfl rfl (by kernel_rfl) (by kernel_rfl) (by kernel_rfl) (fun _ _ _ h => h) (Or.inl ⟨by rfl, ?_⟩) (by assumption) ?_
      rotate_left
      · (intro w hSw; clear hSw; go_simp; (try with_reducible rfl))
      simp only [Act.put, List.setIfInBounds_toArray, List.set_cons_zero, List.set_cons_succ]
      refine held_take (i := 23) (d := 77) (oi := _) (v := ?_) rfl rfl (by kernel_rfl) (by kernel_rfl) (by kernel_rfl) (fun _ _ _ h => h) (Or.inl ⟨by rfl, ?_⟩) (by assumption) ?_
      rotate_left
      · (intro w hSw; clear hSw; go_simp; (try with_reducible rfl))
      simp only [Act.put, List.setIfInBounds_toArray, List.set_cons_zero, List.set_cons_succ]
      refine held_take (i := 24) (d := 78) (oi := _) (v := ?_) rfl rfl (by kernel_rfl) (by kernel_rfl) (by kernel_rfl) (fun _ _ _ h => h) (Or.inl ⟨by rfl, ?_⟩) (by assumption) ?_
      rotate_left
      · (intro w hSw; have hcvw := VT.out w (B2.out.trans (hSw.mono B2.out.size)); clear hSw; go_simp; (try with_reducible rfl))
      simp only [Act.put, List.setIfInBounds_toArray, List.set_cons_zero, List.set_cons_succ]
      refine held_take (i := 25) (d := 79) (oi := _) (v := ?_) rfl rfl (by kernel_rfl) (by kernel_rfl) (by kernel_rfl) (fun _ _ _ h => h) (Or.inl ⟨by rfl, ?_⟩) (by assumption) ?_
      rotate_left
      · (intro w hSw; clear hSw; go_simp; (try with_reducible rfl))
      simp only [Act.put, List.setIfInBounds_toArray, List.set_cons_zero, List.set_cons_succ]
      refine held_take (i := 26) (d := 80) (oi := _) (v := ?_) rfl rfl (by kernel_rfl) (by kernel_rfl) (by kernel_rfl) (fun _ _ _ h => h) (Or.inl ⟨by rfl, ?_⟩) (by assumption) ?_
      rotate_left
      · (intro w hSw; clear hSw; go_simp; (try with_reducible rfl))
      simp only [Act.put, List.setIfInBounds_toArray, List.set_cons_zero, List.set_cons_succ]
      refine held_take (i := 27) (d := 81) (oi := _) (v := ?_) rfl rfl (by kernel_rfl) (by kernel_rfl) (by kernel_rfl) (fun _ _ _ h => h) (Or.inl ⟨by rfl, ?_⟩) (by assumption) ?_
      rotate_left
      · (intro w hSw; clear hSw; go_simp; (try with_reducible rfl))
      simp only [Act.put, List.setIfInBounds_toArray, List.set_cons_zero, List.set_cons_succ]
      refine held_take (i := 28) (d := 82) (oi := _) (v := ?_) rfl rfl (by kernel_rfl) (by kernel_rfl) (by kernel_rfl) (fun _ _ _ h => h) (Or.inl ⟨by rfl, ?_⟩) (by assumption) ?_
      rotate_left
      · (intro w hSw; obtain ⟨hl0, hl1⟩ := HCC.out w (B2.out.trans (hSw.mono B2.out.size)); clear hSw; go_simp; (try with_reducible rfl))
      simp only [Act.put, List.setIfInBounds_toArray, List.set_cons_zero, List.set_cons_succ]
      refine held_take (i := 29) (d := 83) (oi := _) (v := ?_) rfl rfl (by kernel_rfl) (by kernel_rfl) (by kernel_rfl) (fun _ _ _ h => h) (Or.inl ⟨by rfl, ?_⟩) (by assumption) ?_
      rotate_left
      · (intro w hSw; clear hSw; go_simp; (try with_reducible rfl))
      simp only [Act.put, List.setIfInBounds_toArray, List.set_cons_zero, List.set_cons_succ]
      refine held_take (i := 30) (d := 84) (oi := _) (v := ?_) rfl rfl (by kernel_rfl) (by kernel_rfl) (by kernel_rfl) (fun _ _ _ h => h) (Or.inl ⟨by rfl, ?_⟩) (by assumption) ?_
      rotate_left
      · (intro w hSw; clear hSw; go_simp; (try with_reducible rfl))
      simp only [Act.put, List.setIfInBounds_toArray, List.set_cons_zero, List.set_cons_succ]
      refine wpAnyH_ready (rs := [22]) (by kernel_rfl) (by simp) ?_
      refine AllReadyH.cons rfl (fun K hK => ?_) AllReadyH.nil
      go_simp
      go_wp2_with (go_at_call 15; (with_reducible refine (C3.out _ B2.out).mono ?_); rintro e x3 ⟨rfl, hb⟩)
      refine hK.out _ _ hb (fun _ => ?_)
      have B3 := Lib.hid (B2.out.trans (hb.mono B2.out.size))
      refine wpAnyH_more (S' := fun w' => Below x3.heap.size x3 w') (fun w' h => hb.trans (h.mono hb.size)) _ _ _ _ ?_
      have hH3 : Below x3.heap.size x3 x3 := Below.refl _ _
      clear hK K hH2 hb B2
      refine wpAnyH_ready (rs := [31]) (by kernel_rfl) (by simp) ?_
      refine AllReadyH.cons rfl (fun K hK => ?_) AllReadyH.nil
      go_simp
      go_wp2_with (go_at_call 16; (with_reducible refine (C4.out _ B3.out).mono ?_); rintro e x4 ⟨rfl, hb⟩)
      refine hK.out _ _ hb (fun _ => ?_)
      have B4 := Lib.hid (B3.out.trans (hb.mono B3.out.size))
      refine wpAnyH_more (S' := fun w' => Below x4.heap.size x4 w') (fun w' h => hb.trans (h.mono hb.size)) _ _ _ _ ?_
      have hH4 : Below x4.heap.size x4 x4 := Below.refl _ _
      clear hK K hH3 hb B3
      refine held_take (i := 32) (d := 86) (oi := _) (v := ?_) rfl rfl (by kernel_rfl) (by kernel_rfl) (by kernel_rfl) (fun _ _ _ h => h) (Or.inl ⟨by rfl, ?_⟩) (by assumption) ?_
      rotate_left
      · (intro w hSw; clear hSw; go_simp; (try with_reducible rfl))
      simp only [Act.put, List.setIfInBounds_toArray, List.set_cons_zero, List.set_cons_succ]
      refine held_take (i := 33) (d := 87) (oi := _) (v := ?_) rfl rfl (by kernel_rfl) (by kernel_rfl) (by kernel_rfl) (fun _ _ _ h => h) (Or.inl ⟨by rfl, ?_⟩) (by assumption) ?_
      rotate_left
      · (intro w hSw; clear hSw; go_simp; (try with_reducible rfl))
      simp only [Act.put, List.setIfInBounds_toArray, List.set_cons_zero, List.set_cons_succ]
      refine wpAnyH_done (by kernel_rfl) ?_ _
      go_wp2
      go_roundg gf
      case rel => exact ⟨k + 1, by omega, by go_num, B4.out⟩
      case measure => omega

end Go.Proofs.Yticoahmiejgccaa.admitFilters
