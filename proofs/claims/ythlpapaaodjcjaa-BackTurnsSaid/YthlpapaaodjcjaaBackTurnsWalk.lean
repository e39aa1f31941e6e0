/- The walk of BackTurns. -/
import Derived.Test.YthlpapaaodjcjaaBc
namespace Go.Proofs.Ythlpapaaodjcjaa.backTurns
open Go.Proofs.Ythlpapaaodjcjaa.Tri Go.Proofs.Ythlpapaaodjcjaa.Cwl Go.Proofs.Ythlpapaaodjcjaa.Bck Go.Proofs.Ythlpapaaodjcjaa.Reg Go.RowKit Go.Maps
set_option maxRecDepth 100000
set_option linter.unusedVariables false

set_option maxHeartbeats 8000000 in
theorem walk (w : World) (x : Tx) (ax : Option Addr) (cx : Nat) (hmx : x.length ≤ maxLen) (hbx : Bs w w.heap.size ax x) (hnx : ax = none → cx = 0) (hcx : x.length ≤ cx) (y : Tx) (ay : Option Addr) (cy : Nat) (hmy : y.length ≤ maxLen) (hby : Bs w w.heap.size ay y) (hny : ay = none → cy = 0) (hcy : y.length ≤ cy) :
    Calls Try.prog 5 #[.slice ax x.length cx, .slice ay y.length cy] w fun e w' => e = .returned (.bool true) ∧ Below w.heap.size w w' := by
  have HAW := Lib.hid (Bck.awake_any w)
  have Kx : Hid (Ln w ax x cx) := Lib.hid ⟨hbx, hcx, hnx⟩
  clear hbx hcx hnx
  have Ky : Hid (Ln w ay y cy) := Lib.hid ⟨hby, hcy, hny⟩
  clear hby hcy hny

  go_enter Try.func5, Try.ntmps5
  go_wp2_with fail
  refine HAW.out.mono ?_
  rintro e' w1 ⟨rfl, hb1⟩
  have HW := Lib.hid hb1
  have Lx : Hid (∀ X, Below w1.heap.size w1 X → Ln X ax x cx) := Lib.hid fun X hX => (Kx.out.keep hb1).keep hX
  have Ly : Hid (∀ X, Below w1.heap.size w1 X → Ln X ay y cy) := Lib.hid fun X hX => (Ky.out.keep hb1).keep hX
  clear hb1 HAW Kx Ky
  by_cases hx1 : x.length ≤ 300
  · have hx2 : ¬ (300 : Int) < (x.length : Int) := by omega
    by_cases hy1 : y.length ≤ 300
    · have hy2 : ¬ (300 : Int) < (y.length : Int) := by omega
      have LX := Lx.out w1 (Below.refl _ _)
      have LY := Ly.out w1 (Below.refl _ _)
      have hnx := LX.2.2
      have hny := LY.2.2
      have LX1 := Lib.hid LX.1
      have LY1 := Lib.hid LY.1
      clear LX LY
      go_wp2_with (first
        | (at_builtin; refine app_bs rfl _ _ rfl w1.heap.size (.slice none 0 0) 0 [] rfl (World.ownsRow_nil _ _ _ _) ax x cx w1.heap.size rfl LX1.out hnx (by omega) (Nat.le_refl _) ?_; intro v1 w2 ho1 hg1; have H1 : Hid (w2.ownsRow w1.heap.size 5 1 v1 x.length (vals x)) := Lib.hid (by simpa using ho1); have X2 := Lib.hid (Go.Proofs.Ythlpapaaodjcjaa.app_below (Below.refl w1.heap.size w1) (World.ownsRow_nil _ _ _ _) hg1 (Nat.le_refl _) (Nat.le_refl _)); clear ho1 hg1)
        | (at_builtin; refine app_bs rfl _ _ rfl w1.heap.size v1 x.length (vals x) rfl H1.out ay y cy w1.heap.size rfl (LY1.out.keep X2.out) hny (by omega) X2.out.size ?_; intro v2 w3 ho2 hg2; have X3 := Lib.hid (Go.Proofs.Ythlpapaaodjcjaa.app_below X2.out H1.out hg2 X2.out.size (Nat.le_refl _)); have H2 : Hid (w3.ownsRow w1.heap.size 5 1 v2 (x.length + y.length) (vals (x ++ y))) := Lib.hid (by simpa [vals] using ho2); clear ho2 hg2)
        | fail)
      obtain ⟨L, hL⟩ : ∃ L, L = x ++ y := ⟨_, rfl⟩
      have hll : L.length = x.length + y.length := by rw [hL]; simp
      have h2 := H2.out
      rw [← hL, ← hll] at h2
      have HLL := Lib.hid hll
      have hlL : L.length ≤ 600 := by omega
      clear hll
      obtain ⟨ac, cc, rfl, hLc⟩ := ln_own h2
      have HL := Lib.hid hL
      clear hL H1 H2 h2 LX1 LY1 hnx hny
      have X2 := X3
      clear X3
      refine (turn_any w3 L ac cc hLc.1 (by omega)).mono ?_
      rintro e w4 ⟨a4, c4, rfl, ht4, _, _, hb4⟩
      have hcv4 := str_of_bs c4 ht4.bs
      have hl4 := str_size L.reverse
      rw [List.length_reverse] at hcv4 hl4
      have X4 := Lib.hid (X2.out.trans (hb4.mono X2.out.size))
      have HLC := Lib.hid (hLc.keep hb4)
      clear hLc hb4 ht4
      have HCX : Hid (∀ X, Below w4.heap.size w4 X → (convert 35 9 (.slice ax x.length cx)).run Try.prog X = .ok (.string (str x)) X) := Lib.hid fun X hX => str_of_bs cx (Lx.out X (X4.out.trans (hX.mono X4.out.size))).1
      have HX1 : Hid (∀ X, Below w4.heap.size w4 X → Calls Try.prog 23 #[.slice ax x.length cx] X (GivesText X x.reverse)) := Lib.hid fun X hX => turn_any X x ax cx (Lx.out X (X4.out.trans (hX.mono X4.out.size))).1 (by omega)
      have HY1 : Hid (∀ X, Below w4.heap.size w4 X → Calls Try.prog 23 #[.slice ay y.length cy] X (GivesText X y.reverse)) := Lib.hid fun X hX => turn_any X y ay cy (Ly.out X (X4.out.trans (hX.mono X4.out.size))).1 (by omega)
      have HX2 : Hid (∀ X a c, Bs X X.heap.size a x.reverse → Calls Try.prog 23 #[.slice a x.length c] X (GivesText X x)) := Lib.hid fun X a c h => by
        have := turn_any X x.reverse a c h (by rw [List.length_reverse]; omega)
        rwa [List.reverse_reverse, List.length_reverse] at this
      have hbe := str_beq x x
      rw [decide_eq_true rfl] at hbe
      have hap := str_append y.reverse x.reverse
      have hrv : L.reverse = y.reverse ++ x.reverse := by rw [HL.out]; simp
      rw [← hrv] at hap
      have hbe2 := str_beq L.reverse L.reverse
      rw [decide_eq_true rfl] at hbe2
      have hzx : (str x.reverse).size = x.length := by rw [str_size]; simp
      have hzy : (str y.reverse).size = y.length := by rw [str_size]; simp
      have hlx : (x.reverse).length = x.length := by simp
      have hly : (y.reverse).length = y.length := by simp
      have hno : ¬ 9223372036854775807 < y.length + x.length := by omega
      have hee : ((L.length : Int) == L.length) = true := by simp
      have HB4 := Lib.hid (Below.refl w4.heap.size w4)
      clear hrv
      go_wp2_with fail
      refine wp_region_held_drew (S := fun w' => Below w4.drew.heap.size w4.drew w') (by kernel_rfl) (Below.refl _ _) (fun hH0 => ?_)
      have B0 := Lib.hid (below_drews HB4.out 1)
      change Hid (Below _ _ w4.drew) at B0
      generalize w4.drew = x0 at *
      refine held_take (i := 0) (d := 28) (oi := _) (v := ?_) rfl rfl (by kernel_rfl) (by kernel_rfl) (by kernel_rfl) (fun _ _ _ h => h) (Or.inl ⟨by rfl, ?_⟩) (by assumption) ?_
      rotate_left
      · (intro w hSw; clear hSw; go_simp; (try with_reducible rfl))
      simp only [Act.put, List.setIfInBounds_toArray, List.set_cons_zero, List.set_cons_succ]
      refine held_take (i := 4) (d := 32) (oi := _) (v := ?_) rfl rfl (by kernel_rfl) (by kernel_rfl) (by kernel_rfl) (fun _ _ _ h => h) (Or.inl ⟨by rfl, ?_⟩) (by assumption) ?_
      rotate_left
      · (intro w hSw; clear hSw; go_simp; (try with_reducible rfl))
      simp only [Act.put, List.setIfInBounds_toArray, List.set_cons_zero, List.set_cons_succ]
      have HCX0 := Lib.hid (fun (w' : World) (h : Below x0.heap.size x0 w') => HCX.out w' (B0.out.trans (h.mono B0.out.size)))
      refine held_take (i := 5) (d := 33) (oi := _) (v := ?_) rfl rfl (by kernel_rfl) (by kernel_rfl) (by kernel_rfl) (fun _ _ _ h => h) (Or.inl ⟨by rfl, ?_⟩) (by assumption) ?_
      rotate_left
      · (intro w hSw; have hcvw := HCX0.out w hSw; clear hSw; go_simp; (try with_reducible rfl))
      simp only [Act.put, List.setIfInBounds_toArray, List.set_cons_zero, List.set_cons_succ]
      refine wpAnyH_ready (rs := [1]) (by kernel_rfl) (by simp) ?_
      refine AllReadyH.cons rfl (fun K hK => ?_) AllReadyH.nil
      go_simp
      go_wp2_with (go_at_call 23; (with_reducible refine (HX1.out _ B0.out).mono ?_); rintro e x1 ⟨a5, c5, rfl, htx5, _, _, hb⟩)
      refine hK.out _ _ hb (fun _ => ?_)
      have B1 := Lib.hid (B0.out.trans (hb.mono B0.out.size))
      refine wpAnyH_more (S' := fun w' => Below x1.heap.size x1 w') (fun w' h => hb.trans (h.mono hb.size)) _ _ _ _ ?_
      have hH1 : Below x1.heap.size x1 x1 := Below.refl _ _
      clear hK K hH0 hb B0
      have T5 := Lib.hid htx5.bs
      clear htx5
      refine wpAnyH_ready (rs := [2]) (by kernel_rfl) (by simp) ?_
      refine AllReadyH.cons rfl (fun K hK => ?_) AllReadyH.nil
      go_simp
      go_wp2_with (go_at_call 23; (with_reducible refine (HX2.out x1 a5 c5 T5.out).mono ?_); rintro e x2 ⟨a6, c6, rfl, htx6, _, _, hb⟩)
      refine hK.out _ _ hb (fun _ => ?_)
      have B2 := Lib.hid (B1.out.trans (hb.mono B1.out.size))
      refine wpAnyH_more (S' := fun w' => Below x2.heap.size x2 w') (fun w' h => hb.trans (h.mono hb.size)) _ _ _ _ ?_
      have hH2 : Below x2.heap.size x2 x2 := Below.refl _ _
      clear hK K hH1 hb B1
      have V6 := Lib.hid (fun (w' : World) (h : Below x2.heap.size x2 w') => str_of_bs c6 (htx6.bs.keep h))
      clear htx6 T5
      refine held_take (i := 3) (d := 31) (oi := _) (v := ?_) rfl rfl (by kernel_rfl) (by kernel_rfl) (by kernel_rfl) (fun _ _ _ h => h) (Or.inl ⟨by rfl, ?_⟩) (by assumption) ?_
      rotate_left
      · (intro w hSw; have hcvw := V6.out w hSw; clear hSw; go_simp; (try with_reducible rfl))
      simp only [Act.put, List.setIfInBounds_toArray, List.set_cons_zero, List.set_cons_succ]
      refine held_take (i := 6) (d := 34) (oi := _) (v := ?_) rfl rfl (by kernel_rfl) (by kernel_rfl) (by kernel_rfl) (fun _ _ _ h => h) (Or.inl ⟨by rfl, ?_⟩) (by assumption) ?_
      rotate_left
      · (intro w hSw; clear hSw; go_simp; (try with_reducible rfl))
      simp only [Act.put, List.setIfInBounds_toArray, List.set_cons_zero, List.set_cons_succ]
      refine held_take (i := 7) (d := 35) (oi := _) (v := ?_) rfl rfl (by kernel_rfl) (by kernel_rfl) (by kernel_rfl) (fun _ _ _ h => h) (Or.inl ⟨by rfl, ?_⟩) (by assumption) ?_
      rotate_left
      · (intro w hSw; clear hSw; go_simp; (try with_reducible rfl))
      simp only [Act.put, List.setIfInBounds_toArray, List.set_cons_zero, List.set_cons_succ]
      refine held_take (i := 8) (d := 36) (oi := _) (v := ?_) rfl rfl (by kernel_rfl) (by kernel_rfl) (by kernel_rfl) (fun _ _ _ h => h) (Or.inl ⟨by rfl, ?_⟩) (by assumption) ?_
      rotate_left
      · (intro w hSw; clear hSw; go_simp; (try with_reducible rfl))
      simp only [Act.put, List.setIfInBounds_toArray, List.set_cons_zero, List.set_cons_succ]
      refine held_take (i := 9) (d := 37) (oi := _) (v := ?_) rfl rfl (by kernel_rfl) (by kernel_rfl) (by kernel_rfl) (fun _ _ _ h => h) (Or.inl ⟨by rfl, ?_⟩) (by assumption) ?_
      rotate_left
      · (intro w hSw; clear hSw; go_simp; (try with_reducible rfl))
      simp only [Act.put, List.setIfInBounds_toArray, List.set_cons_zero, List.set_cons_succ]
      refine held_take (i := 12) (d := 40) (oi := _) (v := ?_) rfl rfl (by kernel_rfl) (by kernel_rfl) (by kernel_rfl) (fun _ _ _ h => h) (Or.inl ⟨by rfl, ?_⟩) (by assumption) ?_
      rotate_left
      · (intro w hSw; clear hSw; go_simp; (try with_reducible rfl))
      simp only [Act.put, List.setIfInBounds_toArray, List.set_cons_zero, List.set_cons_succ]
      refine wpAnyH_ready (rs := [10]) (by kernel_rfl) (by simp) ?_
      refine AllReadyH.cons rfl (fun K hK => ?_) AllReadyH.nil
      go_simp
      go_wp2_with (go_at_call 23; (with_reducible refine (HY1.out _ B2.out).mono ?_); rintro e x3 ⟨a7, c7, rfl, htx7, _, _, hb⟩)
      refine hK.out _ _ hb (fun _ => ?_)
      have B3 := Lib.hid (B2.out.trans (hb.mono B2.out.size))
      refine wpAnyH_more (S' := fun w' => Below x3.heap.size x3 w') (fun w' h => hb.trans (h.mono hb.size)) _ _ _ _ ?_
      have hH3 : Below x3.heap.size x3 x3 := Below.refl _ _
      clear hK K hH2 hb B2
      have V7 : Hid (∀ w', Below x3.heap.size x3 w' → (convert 35 9 (.slice a7 y.length c7)).run Try.prog w' = .ok (.string (str y.reverse)) w') := Lib.hid fun w' h => by
        have := str_of_bs c7 (htx7.bs.keep h)
        rwa [List.length_reverse] at this
      clear htx7
      refine held_take (i := 11) (d := 39) (oi := _) (v := ?_) rfl rfl (by kernel_rfl) (by kernel_rfl) (by kernel_rfl) (fun _ _ _ h => h) (Or.inl ⟨by rfl, ?_⟩) (by assumption) ?_
      rotate_left
      · (intro w hSw; have hcvw := V7.out w hSw; clear hSw; go_simp; (try with_reducible rfl))
      simp only [Act.put, List.setIfInBounds_toArray, List.set_cons_zero, List.set_cons_succ]
      refine wpAnyH_ready (rs := [13]) (by kernel_rfl) (by simp) ?_
      refine AllReadyH.cons rfl (fun K hK => ?_) AllReadyH.nil
      go_simp
      go_wp2_with (go_at_call 23; (with_reducible refine (HX1.out _ B3.out).mono ?_); rintro e x4 ⟨a8, c8, rfl, htx8, _, _, hb⟩)
      refine hK.out _ _ hb (fun _ => ?_)
      have B4 := Lib.hid (B3.out.trans (hb.mono B3.out.size))
      refine wpAnyH_more (S' := fun w' => Below x4.heap.size x4 w') (fun w' h => hb.trans (h.mono hb.size)) _ _ _ _ ?_
      have hH4 : Below x4.heap.size x4 x4 := Below.refl _ _
      clear hK K hH3 hb B3
      have V8 : Hid (∀ w', Below x4.heap.size x4 w' → (convert 35 9 (.slice a8 x.length c8)).run Try.prog w' = .ok (.string (str x.reverse)) w') := Lib.hid fun w' h => by
        have := str_of_bs c8 (htx8.bs.keep h)
        rwa [List.length_reverse] at this
      clear htx8
      refine held_take (i := 14) (d := 42) (oi := _) (v := ?_) rfl rfl (by kernel_rfl) (by kernel_rfl) (by kernel_rfl) (fun _ _ _ h => h) (Or.inl ⟨by rfl, ?_⟩) (by assumption) ?_
      rotate_left
      · (intro w hSw; have hcvw := V8.out w hSw; clear hSw; go_simp; (try with_reducible rfl))
      simp only [Act.put, List.setIfInBounds_toArray, List.set_cons_zero, List.set_cons_succ]
      refine held_take (i := 15) (d := 43) (oi := _) (v := ?_) rfl rfl (by kernel_rfl) (by kernel_rfl) (by kernel_rfl) (fun _ _ _ h => h) (Or.inl ⟨by rfl, ?_⟩) (by assumption) ?_
      rotate_left
      · (intro w hSw; clear hSw; go_simp; (try with_reducible rfl))
      simp only [Act.put, List.setIfInBounds_toArray, List.set_cons_zero, List.set_cons_succ]
      refine held_take (i := 16) (d := 44) (oi := _) (v := ?_) rfl rfl (by kernel_rfl) (by kernel_rfl) (by kernel_rfl) (fun _ _ _ h => h) (Or.inl ⟨by rfl, ?_⟩) (by assumption) ?_
      rotate_left
      · (intro w hSw; clear hSw; go_simp; (try with_reducible rfl))
      simp only [Act.put, List.setIfInBounds_toArray, List.set_cons_zero, List.set_cons_succ]
      refine held_take (i := 17) (d := 45) (oi := _) (v := ?_) rfl rfl (by kernel_rfl) (by kernel_rfl) (by kernel_rfl) (fun _ _ _ h => h) (Or.inl ⟨by rfl, ?_⟩) (by assumption) ?_
      rotate_left
      · (intro w hSw; clear hSw; go_simp; (try with_reducible rfl))
      simp only [Act.put, List.setIfInBounds_toArray, List.set_cons_zero, List.set_cons_succ]
      refine held_take (i := 18) (d := 46) (oi := _) (v := ?_) rfl rfl (by kernel_rfl) (by kernel_rfl) (by kernel_rfl) (fun _ _ _ h => h) (Or.inl ⟨by rfl, ?_⟩) (by assumption) ?_
      rotate_left
      · (intro w hSw; clear hSw; go_simp; (try with_reducible rfl))
      simp only [Act.put, List.setIfInBounds_toArray, List.set_cons_zero, List.set_cons_succ]
      refine held_take (i := 19) (d := 47) (oi := _) (v := ?_) rfl rfl (by kernel_rfl) (by kernel_rfl) (by kernel_rfl) (fun _ _ _ h => h) (Or.inl ⟨by rfl, ?_⟩) (by assumption) ?_
      rotate_left
      · (intro w hSw; clear hSw; go_simp; (try with_reducible rfl))
      simp only [Act.put, List.setIfInBounds_toArray, List.set_cons_zero, List.set_cons_succ]
      refine held_take (i := 20) (d := 48) (oi := _) (v := ?_) rfl rfl (by kernel_rfl) (by kernel_rfl) (by kernel_rfl) (fun _ _ _ h => h) (Or.inl ⟨by rfl, ?_⟩) (by assumption) ?_
      rotate_left
      · (intro w hSw; clear hSw; go_simp; (try with_reducible rfl))
      simp only [Act.put, List.setIfInBounds_toArray, List.set_cons_zero, List.set_cons_succ]
      refine held_take (i := 21) (d := 49) (oi := _) (v := ?_) rfl rfl (by kernel_rfl) (by kernel_rfl) (by kernel_rfl) (fun _ _ _ h => h) (Or.inl ⟨by rfl, ?_⟩) (by assumption) ?_
      rotate_left
      · (intro w hSw; clear hSw; go_simp; (try with_reducible rfl))
      simp only [Act.put, List.setIfInBounds_toArray, List.set_cons_zero, List.set_cons_succ]
      refine held_take (i := 22) (d := 50) (oi := _) (v := ?_) rfl rfl (by kernel_rfl) (by kernel_rfl) (by kernel_rfl) (fun _ _ _ h => h) (Or.inl ⟨by rfl, ?_⟩) (by assumption) ?_
      rotate_left
      · (intro w hSw; clear hSw; go_simp; (try with_reducible rfl))
      simp only [Act.put, List.setIfInBounds_toArray, List.set_cons_zero, List.set_cons_succ]
      refine held_take (i := 23) (d := 51) (oi := _) (v := ?_) rfl rfl (by kernel_rfl) (by kernel_rfl) (by kernel_rfl) (fun _ _ _ h => h) (Or.inl ⟨by rfl, ?_⟩) (by assumption) ?_
      rotate_left
      · (intro w hSw; clear hSw; go_simp; (try with_reducible rfl))
      simp only [Act.put, List.setIfInBounds_toArray, List.set_cons_zero, List.set_cons_succ]
      refine held_take (i := 24) (d := 52) (oi := _) (v := ?_) rfl rfl (by kernel_rfl) (by kernel_rfl) (by kernel_rfl) (fun _ _ _ h => h) (Or.inl ⟨by rfl, ?_⟩) (by assumption) ?_
      rotate_left
      · (intro w hSw; clear hSw; go_simp; (try with_reducible rfl))
      simp only [Act.put, List.setIfInBounds_toArray, List.set_cons_zero, List.set_cons_succ]
      refine held_take (i := 25) (d := 4) (oi := _) (v := ?_) rfl rfl (by kernel_rfl) (by kernel_rfl) (by kernel_rfl) (fun _ _ _ h => h) (Or.inl ⟨by rfl, ?_⟩) (by assumption) ?_
      rotate_left
      · (intro w hSw; clear hSw; go_simp; (try with_reducible rfl))
      simp only [Act.put, List.setIfInBounds_toArray, List.set_cons_zero, List.set_cons_succ]
      refine wpAnyH_done (by kernel_rfl) ?_ _
      go_wp2
      go_ret
      exact ⟨rfl, HW.out.trans ((X4.out.trans (B4.out.mono X4.out.size)).mono HW.out.size)⟩
    · have hy2 : (300 : Int) < (y.length : Int) := by omega
      go_wp2
      go_ret
      exact ⟨rfl, HW.out⟩
  · have hx2 : (300 : Int) < (x.length : Int) := by omega
    go_wp2
    go_ret
    exact ⟨rfl, HW.out⟩
end Go.Proofs.Ythlpapaaodjcjaa.backTurns
