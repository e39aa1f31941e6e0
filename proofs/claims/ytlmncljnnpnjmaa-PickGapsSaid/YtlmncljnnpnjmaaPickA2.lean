/- What is picked: how two pairs are held against each other. -/
import Derived.Test.YtlmncljnnpnjmaaPickA1
import Derived.Sort.Grow
namespace Go.Proofs.Ytlmncljnnpnjmaa.Pck
open Go Go.RowKit Go.Proofs.Ytlmncljnnpnjmaa.Prs Adm Reg
set_option maxRecDepth 100000
def cmpV (a b : Int) : Int := if a < b then -1 else if b < a then 1 else 0
theorem cmp_any (a b : Int) (w : World) : Calls Try.prog 24 #[.int .i64 a, .int .i64 b] w fun e w' => e = .returned (.int .i64 (cmpV a b)) ∧ w' = w := by
  obtain ⟨y, hy⟩ : ∃ y, decide (a < b) = y := ⟨_, rfl⟩
  obtain ⟨z, hz⟩ : ∃ z, decide (b < a) = z := ⟨_, rfl⟩
  have HV : Hid (cmpV a b = if y then -1 else if z then 1 else 0) := Lib.hid (by unfold cmpV; rw [← hy, ← hz]; simp)
  cases y <;> cases z
  all_goals
    go_enter Try.func24, Try.ntmps24
    go_wp2
    go_ret
    exact ⟨by rw [HV.out]; rfl, rfl⟩
/-- The first of two numbers that isn't 0. -/
def orV (a b : Int) : Int := if a = 0 then b else a
set_option maxHeartbeats 1000000 in
theorem or_any (a b : Int) (g : Nat) (w : World) (h0 : w.cell? ⟨g, 0, none⟩ = some (.int .i64 a)) (h1 : w.cell? ⟨g, 1, none⟩ = some (.int .i64 b)) :
    Calls Try.prog 23 #[.slice (some ⟨g, 0, none⟩) 2 2] w fun e w' => e = .returned (.int .i64 (orV a b)) ∧ w' = w := by
  obtain ⟨y, hy⟩ : ∃ y, decide (a = 0) = y := ⟨_, rfl⟩
  obtain ⟨z, hz⟩ : ∃ z, decide (b = 0) = z := ⟨_, rfl⟩
  have HB : Hid (z = true → b = 0) := Lib.hid fun h => by rw [h] at hz; simpa using hz
  have HV : Hid (orV a b = if y then b else a) := Lib.hid (by unfold orV; rw [← hy]; simp)
  have hy2 : (a == 0) = y := by rw [← hy]; rfl
  have hz2 : (b == 0) = z := by rw [← hz]; rfl
  clear hy hz
  cases y <;> cases z
  all_goals
    go_enter Try.func23, Try.ntmps23
    go_wp2
    refine wp_loop_rounds 3 ?_
    rw [rounds_succ]
    go_wp2
    first
      | (go_ret; exact ⟨by rw [HV.out]; rfl, rfl⟩)
      | (rw [rounds_succ]
         go_wp2
         first
           | (go_ret; exact ⟨by rw [HV.out]; rfl, rfl⟩)
           | (rw [rounds_succ]
              go_wp2
              go_ret; exact ⟨by rw [HV.out, HB.out (by first | rfl | trivial)]; rfl, rfl⟩))
/-- How two pairs are held against each other. -/
def cfP (x y : Pr) : Int := orV (cmpV x.s y.s) (cmpV y.e x.e)
set_option maxHeartbeats 1000000 in
theorem closure_any (x y : Pr) (w : World) : Calls Try.prog 22 #[.agg #[.int .i64 x.s, .int .i64 x.e], .agg #[.int .i64 y.s, .int .i64 y.e]] w fun e w' => e = .returned (.int .i64 (cfP x y)) ∧ ∃ q os, w' = Sort.grow (w.drewN q) os := by
  have C1 := Lib.hid fun W => cmp_any x.s y.s W
  have C2 := Lib.hid fun W => cmp_any y.e x.e W
  have HV : Hid (cfP x y = orV (cmpV x.s y.s) (cmpV y.e x.e)) := Lib.hid rfl
  generalize cmpV x.s y.s = a at C1 HV
  generalize cmpV y.e x.e = b at C2 HV
  go_enter Try.func22, Try.ntmps22
  go_wp2
  have P0 := pb_new w x.s x.e
  have P1 := pb_new (w.alloc (.cells #[.int .i64 x.s, .int .i64 x.e] 25)) y.s y.e
  have P2 := P0.keep ((Below.refl _ _).alloc (Nat.le_refl _) (.cells #[.int .i64 y.s, .int .i64 y.e] 25)) P0.lt
  rw [show (w.alloc (.cells #[.int .i64 x.s, .int .i64 x.e] 25)).heap.size = w.heap.size + 1 from by simp] at P1
  have HW : Hid ((w.alloc (.cells #[.int .i64 x.s, .int .i64 x.e] 25)).alloc (.cells #[.int .i64 y.s, .int .i64 y.e] 25) = Sort.grow w #[.cells #[.int .i64 x.s, .int .i64 x.e] 25, .cells #[.int .i64 y.s, .int .i64 y.e] 25]) := Lib.hid (by rw [Sort.alloc_eq_grow, Sort.alloc_eq_grow, Sort.grow_grow]; rfl)
  obtain ⟨c0, c1⟩ := P2.cells
  obtain ⟨c2, c3⟩ := P1.cells
  clear P0 P1 P2
  generalize (w.alloc (.cells #[.int .i64 x.s, .int .i64 x.e] 25)).alloc (.cells #[.int .i64 y.s, .int .i64 y.e] 25) = w1 at *
  have HR := Lib.hid (Below.refl w1.heap.size w1)
  have C1 := Lib.hid fun (X : World) (_ : Below w1.heap.size w1 X) => C1.out X
  have C2 := Lib.hid fun (X : World) (_ : Below w1.heap.size w1 X) => C2.out X
  have hlt : w.heap.size + 1 < w1.heap.size := cell_lt c2
  have L0 : Hid (∀ X, Below w1.heap.size w1 X → X.cell? ⟨w.heap.size, 0, none⟩ = some (.int .i64 x.s)) := Lib.hid fun X h => (h.cell (p := ⟨w.heap.size, 0, none⟩) (by show w.heap.size < _; omega)).trans c0
  have L1 : Hid (∀ X, Below w1.heap.size w1 X → X.cell? ⟨w.heap.size, 1, none⟩ = some (.int .i64 x.e)) := Lib.hid fun X h => (h.cell (p := ⟨w.heap.size, 1, none⟩) (by show w.heap.size < _; omega)).trans c1
  have L2 : Hid (∀ X, Below w1.heap.size w1 X → X.cell? ⟨w.heap.size + 1, 0, none⟩ = some (.int .i64 y.s)) := Lib.hid fun X h => (h.cell (p := ⟨w.heap.size + 1, 0, none⟩) (by show w.heap.size + 1 < _; omega)).trans c2
  have L3 : Hid (∀ X, Below w1.heap.size w1 X → X.cell? ⟨w.heap.size + 1, 1, none⟩ = some (.int .i64 y.e)) := Lib.hid fun X h => (h.cell (p := ⟨w.heap.size + 1, 1, none⟩) (by show w.heap.size + 1 < _; omega)).trans c3
  have CO : Hid (Calls Try.prog 23 #[.slice (some ⟨w1.drew.heap.size, 0, none⟩) 2 2] (w1.drew.alloc (.cells #[.int .i64 a, .int .i64 b] 3)) fun e w' => e = .returned (.int .i64 (orV a b)) ∧ w' = w1.drew.alloc (.cells #[.int .i64 a, .int .i64 b] 3)) := Lib.hid (or_any a b _ _ (by rw [cell_of_row _ w1.drew.heap.size _ _ 3 (0, 0) (heap_alloc_new w1.drew _)]; rfl) (by rw [cell_of_row _ w1.drew.heap.size _ _ 3 (0, 0) (heap_alloc_new w1.drew _)]; rfl))
  generalize orV a b = r at CO HV
  clear c0 c1 c2 c3 hlt
  refine wp_region_held_drew (S := fun w' => Below w1.drew.heap.size w1.drew w') (by kernel_rfl) (Below.refl _ _) (fun hH0 => ?_)
  have B0 := Lib.hid (below_drews HR.out 1)
  change Hid (Below _ _ w1.drew) at B0
  generalize hx0 : w1.drew = x0 at *
  have HX0 := Lib.hid hx0
  clear hx0
  refine held_take (i := 0) (d := 5) (oi := _) (v := ?_) rfl rfl (by kernel_rfl) (by kernel_rfl) (by kernel_rfl) (fun _ _ _ h => h) (Or.inl ⟨by rfl, ?_⟩) (by assumption) ?_
  rotate_left
  · (intro w hSw; clear hSw; go_simp; (try with_reducible rfl))
  simp only [Act.put, List.setIfInBounds_toArray, List.set_cons_zero, List.set_cons_succ]
  refine held_take (i := 2) (d := 7) (oi := _) (v := ?_) rfl rfl (by kernel_rfl) (by kernel_rfl) (by kernel_rfl) (fun _ _ _ h => h) (Or.inl ⟨by rfl, ?_⟩) (by assumption) ?_
  rotate_left
  · (intro w hSw; clear hSw; go_simp; (try with_reducible rfl))
  simp only [Act.put, List.setIfInBounds_toArray, List.set_cons_zero, List.set_cons_succ]
  refine held_take (i := 5) (d := 10) (oi := _) (v := ?_) rfl rfl (by kernel_rfl) (by kernel_rfl) (by kernel_rfl) (fun _ _ _ h => h) (Or.inl ⟨by rfl, ?_⟩) (by assumption) ?_
  rotate_left
  · (intro w hSw; clear hSw; go_simp; (try with_reducible rfl))
  simp only [Act.put, List.setIfInBounds_toArray, List.set_cons_zero, List.set_cons_succ]
  refine held_take (i := 7) (d := 12) (oi := _) (v := ?_) rfl rfl (by kernel_rfl) (by kernel_rfl) (by kernel_rfl) (fun _ _ _ h => h) (Or.inl ⟨by rfl, ?_⟩) (by assumption) ?_
  rotate_left
  · (intro w hSw; clear hSw; go_simp; (try with_reducible rfl))
  simp only [Act.put, List.setIfInBounds_toArray, List.set_cons_zero, List.set_cons_succ]
  refine held_take (i := 1) (d := 6) (oi := _) (v := ?_) rfl rfl (by kernel_rfl) (by kernel_rfl) (by kernel_rfl) (fun _ _ _ h => h) (Or.inl ⟨by rfl, ?_⟩) (by assumption) ?_
  rotate_left
  · (intro w hSw; have hld := L0.out w (B0.out.trans (hSw.mono B0.out.size)); clear hSw; go_simp; (try with_reducible rfl))
  simp only [Act.put, List.setIfInBounds_toArray, List.set_cons_zero, List.set_cons_succ]
  refine held_take (i := 3) (d := 8) (oi := _) (v := ?_) rfl rfl (by kernel_rfl) (by kernel_rfl) (by kernel_rfl) (fun _ _ _ h => h) (Or.inl ⟨by rfl, ?_⟩) (by assumption) ?_
  rotate_left
  · (intro w hSw; have hld := L2.out w (B0.out.trans (hSw.mono B0.out.size)); clear hSw; go_simp; (try with_reducible rfl))
  simp only [Act.put, List.setIfInBounds_toArray, List.set_cons_zero, List.set_cons_succ]
  refine held_take (i := 6) (d := 11) (oi := _) (v := ?_) rfl rfl (by kernel_rfl) (by kernel_rfl) (by kernel_rfl) (fun _ _ _ h => h) (Or.inl ⟨by rfl, ?_⟩) (by assumption) ?_
  rotate_left
  · (intro w hSw; have hld := L3.out w (B0.out.trans (hSw.mono B0.out.size)); clear hSw; go_simp; (try with_reducible rfl))
  simp only [Act.put, List.setIfInBounds_toArray, List.set_cons_zero, List.set_cons_succ]
  refine held_take (i := 8) (d := 13) (oi := _) (v := ?_) rfl rfl (by kernel_rfl) (by kernel_rfl) (by kernel_rfl) (fun _ _ _ h => h) (Or.inl ⟨by rfl, ?_⟩) (by assumption) ?_
  rotate_left
  · (intro w hSw; have hld := L1.out w (B0.out.trans (hSw.mono B0.out.size)); clear hSw; go_simp; (try with_reducible rfl))
  simp only [Act.put, List.setIfInBounds_toArray, List.set_cons_zero, List.set_cons_succ]
  refine wpAnyH_ready (rs := [4]) (by kernel_rfl) (by simp) ?_
  refine AllReadyH.cons rfl (fun K hK => ?_) AllReadyH.nil
  go_simp
  go_wp2_with (go_at_call 24; (with_reducible refine (C1.out _ B0.out).mono ?_); rintro e x' ⟨rfl, rfl⟩)
  refine hK.out _ _ hH0 (fun _ => ?_)
  clear hK K
  refine wpAnyH_ready (rs := [9]) (by kernel_rfl) (by simp) ?_
  refine AllReadyH.cons rfl (fun K hK => ?_) AllReadyH.nil
  go_simp
  go_wp2_with (go_at_call 24; (with_reducible refine (C2.out _ B0.out).mono ?_); rintro e x' ⟨rfl, rfl⟩)
  refine hK.out _ _ hH0 (fun _ => ?_)
  clear hK K
  refine wpAnyH_ready (rs := [10]) (by kernel_rfl) (by simp) ?_
  refine AllReadyH.cons rfl (fun K hK => ?_) AllReadyH.nil
  go_simp
  refine hK.out _ _ ((Below.refl _ _).alloc (Nat.le_refl _) _) (fun _ => ?_)
  clear hK K
  refine wpAnyH_ready (rs := [11]) (by kernel_rfl) (by simp) ?_
  refine AllReadyH.cons rfl (fun K hK => ?_) AllReadyH.nil
  go_simp
  go_wp2_with (go_at_call 23; (with_reducible refine CO.out.mono ?_); rintro e w2 ⟨rfl, rfl⟩)
  refine hK.out _ _ ((Below.refl _ _).alloc (Nat.le_refl _) _) (fun _ => ?_)
  clear hK K
  refine held_take (i := 12) (d := 4) (oi := _) (v := ?_) rfl rfl (by kernel_rfl) (by kernel_rfl) (by kernel_rfl) (fun _ _ _ h => h) (Or.inl ⟨by rfl, ?_⟩) (by assumption) ?_
  rotate_left
  · (intro w hSw; clear hSw; go_simp; (try with_reducible rfl))
  simp only [Act.put, List.setIfInBounds_toArray, List.set_cons_zero, List.set_cons_succ]
  refine wpAnyH_done (by kernel_rfl) ?_ _
  go_wp2
  go_ret
  refine ⟨by rw [HV.out]; rfl, 1, #[.cells #[.int .i64 x.s, .int .i64 x.e] 25, .cells #[.int .i64 y.s, .int .i64 y.e] 25, .cells #[.int .i64 a, .int .i64 b] 3], ?_⟩
  rw [← HX0.out, HW.out, Sort.alloc_eq_grow]
  rfl
end Go.Proofs.Ytlmncljnnpnjmaa.Pck
