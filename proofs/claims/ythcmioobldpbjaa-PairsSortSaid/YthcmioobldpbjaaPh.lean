/- The contract of awake. -/
import Derived.Test.YthcmioobldpbjaaPg
namespace Go.Proofs.Ythcmioobldpbjaa
open Go.RowKit
attribute [local go_sem ↓] Go.wp_at_zero Go.wp_at_succ

theorem below_new (w : World) (x : Obj) : Below w.heap.size w (w.alloc x) := (Below.refl _ _).alloc (Nat.le_refl _) _
theorem aw_S {w' : World} {B B' b1 o1 b2 o2 : Nat} (h : Ps w' B (some ⟨b1, o1, none⟩) ex3) (h' : Ps w' B' (some ⟨b2, o2, none⟩) ex2) : w'.cell? ⟨b1, o1, none⟩ = some (.int .i64 0) ∧ w'.cell? ⟨b1, o1 + 1, none⟩ = some (.int .i64 5) ∧ w'.cell? ⟨b1, o1 + 2, none⟩ = some (.int .i64 2) ∧ w'.cell? ⟨b1, o1 + 3, none⟩ = some (.int .i64 2) ∧ w'.cell? ⟨b2, o2 + 3, none⟩ = some (.int .i64 1) := by
  obtain ⟨h1, h2, h3, h4⟩ := aw_cells h
  exact ⟨h1, h2, h3, h4, aw_cell2 h'⟩
set_option maxRecDepth 100000 in
set_option maxHeartbeats 4000000 in
theorem awake_any (w : World) : Calls Try.prog 8 #[] w fun e w' => e = .returned (.bool true) ∧ Below w.heap.size w w' := by
  go_enter Try.func8, Try.ntmps8
  go_wp2_with (first
    | (go_at_call 12; ((with_reducible refine (ex_sort w).mono ?_)); rintro e w1 ⟨a1, c1, rfl, hc1, _, hp1, hb1⟩)
    | (go_at_call 16; ((with_reducible refine (ex_emp w1).mono ?_)); rintro e w2 ⟨a2, c2, rfl, hc2, _, hp2, hb2⟩; have hbw2 := hb1.trans (hb2.mono hb1.size); have hp1' := hp1.keeps hb2))
  obtain ⟨b1, o1, rfl, _, _⟩ := hp1' (by decide)
  obtain ⟨b2, o2, rfl, _, _⟩ := hp2 (by decide)
  clear hp1 hb1 hb2
  go_region_held3 (fun w' => w'.cell? ⟨b1, o1, none⟩ = some (.int .i64 0) ∧ w'.cell? ⟨b1, o1 + 1, none⟩ = some (.int .i64 5) ∧ w'.cell? ⟨b1, o1 + 2, none⟩ = some (.int .i64 2) ∧ w'.cell? ⟨b1, o1 + 3, none⟩ = some (.int .i64 2) ∧ w'.cell? ⟨b2, o2 + 3, none⟩ = some (.int .i64 1)) (first | assumption | exact aw_S hp1' hp2 | exact aw_S (hp1'.keeps (below_new _ _)) (hp2.keeps (below_new _ _)) | exact aw_S (hp1'.keeps (below_drews (below_new _ _) 1)) (hp2.keeps (below_drews (below_new _ _) 1))) (first
    | (go_at_call 11; ((with_reducible refine (ex_same _ _ _ hp1').mono ?_)); rintro e w3 ⟨rfl, hb3⟩; have hb3' := hbw2.trans (hb3.mono hbw2.size); have hp3 := hp1'.keeps hb3; have hq3 := hp2.keeps hb3; have hS3 := aw_S hp3 hq3)
    | (go_at_call 14; ((with_reducible refine (ex_rises _ _ _ hp3).mono ?_)); rintro e w4 ⟨rfl, hb4⟩; have hb4' := hb3'.trans (hb4.mono hb3'.size); have hp4 := hp3.keeps hb4; have hq4 := hq3.keeps hb4; have hS4 := aw_S hp4 hq4)
    | (go_at_call 17; ((with_reducible refine (ex_fits5 _ _ _ hp4).mono ?_)); rintro e w5 ⟨rfl, hb5⟩; have hb5' := hb4'.trans (hb5.mono hb4'.size); have hp5 := hp4.keeps hb5; have hq5 := hq4.keeps hb5; have hS5 := aw_S hp5 hq5)
    | (go_at_call 17; ((with_reducible refine (ex_fits4 _ _ _ hp5).mono ?_)); rintro e w6 ⟨rfl, hb6⟩; have hb6' := hb5'.trans (hb6.mono hb5'.size); have hp6 := hp5.keeps hb6; have hq6 := hq5.keeps hb6; have hS6 := aw_S hp6 hq6)
    | (go_at_call 15; ((with_reducible refine (ex_less _).mono ?_)); rintro e w7 ⟨rfl, hb7⟩; have hb7' := hb6'.trans (hb7.mono hb6'.size); have hS7 := aw_S (hp6.keeps hb7) (hq6.keeps hb7)))
  all_goals go_wp2
  all_goals go_ret
  all_goals exact ⟨rfl, hb7'⟩
end Go.Proofs.Ythcmioobldpbjaa
