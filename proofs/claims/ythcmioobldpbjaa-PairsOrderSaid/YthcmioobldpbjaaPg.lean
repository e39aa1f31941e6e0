/- The examples' lists, and the calls that awake makes. -/
import Derived.Test.YthcmioobldpbjaaPf
namespace Go.Proofs.Ythcmioobldpbjaa
open Go.RowKit

def ex4 : List Pr := [⟨2, 3⟩, ⟨0, 5⟩, ⟨2, 2⟩, ⟨0, 5⟩]
def ex3 : List Pr := [⟨0, 5⟩, ⟨2, 2⟩, ⟨2, 3⟩]
def ex2 : List Pr := [⟨0, 0⟩, ⟨1, 1⟩]
theorem ex_norm : norm ex4 = ex3 := by decide
theorem ex_empties : empties 2 = ex2 := by decide
/-- Pairs that are written out, in a block of their own. -/
theorem ps_lit (w : World) (l : List Pr) (cs : Array Value) (hcs : cs = (cellsOf l).toArray) :
    Ps (w.alloc (.cells cs 27)) (w.alloc (.cells cs 27)).heap.size (some ⟨w.heap.size, 0, none⟩) l := fun _ => by
  refine ⟨w.heap.size, 0, rfl, by simp, fun i hi => ?_⟩
  have h0 := cells_at l i 0 (by omega) hi
  have h1 := cells_at l i 1 (by omega) hi
  constructor
  · rw [cell_of_row _ w.heap.size _ _ 27 (0, 0) (heap_alloc_new w _), hcs, Nat.zero_add, List.getElem?_toArray]; exact h0
  · rw [cell_of_row _ w.heap.size _ _ 27 (0, 0) (heap_alloc_new w _), hcs, Nat.zero_add, List.getElem?_toArray]; exact h1
theorem ex_sort (w : World) : Calls Try.prog 12 #[.slice (some ⟨w.heap.size, 0, none⟩) 4 4]
    (w.alloc (.cells #[.int .i64 2, .int .i64 3, .int .i64 0, .int .i64 5, .int .i64 2, .int .i64 2, .int .i64 0, .int .i64 5] 27)) fun e w' => ∃ a cap, e = .returned (.slice a 3 cap) ∧ 3 ≤ cap ∧ (a = none → cap = 0) ∧ Ps w' w'.heap.size a ex3 ∧ Below w.heap.size w w' := by
  have hb : Below w.heap.size w (w.alloc (.cells #[.int .i64 2, .int .i64 3, .int .i64 0, .int .i64 5, .int .i64 2, .int .i64 2, .int .i64 0, .int .i64 5] 27)) := (Below.refl _ _).alloc (Nat.le_refl _) _
  refine (sort_all ex4 (some ⟨w.heap.size, 0, none⟩) 4 _ (by decide) (ps_lit w ex4 _ rfl) (by decide) (fun e => by cases e)).mono ?_
  rw [ex_norm]
  rintro e w' ⟨a, cap, rfl, h1, h2, h3, h4⟩
  exact ⟨a, cap, rfl, h1, h2, h3, hb.trans (h4.mono hb.size)⟩
theorem ex_emp (w : World) : Calls Try.prog 16 #[.int .i64 1] w fun e w' => ∃ a cap, e = .returned (.slice a 2 cap) ∧ 2 ≤ cap ∧ (a = none → cap = 0) ∧ Ps w' w'.heap.size a ex2 ∧ Below w.heap.size w w' := by
  refine (empties_any 1 w (by decide)).mono ?_
  rw [show (1 : Nat) + 1 = 2 from rfl, ex_empties]
  exact fun _ _ h => h
theorem ex_same (w : World) (a : Option Addr) (ca : Nat) (h : Ps w w.heap.size a ex3) :
    Calls Try.prog 11 #[.slice a 3 ca, .slice (some ⟨w.heap.size, 0, none⟩) 3 3] (w.alloc (.cells #[.int .i64 0, .int .i64 5, .int .i64 2, .int .i64 2, .int .i64 2, .int .i64 3] 27)).drew fun e w' => e = .returned (.bool true) ∧ Below w.heap.size w w' := by
  have hb : Below w.heap.size w (w.alloc (.cells #[.int .i64 0, .int .i64 5, .int .i64 2, .int .i64 2, .int .i64 2, .int .i64 3] 27)) := (Below.refl _ _).alloc (Nat.le_refl _) _
  refine (same_any ex3 ex3 a (some ⟨w.heap.size, 0, none⟩) ca 3 _ (by decide) (h.keeps (below_drews hb 1)) ((ps_lit w ex3 _ rfl).keep (below_drews (Below.refl _ _) 1))).mono ?_
  rintro e w' ⟨rfl, q, rfl⟩
  exact ⟨rfl, below_drews (below_drews hb 1) q⟩
theorem ex_rises (w : World) (a : Option Addr) (ca : Nat) (h : Ps w w.heap.size a ex3) : Calls Try.prog 14 #[.slice a 3 ca] w fun e w' => e = .returned (.bool true) ∧ Below w.heap.size w w' :=
  rising_any ex3 a ca w (by decide) h
theorem ex_fits5 (w : World) (a : Option Addr) (ca : Nat) (h : Ps w w.heap.size a ex3) : Calls Try.prog 17 #[.slice a 3 ca, .int .i64 5] w fun e w' => e = .returned (.bool true) ∧ Below w.heap.size w w' :=
  fits_any ex3 a ca 5 w (by decide) h
theorem ex_fits4 (w : World) (a : Option Addr) (ca : Nat) (h : Ps w w.heap.size a ex3) : Calls Try.prog 17 #[.slice a 3 ca, .int .i64 4] w fun e w' => e = .returned (.bool false) ∧ Below w.heap.size w w' :=
  fits_any ex3 a ca 4 w (by decide) h
theorem ex_less (w : World) : Calls Try.prog 15 #[.agg #[.int .i64 0, .int .i64 5], .agg #[.int .i64 2, .int .i64 2]] w fun e w' => e = .returned (.bool true) ∧ Below w.heap.size w w' :=
  less_any ⟨0, 5⟩ ⟨2, 2⟩ w
theorem aw_cells {W : World} {B b o : Nat} (h : Ps W B (some ⟨b, o, none⟩) ex3) : W.cell? ⟨b, o, none⟩ = some (.int .i64 0) ∧ W.cell? ⟨b, o + 1, none⟩ = some (.int .i64 5) ∧ W.cell? ⟨b, o + 2, none⟩ = some (.int .i64 2) ∧ W.cell? ⟨b, o + 3, none⟩ = some (.int .i64 2) := by
  obtain ⟨b', o', e, _, hc⟩ := h (by decide)
  cases e
  exact ⟨(hc 0 (by decide)).1, (hc 0 (by decide)).2, (hc 1 (by decide)).1, (hc 1 (by decide)).2⟩
theorem aw_cell2 {W : World} {B b o : Nat} (h : Ps W B (some ⟨b, o, none⟩) ex2) : W.cell? ⟨b, o + 3, none⟩ = some (.int .i64 1) := by
  obtain ⟨b', o', e, _, hc⟩ := h (by decide)
  cases e
  exact (hc 1 (by decide)).2
theorem same_b (xs ys : List Pr) (a b : Option Addr) (ca cb : Nat) (w : World) (hl : xs.length ≤ 1000000000) (hx : Ps w w.heap.size a xs) (hy : Ps w w.heap.size b ys) :
    Calls Try.prog 11 #[.slice a xs.length ca, .slice b ys.length cb] w fun e w' => e = .returned (.bool (decide (xs = ys))) ∧ Below w.heap.size w w' :=
  (same_any xs ys a b ca cb w hl hx hy).mono fun _ _ ⟨he, q, hq⟩ => ⟨he, by rw [hq]; exact below_drews (Below.refl _ _) q⟩
theorem same_yes (xs ys : List Pr) (h : xs = ys) (a b : Option Addr) (ca cb : Nat) (w : World) (hl : xs.length ≤ 1000000000) (hx : Ps w w.heap.size a xs) (hy : Ps w w.heap.size b ys) :
    Calls Try.prog 11 #[.slice a xs.length ca, .slice b ys.length cb] w fun e w' => e = .returned (.bool true) ∧ Below w.heap.size w w' :=
  (same_b xs ys a b ca cb w hl hx hy).mono fun _ _ ⟨he, hb⟩ => ⟨by rw [he, decide_eq_true h], hb⟩
end Go.Proofs.Ythcmioobldpbjaa
