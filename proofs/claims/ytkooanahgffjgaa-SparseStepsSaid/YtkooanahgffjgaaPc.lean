/- The contract of Empties. -/
import Derived.Test.YtkooanahgffjgaaPb
namespace Go.Proofs.Ytkooanahgffjgaa.Prs
open Go.RowKit
set_option maxRecDepth 100000

theorem heap_set_same {w : World} {g i : Nat} {cs : Array Value} {t : TypeId} {fr : Nat × Nat} {u : Value} (h : w.heap[g]? = some (.cells cs t fr)) :
    (w.setCell ⟨g, i, none⟩ u).heap[g]? = some (.cells (cs.setIfInBounds i u) t fr) := by
  simp [World.setCell, Array.getElem?_modify, h]
/-- The first k empty pieces are laid into block g, which has room for m. -/
def Laid (w : World) (g m k : Nat) : Prop :=
  ∃ cs : Array Value, w.heap[g]? = some (.cells cs 52 (0, 0)) ∧ cs.size = m * 2 ∧ ∀ j, j < k → cs[j * 2]? = some (.int .i64 (j : Int)) ∧ cs[j * 2 + 1]? = some (.int .i64 (j : Int))
theorem Laid.there {w : World} {g m k : Nat} (h : Laid w g m k) (hk : k < m) : (∃ u, w.cell? ⟨g, k * 2, none⟩ = some u) ∧ (∃ u, w.cell? ⟨g, k * 2 + 1, none⟩ = some u) ∧ w.frozen? ⟨g, k * 2, none⟩ = false ∧ w.frozen? ⟨g, k * 2 + 1, none⟩ = false := by
  obtain ⟨cs, hh, hs, _⟩ := h
  refine ⟨⟨cs[k * 2]'(by omega), ?_⟩, ⟨cs[k * 2 + 1]'(by omega), ?_⟩, by simp [World.frozen?, hh], by simp [World.frozen?, hh]⟩
  · rw [cell_of_row w g _ _ 52 (0, 0) hh]; exact Array.getElem?_eq_getElem _
  · rw [cell_of_row w g _ _ 52 (0, 0) hh]; exact Array.getElem?_eq_getElem _
theorem Laid.next {w : World} {g m k : Nat} (h : Laid w g m k) (hk : k < m) : Laid ((w.setCell ⟨g, k * 2, none⟩ (.int .i64 (k : Int))).setCell ⟨g, k * 2 + 1, none⟩ (.int .i64 (k : Int))) g m (k + 1) := by
  obtain ⟨cs, hh, hs, hc⟩ := h
  refine ⟨_, heap_set_same (heap_set_same hh), by simp [hs], fun j hj => ?_⟩
  by_cases e : j = k
  · subst e
    constructor
    · rw [Array.getElem?_setIfInBounds_ne (by omega), Array.getElem?_setIfInBounds_self_of_lt (by omega)]
    · rw [Array.getElem?_setIfInBounds_self_of_lt (by simp; omega)]
  · obtain ⟨h1, h2⟩ := hc j (by omega)
    constructor
    · rw [Array.getElem?_setIfInBounds_ne (by omega), Array.getElem?_setIfInBounds_ne (by omega)]; exact h1
    · rw [Array.getElem?_setIfInBounds_ne (by omega), Array.getElem?_setIfInBounds_ne (by omega)]; exact h2
theorem Laid.ps {w : World} {g m : Nat} (h : Laid w g m m) : Ps w w.heap.size (some ⟨g, 0, none⟩) (empties m) := fun _ => by
  obtain ⟨cs, hh, hs, hc⟩ := h
  refine ⟨g, 0, rfl, heap_lt hh, fun i hi => ?_⟩
  rw [empties_length] at hi
  rw [empties_at m i hi]
  obtain ⟨h1, h2⟩ := hc i hi
  constructor
  · rw [cell_of_row w g _ _ 52 (0, 0) hh, Nat.zero_add]; exact h1
  · rw [cell_of_row w g _ _ 52 (0, 0) hh, Nat.zero_add]; exact h2
end Go.Proofs.Ytkooanahgffjgaa.Prs
