/- The contract of Empties. -/
import Derived.Test.YthcmioobldpbjaaPb
namespace Go.Proofs.Ythcmioobldpbjaa
open Go.RowKit

theorem heap_set_same {w : World} {g i : Nat} {cs : Array Value} {t : TypeId} {fr : Nat × Nat} {u : Value} (h : w.heap[g]? = some (.cells cs t fr)) :
    (w.setCell ⟨g, i, none⟩ u).heap[g]? = some (.cells (cs.setIfInBounds i u) t fr) := by
  simp [World.setCell, Array.getElem?_modify, h]
/-- The first k empty pieces are laid into block g, which has room for m. -/
def Laid (w : World) (g m k : Nat) : Prop :=
  ∃ cs : Array Value, w.heap[g]? = some (.cells cs 27 (0, 0)) ∧ cs.size = m * 2 ∧ ∀ j, j < k → cs[j * 2]? = some (.int .i64 (j : Int)) ∧ cs[j * 2 + 1]? = some (.int .i64 (j : Int))
theorem Laid.there {w : World} {g m k : Nat} (h : Laid w g m k) (hk : k < m) : (∃ u, w.cell? ⟨g, k * 2, none⟩ = some u) ∧ (∃ u, w.cell? ⟨g, k * 2 + 1, none⟩ = some u) ∧ w.frozen? ⟨g, k * 2, none⟩ = false ∧ w.frozen? ⟨g, k * 2 + 1, none⟩ = false := by
  obtain ⟨cs, hh, hs, _⟩ := h
  refine ⟨⟨cs[k * 2]'(by omega), ?_⟩, ⟨cs[k * 2 + 1]'(by omega), ?_⟩, by simp [World.frozen?, hh], by simp [World.frozen?, hh]⟩
  · rw [cell_of_row w g _ _ 27 (0, 0) hh]; exact Array.getElem?_eq_getElem _
  · rw [cell_of_row w g _ _ 27 (0, 0) hh]; exact Array.getElem?_eq_getElem _
theorem Laid.next {w : World} {g m k : Nat} (h : Laid w g m k) (hk : k < m) : Laid ((w.setCell ⟨g, k * 2, none⟩ (.int .i64 (k : Int))).setCell ⟨g, k * 2 + 1, none⟩ (.int .i64 (k : Int))) g m (k + 1) := by
  obtain ⟨cs, hh, hs, hc⟩ := h
  refine ⟨_, heap_set_same (heap_set_same hh), by simp [hs], fun j hj => ?_⟩
  by_cases e : j = k
  · subst e
    constructor
    · rw [Array.getElem?_setIfInBounds_ne (by omega), Array.getElem?_setIfInBounds_self_of_lt (by omega)]
    · rw [Array.getElem?_setIfInBounds_self_of_lt (by simp; omega)]
  · obtain ⟨h1, h2⟩ := hc j (by omega)
    constructor
    · rw [Array.getElem?_setIfInBounds_ne (by omega), Array.getElem?_setIfInBounds_ne (by omega)]; exact h1
    · rw [Array.getElem?_setIfInBounds_ne (by omega), Array.getElem?_setIfInBounds_ne (by omega)]; exact h2
theorem Laid.ps {w : World} {g m : Nat} (h : Laid w g m m) : Ps w w.heap.size (some ⟨g, 0, none⟩) (empties m) := fun _ => by
  obtain ⟨cs, hh, hs, hc⟩ := h
  refine ⟨g, 0, rfl, heap_lt hh, fun i hi => ?_⟩
  rw [empties_length] at hi
  rw [empties_at m i hi]
  obtain ⟨h1, h2⟩ := hc i hi
  constructor
  · rw [cell_of_row w g _ _ 27 (0, 0) hh, Nat.zero_add]; exact h1
  · rw [cell_of_row w g _ _ 27 (0, 0) hh, Nat.zero_add]; exact h2
theorem empties_neg (n : Int) (w : World) (hn : n < 0) : Calls Try.prog 16 #[.int .i64 n] w (Gives w []) := by
  go_enter Try.func16, Try.ntmps16
  go_wp2
  go_ret
  exact ⟨none, 0, rfl, Nat.zero_le _, fun _ => rfl, ps_nil _ _ _, Below.refl _ _⟩
set_option maxHeartbeats 1000000 in
theorem empties_any (n : Nat) (w : World) (hn : n ≤ 1000000) : Calls Try.prog 16 #[.int .i64 (n : Int)] w (Gives w (empties (n + 1))) := by
  obtain ⟨i0, hi, hz0, hz1, hz2⟩ := info_parts info27
  have hd1 : decide ((n : Int) < 0) = false := by simp
  have hd2 : decide (2147483647 ≤ (n : Int)) = false := by simp; omega
  go_enter Try.func16, Try.ntmps16
  go_wp2_with (at_make; refine wpList_make_full w rfl _ _ 22 rfl w.heap.size 27 i0 (.agg #[.int .i64 0, .int .i64 0]) 2 Try.underlying22 hi hz0 hz1 .i64 .i64 _ _ (n + 1) rfl rfl (by simp) (by simp) (by rw [hz2]; omega) (by unfold maxLen; omega) (Nat.le_refl _) ?_; intro w1 hown hg1)
  have hl0 : Laid w1 w.heap.size (n + 1) 0 := by
    rcases hown.2 with ⟨h, _⟩ | ⟨g, cap, cur, hv, hb, hh, _, _, hsz, _⟩
    · cases h
    · cases hv
      exact ⟨cur, hh, hsz, fun j hj => absurd hj (by omega)⟩
  have hb1 : Below w.heap.size w w1 := (Below.refl _ _).grown hg1 (Nat.le_refl _) (fun k hk => by cases hk)
  clear hown hg1 hd1 hd2
  go_loopw [16] (fun i wr => ∃ k : Nat, k ≤ n + 1 ∧ i = .int .i64 (k : Int) ∧ Laid wr w.heap.size (n + 1) k ∧ Below w.heap.size w wr) (fun i _ => n + 1 - (intOf i).toNat)
  case atStart => exact ⟨0, Nat.zero_le _, rfl, hl0, hb1⟩
  case round =>
    obtain ⟨k, hk, rfl, hl, hbel⟩ := hrel
    by_cases hlt : k < n + 1
    · obtain ⟨⟨u0, c0⟩, ⟨u1, c1⟩, f0, f1⟩ := hl.there hlt
      have hkl : (k : Int) < (n : Int) + 1 := by omega
      go_wp2
      go_roundw
      case rel => exact ⟨k + 1, by omega, by go_num, hl.next hlt, (hbel.setCell (p := ⟨w.heap.size, k * 2, none⟩) (Nat.le_refl _) _).setCell (p := ⟨w.heap.size, k * 2 + 1, none⟩) (Nat.le_refl _) _⟩
      case measure => simp [intOf]; omega
    · obtain rfl : k = n + 1 := by omega
      have hkl : ¬ (((n + 1 : Nat) : Int) < (n : Int) + 1) := by omega
      have hps := Lib.hid hl.ps
      clear hl
      go_wp2
      go_ret
      exact ⟨_, n + 1, by rw [empties_length]; rfl, by rw [empties_length]; omega, (fun e => by cases e), hps.out, hbel⟩
end Go.Proofs.Ythcmioobldpbjaa
