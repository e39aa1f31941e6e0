/- How each statement begins: its texts, few and short, and their tree; mathematics of the statements. -/
import Derived.Test.YtljnhkpcodecgaaTi
namespace Go.Proofs.Ytljnhkpcodecgaa.Tri
open Go.RowKit Go.Maps

theorem few_tot {xs : List TxV} (h0 : xs.length ≤ 12) (hx : ∀ x ∈ xs, x.text.length ≤ 40) : tot (xs.map TxV.text) ≤ 480 := by
  have := tot_le (xs.map TxV.text) 40 (fun x h => by
    obtain ⟨y, hy, rfl⟩ := List.mem_map.1 h
    exact hx y hy)
  rw [List.length_map] at this
  omega
theorem few_len {l : List Tx} (h : tot l ≤ 480) : (paths l).length ≤ 481 := by
  have := paths_len l; omega
theorem path_short {l : List Tx} {b : Nat} (hx : ∀ x ∈ l, x.length ≤ b) {p : Tx} (hp : p ∈ paths l) : p.length ≤ b := by
  rcases (paths_mem l p).1 hp with rfl | ⟨x, hx', q, rfl⟩
  · simp
  · have := hx _ hx'
    rw [List.length_append] at this
    omega
theorem back_up {ps : List Tx} (h : Wf ps) {k : Nat} (hk : k < ps.length) (h0 : 0 < k) : ∃ j, ∃ hj : j < k, upOf ps (k : Int) = (j : Int) ∧ ps[j] = ps[k].dropLast ∧ 0 < ps[k].length ∧ ∃ h1 : ps[k].length - 1 < ps[k].length, stepOf ps (j : Int) (ps[k][ps[k].length - 1]) = (k : Int) := by
  have hne : ps[k] ≠ [] := fun e => by have := (h.nil_iff hk).1 e; omega
  obtain ⟨j, hj, e⟩ := h.up k hk hne
  have hp : 0 < ps[k].length := List.length_pos_iff.2 hne
  refine ⟨j, hj, ?_, e, hp, by omega, ?_⟩
  · rw [upOf_at hk, if_neg hne, ← e, place_at h.nodup (by omega)]
  · rw [stepOf_at (by omega), e, ← List.getLast_eq_getElem hne, List.dropLast_concat_getLast, place_at h.nodup hk]
end Go.Proofs.Ytljnhkpcodecgaa.Tri
