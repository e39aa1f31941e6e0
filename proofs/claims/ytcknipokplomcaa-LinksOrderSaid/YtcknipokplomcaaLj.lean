/- Few and short texts; what the statements of layer 7 lean on. -/
import Derived.Test.YtcknipokplomcaaLi
namespace Go.Proofs.Ytcknipokplomcaa.Lnk
open Go.RowKit Go.Maps Go.Proofs.Ytcknipokplomcaa.Tri

theorem few_tot {xs : List TxV} (h0 : xs.length ≤ 12) (hx : ∀ x ∈ xs, x.text.length ≤ 40) : tot (xs.map TxV.text) ≤ 480 := by
  have := tot_le (xs.map TxV.text) 40 (fun x h => by
    obtain ⟨y, hy, rfl⟩ := List.mem_map.1 h
    exact hx y hy)
  rw [List.length_map] at this
  omega
theorem few_len {l : List Tx} (h : tot l ≤ 480) : (paths l).length ≤ 481 := by
  have := paths_len l; omega
theorem path_short {l : List Tx} {b : Nat} (hx : ∀ x ∈ l, x.length ≤ b) {p : Tx} (hp : p ∈ paths l) : p.length ≤ b := by
  rcases (paths_mem l p).1 hp with rfl | ⟨x, hx', q, rfl⟩
  · simp
  · have := hx _ hx'
    rw [List.length_append] at this
    omega
/-- The last bytes of a text, as they are cut off. -/
theorem bs_cut {w : World} {B b off d cap : Nat} {p z : Tx} (h : Bs w B (some ⟨b, off, none⟩) p) (e : p.drop d = z) (_hd : d ≤ p.length) (hc : p.length ≤ cap) : Bs w B (if cap = d then some ⟨b, off, none⟩ else some ⟨b, off + d, none⟩) z := fun h0 => by
  have hl : z.length = p.length - d := by rw [← e]; simp
  rw [if_neg (by omega)]
  obtain ⟨b', off', e', hlt, hcell⟩ := h (by omega)
  cases e'
  refine ⟨b, off + d, rfl, hlt, fun i hi => ?_⟩
  have := hcell (d + i) (by omega)
  rw [Nat.add_assoc, this]
  subst e
  simp
end Go.Proofs.Ytcknipokplomcaa.Lnk
