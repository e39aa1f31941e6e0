/- What is picked: the list of which the words are so is the one that is told. -/
import Derived.Test.YtlmncljnnpnjmaaPickD
namespace Go.Proofs.Ytlmncljnnpnjmaa.Pck
open Go Go.RowKit Go.Proofs.Ytlmncljnnpnjmaa.Prs Adm Reg
set_option maxRecDepth 100000
theorem chain_at : ∀ {q : List Pr} {f : Int}, Chain f q → ∀ (k : Nat) (p : Pr), q[k]? = some p → p.s < p.e ∧ ∀ j, k = j + 1 → ∀ r, q[j]? = some r → r.e ≤ p.s
  | [], _, _, k, p, h => by simp at h
  | a :: q, f, h, 0, p, hp => by
    obtain rfl : a = p := by simpa using hp
    exact ⟨h.2.1, fun j hj => absurd hj (by omega)⟩
  | a :: q, f, h, k + 1, p, hp => by
    have hp : q[k]? = some p := by simpa using hp
    obtain ⟨h1, h2⟩ := chain_at h.2.2 k p hp
    refine ⟨h1, fun j hj r hr => ?_⟩
    obtain rfl : k = j := by omega
    cases k with
    | zero =>
      obtain rfl : a = r := by simpa using hr
      exact (Chain.ge h.2.2 p (List.mem_of_getElem? hp)).1
    | succ i => exact h2 i rfl r (by simpa using hr)
theorem chain_of : ∀ {q : List Pr} {f : Int}, (∀ (k : Nat) (p : Pr), q[k]? = some p → p.s < p.e ∧ ∀ j, k = j + 1 → ∀ r, q[j]? = some r → r.e ≤ p.s) → (∀ p, q[0]? = some p → f ≤ p.s) → Chain f q
  | [], _, _, _ => trivial
  | a :: q, f, h, h0 => by
    refine ⟨h0 a rfl, (h 0 a rfl).1, chain_of (fun k p hp => ⟨(h (k + 1) p (by simpa using hp)).1, fun j hj r hr => (h (k + 1) p (by simpa using hp)).2 (j + 1) (by omega) r (by simpa using hr)⟩) fun p hp => ?_⟩
    exact (h 1 p (by simpa using hp)).2 0 rfl a rfl
theorem goodp_iff {l q : List Pr} (hlow : ∀ p ∈ l, lowest ≤ p.s) : GoodP l q ↔ q = longFrom l lowest := by
  rw [← good_only]
  constructor
  · rintro ⟨h1, h2⟩
    have h1 : ∀ k p, q[k]? = some p → _ := fun k p hp => h1 k (List.getElem?_eq_some_iff.1 hp).1 p hp
    refine ⟨chain_of (fun k p hp => (h1 k p hp).2.2) fun p hp => hlow p (h1 0 p hp).1, fun p hp => ?_, fun p hp => ?_, fun r hr ho => h2 r hr ho.1⟩
    · obtain ⟨k, hk⟩ := List.mem_iff_getElem?.1 hp
      exact (h1 k p hk).1
    · obtain ⟨k, hk⟩ := List.mem_iff_getElem?.1 hp
      exact (h1 k p hk).2.1
  · rintro ⟨h1, h2, h3, h4⟩
    exact ⟨fun k _ p hp => ⟨h2 p (List.mem_of_getElem? hp), h3 p (List.mem_of_getElem? hp), chain_at h1 k p hp⟩, fun x hx hn => h4 x hx ⟨hn, hlow x hx⟩⟩
end Go.Proofs.Ytlmncljnnpnjmaa.Pck
