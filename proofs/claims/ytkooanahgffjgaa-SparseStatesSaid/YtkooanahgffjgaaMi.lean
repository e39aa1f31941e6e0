/- Rows of the reference's own: rows of the call, appended to. -/
import Derived.Test.YtkooanahgffjgaaMh
import Derived.Deep.RegionHeld
namespace Go.Proofs.Ytkooanahgffjgaa.Met
open Go.RowKit Go.Maps
set_option maxRecDepth 100000

theorem rvals_one (l : List Rw) : ∀ v ∈ rvals l, v.oneCell' = true := by
  intro v hv
  simp only [rvals, List.mem_flatMap] at hv
  obtain ⟨p, _, hp⟩ := hv
  simp only [rcells, List.mem_cons, List.not_mem_nil, or_false] at hp
  rcases hp with rfl | rfl | rfl <;> rfl
/-- .. what is counted by a meter plays no part. -/
theorem own_adds {w w' : World} {base e size n : Nat} {v : Value} {xs : List Value} {q : Option Addr} {a b c d : Int} (h : w.ownsRow base e size v n xs) (hg : w.grownBy w' (blk q)) (hM : Mt w q a b c d) (he : e ≠ 56 := by decide) : w'.ownsRow base e size v n xs := by
  refine h.kept hg ?_
  cases hv : v.ownBlock with
  | none => exact Or.inl rfl
  | some g =>
    obtain ⟨_, _, cs, hh⟩ := own_block_lt h hv
    exact Or.inr (hM.not hh he)
/-- An operation that yields in every world that meets S, taken first; its slot is named. -/
theorem held_take {P : Program} {md : Region.Mode} {ops : Array Oper} {Q : Exit → Act → World → Prop} {S : World → Prop} {i d : Nat} {oi : Oper} {v : Value} {fuel : Nat} {listed : Array Bool} {a : Act} {w : World} (hi : ops[i]? = some oi) (hd : oi.dst = some d)
    (hs : Region.noSelect ops = true) (hf : Region.free md ops listed i = true) (hr : (Region.ready md ops listed).contains i = true)
    (hQ : ∀ c a w, Q (.panic c) (a.put (some d) v) w → Q (.panic c) a w) (hy : YieldsIf P ops S oi v a) (hS : S w)
    (h : wpAnyH P md ops Q S fuel (listed.setIfInBounds i true) (a.put (some d) v) w) : wpAnyH P md ops Q S (fuel + 1) listed a w :=
  wpAnyH_take hi hs hf hr (by rw [hd]; exact hQ) hy hS (by rw [hd]; exact h)
end Go.Proofs.Ytkooanahgffjgaa.Met
