/- Rows of the reference's own: rows of the call, appended to. -/
import Derived.Test.YteadlgmajakomaaMh
import Derived.Deep.RegionHeld
namespace Go.Proofs.Yteadlgmajakomaa
open Go.RowKit Go.Maps

theorem info42 : (Try.prog.info? 42).map (fun i => (i.zero, i.size, i.bytes)) = some (some (.agg #[.int .i64 0, .int .u8 0, .int .i64 0]), 3, 24) := by kernel_rfl
theorem rvals_one (l : List Rw) : ∀ v ∈ rvals l, v.oneCell' = true := by
  intro v hv
  simp only [rvals, List.mem_flatMap] at hv
  obtain ⟨p, _, hp⟩ := hv
  simp only [rcells, List.mem_cons, List.not_mem_nil, or_false] at hp
  rcases hp with rfl | rfl | rfl <;> rfl
theorem own_rs {W : World} {base n : Nat} {v : Value} {xs : List Rw} (h : W.ownsRow base 42 3 v n (rvals xs)) (hn : n = xs.length) :
    ∃ a cap, v = .slice a xs.length cap ∧ Rs W W.heap.size a xs := by
  subst hn
  rcases h.2 with ⟨rfl, h0⟩ | ⟨g, cap, cur, rfl, hg, hh, hnc, _, hs, htk⟩
  · exact ⟨none, 0, by rw [h0], fun h1 => by omega⟩
  · refine ⟨some ⟨g, 0, none⟩, cap, rfl, fun _ => ⟨g, 0, rfl, txt_lt hh, fun i hi => ?_⟩⟩
    have key : ∀ j, j < 3 → W.cell? ⟨g, 0 + i * 3 + j, none⟩ = (rcells xs[i])[j]? := fun j hj => by
      rw [cell_of_row W g _ _ 42 (0, 0) hh, Nat.zero_add, ← rvals_at xs i j hj hi, ← htk, List.getElem?_take_of_lt (by omega), Array.getElem?_toList]
    exact ⟨key 0 (by omega), key 1 (by omega), key 2 (by omega)⟩
theorem rcell_new (w : World) (r : Rw) : ∀ j u, (rcells r)[j]? = some u → (w.alloc (.cells #[.int .i64 r.s, .int .u8 (r.b.toNat : Int), .int .i64 r.t] 42)).cell? ((⟨w.heap.size, 0, none⟩ : Addr).add j) = some u := by
  intro j u h
  have ea : (⟨w.heap.size, 0, none⟩ : Addr).add j = ⟨w.heap.size, j, none⟩ := by unfold Addr.add; split <;> simp_all
  rw [ea, cell_of_row _ w.heap.size _ _ 42 (0, 0) (heap_alloc_new w _)]
  simpa [rcells] using h
/-- A row appended to rows of the call's own. -/
theorem wp_app_rs {w : World} {o : Oper} {a : Act} {K : Act → World → Prop} {Q : Exit → Act → World → Prop} (s x : Operand)
    (ho : o.op = .call { callee := .builtin .append, args := #[s, x], argTypes := #[39, 39] })
    (base : Nat) (v : Value) (n : Nat) (xs : List Rw) (r : Rw) (hs : a.eval s = v) (hown : w.ownsRow base 42 3 v n (rvals xs))
    (ad : Addr) (hx : a.eval x = .slice (some ad) 1 1) (hc : ∀ j u, (rcells r)[j]? = some u → w.cell? (ad.add j) = some u) (hn : n ≤ 1000000) (hbase : base ≤ w.heap.size)
    (h : ∀ v' w', w'.ownsRow base 42 3 v' (n + 1) (rvals (xs ++ [r])) → w.grownBy w' v.ownBlock → K (a.put o.dst v') w') : o.wp Try.prog a w K Q := by
  obtain ⟨i0, hi, hz0, hz1, hz2⟩ := info_parts info42
  rw [rvals_append] at h
  have hr : rvals [r] = rcells r := by simp [rvals]
  rw [hr] at h
  exact wp_append_own w s x 39 ho base 42 i0 _ 3 24 Try.underlying39 hi hz0 hz1 hz2 rfl (by decide) v n (rvals xs) hs hown ad 1 1 (rcells r) hx rfl hc (fun v hv => rvals_one [r] v (by rw [hr]; exact hv)) (by unfold maxLen; omega) (by omega) hbase (fun v' w' h1 h2 _ => h v' w' h1 h2)
theorem own_rs' {W : World} {base n cap : Nat} {a : Option Addr} {xs : List Rw} (h : W.ownsRow base 42 3 (.slice a n cap) n (rvals xs)) (hn : n = xs.length) : Rs W W.heap.size a xs := by
  obtain ⟨a', cap', e, hr⟩ := own_rs h hn
  cases e
  exact hr
/-- .. what is counted by a meter plays no part. -/
theorem own_adds {w w' : World} {base e size n : Nat} {v : Value} {xs : List Value} {q : Option Addr} {a b c d : Int} (h : w.ownsRow base e size v n xs) (hg : w.grownBy w' (blk q)) (hM : Mt w q a b c d) (he : e ≠ 58 := by decide) : w'.ownsRow base e size v n xs := by
  refine h.kept hg ?_
  cases hv : v.ownBlock with
  | none => exact Or.inl rfl
  | some g =>
    obtain ⟨_, _, cs, hh⟩ := own_block_lt h hv
    exact Or.inr (hM.not hh he)
/-- An operation that yields in every world that meets S, taken first; its slot is named. -/
theorem held_take {P : Program} {md : Region.Mode} {ops : Array Oper} {Q : Exit → Act → World → Prop} {S : World → Prop} {i d : Nat} {oi : Oper} {v : Value} {fuel : Nat} {listed : Array Bool} {a : Act} {w : World} (hi : ops[i]? = some oi) (hd : oi.dst = some d)
    (hs : Region.noSelect ops = true) (hf : Region.free md ops listed i = true) (hr : (Region.ready md ops listed).contains i = true)
    (hQ : ∀ c a w, Q (.panic c) (a.put (some d) v) w → Q (.panic c) a w) (hy : YieldsIf P ops S oi v a) (hS : S w)
    (h : wpAnyH P md ops Q S fuel (listed.setIfInBounds i true) (a.put (some d) v) w) : wpAnyH P md ops Q S (fuel + 1) listed a w :=
  wpAnyH_take hi hs hf hr (by rw [hd]; exact hQ) hy hS (by rw [hd]; exact h)
end Go.Proofs.Yteadlgmajakomaa
