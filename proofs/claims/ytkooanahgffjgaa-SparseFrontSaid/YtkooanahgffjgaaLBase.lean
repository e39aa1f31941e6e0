/- Links and numbers in memory. -/
import Derived.Test.YtkooanahgffjgaaLMath
namespace Go.Proofs.Ytkooanahgffjgaa.Lnk
open Go.RowKit Go.Maps Go.Proofs.Ytkooanahgffjgaa.Tri
set_option maxRecDepth 100000

/-- A slice of numbers that reads as xs, below block B. -/
def Is (W : World) (B : Nat) (a : Option Addr) (xs : List Int) : Prop :=
  0 < xs.length → ∃ b off, a = some ⟨b, off, none⟩ ∧ b < B ∧ ∀ i (h : i < xs.length), W.cell? ⟨b, off + i, none⟩ = some (.int .i64 xs[i])
theorem Is.keep {W W' : World} {B : Nat} {a : Option Addr} {xs : List Int} (h : Is W B a xs) (hb : Below B W W') : Is W' B a xs := fun h0 => by
  obtain ⟨b, off, e, hlt, hc⟩ := h h0
  exact ⟨b, off, e, hlt, fun i hi => (hb.cell (p := ⟨b, _, none⟩) hlt).trans (hc i hi)⟩
theorem Is.more {W : World} {B B' : Nat} {a : Option Addr} {xs : List Int} (h : Is W B a xs) (hB : B ≤ B') : Is W B' a xs := fun h0 => by
  obtain ⟨b, off, e, hlt, hc⟩ := h h0
  exact ⟨b, off, e, by omega, hc⟩
/-- Numbers as cells. -/
def ivals (l : List Int) : List Value := l.map fun x => Value.int .i64 x
theorem ivals_snoc (l : List Int) (x : Int) : ivals (l ++ [x]) = ivals l ++ [.int .i64 x] := by simp [ivals]
theorem ivals_append (l m : List Int) : ivals (l ++ m) = ivals l ++ ivals m := by simp [ivals]
theorem ivals_length (l : List Int) : (ivals l).length = l.length := by simp [ivals]
theorem ivals_at (l : List Int) (i : Nat) (h : i < l.length) : (ivals l)[i]? = some (.int .i64 l[i]) := by simp [ivals, h]
theorem ivals_one (l : List Int) : ∀ v ∈ ivals l, v.oneCell' = true := by
  intro v hv
  simp only [ivals, List.mem_map] at hv
  obtain ⟨c, _, rfl⟩ := hv
  rfl
theorem info3 : (Try.prog.info? 3).map (fun i => (i.zero, i.size, i.bytes)) = some (some (.int .i64 0), 1, 8) := by kernel_rfl
theorem und32 : Try.prog.underlying 71 = some (.slice 3) := by kernel_rfl
theorem und47 : Try.prog.underlying 82 = some (.slice 86) := by kernel_rfl
theorem info51 : (Try.prog.info? 86).map (fun i => (i.zero, i.size, i.bytes)) = some (some (.agg #[.int .i64 0, .int .i64 0, .int .i64 0]), 3, 24) := by kernel_rfl
theorem own_is {w : World} {base n : Nat} {v : Value} {l : List Int} (h : w.ownsRow base 3 1 v n (ivals l)) : ∃ a cap, v = .slice a l.length cap ∧ Is w w.heap.size a l ∧ (a = none → cap = 0) := by
  have hn : l.length = n := by have := h.1; simpa [ivals] using this
  rcases h.2 with ⟨rfl, h0⟩ | ⟨g, cap, cur, rfl, hg, hh, hnc, _, hs, ht⟩
  · exact ⟨none, 0, by rw [hn, h0], (fun h1 => by omega), fun _ => rfl⟩
  · refine ⟨some ⟨g, 0, none⟩, cap, by rw [hn], fun _ => ⟨g, 0, rfl, txt_lt hh, fun i hi => ?_⟩, fun e => by cases e⟩
    have e : (cur.toList.take (n * 1))[i]? = (ivals l)[i]? := by rw [ht]
    rw [List.getElem?_take_of_lt (by omega)] at e
    rw [Nat.zero_add, cell_of_row w g _ _ 3 (0, 0) hh, ← Array.getElem?_toList, e]
    simp [ivals, hi]
theorem cell_new_at {w : World} {g : Nat} (u : Value) (t : TypeId) (hg : g = w.heap.size) : ∀ j x, [u][j]? = some x → (w.alloc (.cells #[u] t)).cell? ((⟨g, 0, none⟩ : Addr).add j) = some x := by
  subst hg
  exact cell_new1 w u t
theorem own_put3 {w : World} {g base e size n : Nat} {v v0 v1 v2 : Value} {xs : List Value} (h : w.ownsRow base e size v n xs) (hg : g < base) : (put3 w g v0 v1 v2).ownsRow base e size v n xs :=
  own_far_block h fun k hk => put3_other (by have := own_ge h hk; omega)
/-- A number appended to a row of the call's own. -/
theorem app_is {w : World} {ops : Array Oper} {rest : List Oper} {o : Oper} {a : Act} {Q : Exit → Act → World → Prop} (hgd : o.guard = none) (s x : Operand)
    (ho : o.op = .call { callee := .builtin .append, args := #[s, x], argTypes := #[71, 71] })
    (base : Nat) (v : Value) (n : Nat) (xs : List Int) (y : Int) (hs : a.eval s = v) (hown : w.ownsRow base 3 1 v n (ivals xs))
    (ad : Addr) (hx : a.eval x = .slice (some ad) 1 1) (hc : ∀ j u, [Value.int .i64 y][j]? = some u → w.cell? (ad.add j) = some u)
    (hn : n ≤ 1000000000) (hbase : base ≤ w.heap.size)
    (h : ∀ v' w', w'.ownsRow base 3 1 v' (n + 1) (ivals (xs ++ [y])) → w.grownBy w' v.ownBlock → wpList Try.prog ops Q rest (a.put o.dst v') w') : wpList Try.prog ops Q (o :: rest) a w := by
  obtain ⟨i0, hi, hz0, hz1, hz2⟩ := info_parts info3
  rw [ivals_snoc] at h
  exact wpList_append_own w hgd s x 71 ho base 3 i0 (.int .i64 0) 1 8 und32 hi hz0 hz1 hz2 rfl (by decide) v n (ivals xs) hs hown ad 1 1 [.int .i64 y] hx rfl hc (by simp [Value.oneCell']) (by unfold maxLen; omega) (by omega) hbase (fun v' w' h1 h2 _ => h v' w' h1 h2)
theorem wp_app_is {w : World} {o : Oper} {a : Act} {K : Act → World → Prop} {Q : Exit → Act → World → Prop} (s x : Operand)
    (ho : o.op = .call { callee := .builtin .append, args := #[s, x], argTypes := #[71, 71] })
    (base : Nat) (v : Value) (n : Nat) (xs : List Int) (y : Int) (hs : a.eval s = v) (hown : w.ownsRow base 3 1 v n (ivals xs))
    (ad : Addr) (hx : a.eval x = .slice (some ad) 1 1) (hc : ∀ j u, [Value.int .i64 y][j]? = some u → w.cell? (ad.add j) = some u)
    (hn : n ≤ 1000000000) (hbase : base ≤ w.heap.size)
    (h : ∀ v' w', w'.ownsRow base 3 1 v' (n + 1) (ivals (xs ++ [y])) → w.grownBy w' v.ownBlock → K (a.put o.dst v') w') : o.wp Try.prog a w K Q := by
  obtain ⟨i0, hi, hz0, hz1, hz2⟩ := info_parts info3
  rw [ivals_snoc] at h
  exact wp_append_own w s x 71 ho base 3 i0 (.int .i64 0) 1 8 und32 hi hz0 hz1 hz2 rfl (by decide) v n (ivals xs) hs hown ad 1 1 [.int .i64 y] hx rfl hc (by simp [Value.oneCell']) (by unfold maxLen; omega) (by omega) hbase (fun v' w' h1 h2 _ => h v' w' h1 h2)
/-- Numbers appended to a row of the call's own. -/
theorem app_isl {w : World} {ops : Array Oper} {rest : List Oper} {o : Oper} {a : Act} {Q : Exit → Act → World → Prop} (hgd : o.guard = none) (s x : Operand)
    (ho : o.op = .call { callee := .builtin .append, args := #[s, x], argTypes := #[71, 71] })
    (base : Nat) (v : Value) (n : Nat) (xs : List Int) (hs : a.eval s = v) (hown : w.ownsRow base 3 1 v n (ivals xs))
    (A : Option Addr) (l : List Int) (c B : Nat) (hx : a.eval x = .slice A l.length c) (hb : Is w B A l) (hnil : A = none → c = 0)
    (hn : n + l.length ≤ 1000000000) (hbase : base ≤ w.heap.size)
    (h : ∀ v' w', w'.ownsRow base 3 1 v' (n + l.length) (ivals (xs ++ l)) → w.grownBy w' v.ownBlock → wpList Try.prog ops Q rest (a.put o.dst v') w') : wpList Try.prog ops Q (o :: rest) a w := by
  obtain ⟨i0, hi, hz0, hz1, hz2⟩ := info_parts info3
  rw [ivals_append] at h
  cases A with
  | none =>
    have hl : l = [] := by
      rcases Nat.eq_zero_or_pos l.length with h0 | h0
      · exact List.eq_nil_of_length_eq_zero h0
      · obtain ⟨_, _, e, _⟩ := hb h0; cases e
    subst hl
    rw [hnil rfl] at hx
    refine wpList_append_own_none hgd s x 71 ho base 3 i0 1 und32 hi v n (ivals xs) hs hown hx (h v w ?_ (World.grownBy.refl w _))
    simpa [ivals] using hown
  | some ad =>
    refine wpList_append_own w hgd s x 71 ho base 3 i0 (.int .i64 0) 1 8 und32 hi hz0 hz1 hz2 rfl (by decide) v n (ivals xs) hs hown ad l.length c (ivals l) hx (by simp [ivals]) ?_ (ivals_one l) (by unfold maxLen; omega) (by omega) hbase (fun v' w' h1 h2 _ => h v' w' h1 h2)
    intro j u hj
    have hjl : j < l.length := by
      have := (List.getElem?_eq_some_iff.1 hj).1
      simpa [ivals] using this
    obtain ⟨b, off, e, _, hc⟩ := hb (by omega)
    obtain rfl := Option.some.inj e
    rw [add_at, hc j hjl]
    simpa [ivals, hjl] using hj
/-- A call that hands out numbers, and leaves what was there as it was. -/
def GivesInts (w : World) (l : List Int) (e : Ending) (w' : World) : Prop := ∃ a cap, e = .returned (.slice a l.length cap) ∧ Is w' w'.heap.size a l ∧ (a = none → cap = 0) ∧ Below w.heap.size w w'
/-- A link's cells. -/
def lcells (r : Lk) : List Value := [.int .i64 r.fail, .int .i64 r.out, .int .i64 (r.own : Int)]
abbrev lkV (r : Lk) : Value := .agg #[.int .i64 r.fail, .int .i64 r.out, .int .i64 (r.own : Int)]
def lvals (l : List Lk) : List Value := l.flatMap lcells
theorem lvals_length (l : List Lk) : (lvals l).length = l.length * 3 := by
  induction l with
  | nil => rfl
  | cons p l ih => simp only [lvals, List.flatMap_cons, List.length_append, List.length_cons] at ih ⊢; rw [ih]; simp [lcells]; omega
theorem lvals_at : ∀ (xs : List Lk) (i j : Nat), j < 3 → (h : i < xs.length) → (lvals xs)[i * 3 + j]? = (lcells xs[i])[j]?
  | [], i, j, _, h => absurd h (by simp)
  | x :: xs, 0, j, hj, _ => by
    unfold lvals
    rw [List.flatMap_cons, List.getElem?_append_left (by simp [lcells]; omega)]
    simp
  | x :: xs, i + 1, j, hj, h => by
    have h' : i < xs.length := by simpa using h
    unfold lvals
    rw [List.flatMap_cons, List.getElem?_append_right (by simp [lcells]; omega)]
    have e : (i + 1) * 3 + j - (lcells x).length = i * 3 + j := by simp [lcells]; omega
    rw [e]
    exact lvals_at xs i j hj h'
theorem lvals_set : ∀ (xs : List Lk) (i : Nat) (r : Lk), i < xs.length → (((lvals xs).set (i * 3) (.int .i64 r.fail)).set (i * 3 + 1) (.int .i64 r.out)).set (i * 3 + 2) (.int .i64 (r.own : Int)) = lvals (xs.set i r)
  | [], i, _, h => absurd h (by simp)
  | y :: xs, 0, r, _ => by simp [lvals, lcells]
  | y :: xs, i + 1, r, h => by
    have h' : i < xs.length := by simpa using h
    have ih := lvals_set xs i r h'
    unfold lvals at ih ⊢
    rw [List.flatMap_cons, List.set_append_right _ _ (by simp [lcells]; omega), List.set_append_right _ _ (by simp [lcells]; omega), List.set_append_right _ _ (by simp [lcells]; omega)]
    have e : (i + 1) * 3 - (lcells y).length = i * 3 := by simp [lcells]; omega
    have e1 : (i + 1) * 3 + 1 - (lcells y).length = i * 3 + 1 := by simp [lcells]; omega
    have e2 : (i + 1) * 3 + 2 - (lcells y).length = i * 3 + 2 := by simp [lcells]; omega
    rw [e, e1, e2, ih]
    simp
/-- Links in memory, from block s on, of those that the order Q has so far. -/
def LiQ (w : World) (s t : Nat) (ps l Q : List Tx) : Prop :=
  s ≤ t ∧ ∃ g cap vo, Blk2 w t 84 (.slice (some ⟨g, 0, none⟩) ps.length cap) vo ∧ w.ownsRow s 86 3 (.slice (some ⟨g, 0, none⟩) ps.length cap) ps.length (lvals (lks ps l Q)) ∧ w.ownsRow s 3 1 vo Q.length (ivals (Q.map (place ps)))
theorem LiQ.keep {w w' : World} {s t : Nat} {ps l Q : List Tx} (h : LiQ w s t ps l Q) (hb : Below w.heap.size w w') : LiQ w' s t ps l Q := by
  obtain ⟨h0, g, cap, vo, h1, h2, h3⟩ := h
  exact ⟨h0, g, cap, vo, h1.same (hb.block t h1.lt), own_keep h2 hb, own_keep h3 hb⟩
theorem own_row3 {w : World} {s g n cap : Nat} {xs : List Lk} (h2 : w.ownsRow s 86 3 (.slice (some ⟨g, 0, none⟩) n cap) n (lvals xs)) (hn : xs.length = n) {i : Nat} (hi : i < xs.length) :
    w.cell? ⟨g, i * 3, none⟩ = some (.int .i64 xs[i].fail) ∧ w.cell? ⟨g, i * 3 + 1, none⟩ = some (.int .i64 xs[i].out) ∧ w.cell? ⟨g, i * 3 + 2, none⟩ = some (.int .i64 (xs[i].own : Int)) := by
  have key : ∀ j, j < 3 → w.cell? ⟨g, i * 3 + j, none⟩ = (lcells xs[i])[j]? := fun j hj => by
    rw [h2.cellAt (i * 3 + j) (by omega), lvals_at _ i j hj hi]
  exact ⟨key 0 (by omega), key 1 (by omega), key 2 (by omega)⟩
/-- Links opened: what is kept of each node in the order. -/
theorem LiQ.rows {w : World} {s t : Nat} {ps l Q : List Tx} (h : LiQ w s t ps l Q) : ∃ (g cap : Nat) (vo : Value), s ≤ t ∧ Blk2 w t 84 (.slice (some ⟨g, 0, none⟩) ps.length cap) vo ∧ w.ownsRow s 86 3 (.slice (some ⟨g, 0, none⟩) ps.length cap) ps.length (lvals (lks ps l Q)) ∧ w.ownsRow s 3 1 vo Q.length (ivals (Q.map (place ps))) ∧ g < w.heap.size ∧
    ∀ i (hi : i < ps.length), ps[i] ∈ Q → w.cell? ⟨g, i * 3, none⟩ = some (.int .i64 (failOf ps ps[i])) ∧ w.cell? ⟨g, i * 3 + 1, none⟩ = some (.int .i64 (outOf ps l ps[i])) ∧ w.cell? ⟨g, i * 3 + 2, none⟩ = some (.int .i64 (own l ps[i] : Int)) := by
  obtain ⟨h0, g, cap, vo, h1, h2, h3⟩ := h
  refine ⟨g, cap, vo, h0, h1, h2, h3, (own_block_lt h2 rfl).2.1, fun i hi hq => ?_⟩
  obtain ⟨c0, c1, c2⟩ := own_row3 h2 (lks_length ps l Q) (i := i) (by rw [lks_length]; exact hi)
  rw [lks_at ps l Q i hi, if_pos hq] at c0 c1 c2
  exact ⟨c0, c1, c2⟩
/-- What is kept of a node in the order. -/
theorem LiQ.row {w : World} {s t : Nat} {ps l Q : List Tx} (h : LiQ w s t ps l Q) {p : Tx} (hp : p ∈ ps) (hq : p ∈ Q) : ∃ (g cap : Nat) (vo : Value) (i : Nat), Blk2 w t 84 (.slice (some ⟨g, 0, none⟩) ps.length cap) vo ∧ g < w.heap.size ∧ place ps p = (i : Int) ∧ i < ps.length ∧
    w.cell? ⟨g, i * 3, none⟩ = some (.int .i64 (failOf ps p)) ∧ w.cell? ⟨g, i * 3 + 1, none⟩ = some (.int .i64 (outOf ps l p)) ∧ w.cell? ⟨g, i * 3 + 2, none⟩ = some (.int .i64 (own l p : Int)) := by
  obtain ⟨g, cap, vo, h0, h1, h2, h3, hg, hr⟩ := h.rows
  obtain ⟨i, hi, e, e2, _⟩ := place_mem hp
  subst e2
  obtain ⟨c0, c1, c2⟩ := hr i hi hq
  exact ⟨g, cap, vo, i, h1, hg, e, hi, c0, c1, c2⟩
/-- The links of a tree, in memory. -/
def Li (w : World) (s t : Nat) (ps l : List Tx) : Prop := Wf ps ∧ (∀ x ∈ l, x ∈ ps) ∧ ps.length ≤ 1000000 ∧ LiQ w s t ps l (ord ps)
theorem Li.keep {w w' : World} {s t : Nat} {ps l : List Tx} (h : Li w s t ps l) (hb : Below w.heap.size w w') : Li w' s t ps l := ⟨h.1, h.2.1, h.2.2.1, h.2.2.2.keep hb⟩
/-- What is kept of a number. -/
def lkAt (ps l : List Tx) (n : Int) : Lk := match pathOf ps n with | some p => lkOf ps l p | none => ⟨-1, -1, 0⟩
theorem lkAt_in {ps : List Tx} (l : List Tx) {i : Nat} (h : i < ps.length) : lkAt ps l (i : Int) = lkOf ps l ps[i] := by rw [lkAt, pathOf_at h]
theorem lkAt_out {ps : List Tx} (l : List Tx) {n : Int} (h : ¬ (0 ≤ n ∧ n < ps.length)) : lkAt ps l n = ⟨-1, -1, 0⟩ := by rw [lkAt, pathOf_none h]
theorem lkAt_place {ps : List Tx} (l : List Tx) {p : Tx} (h : p ∈ ps) : lkAt ps l (place ps p) = lkOf ps l p := by
  obtain ⟨i, hi, e, e2, _⟩ := place_mem h
  rw [e, lkAt_in l hi, e2]
end Go.Proofs.Ytkooanahgffjgaa.Lnk
