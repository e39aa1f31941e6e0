/- Texts, strings, nodes and edges in memory. -/
import Derived.Test.YtlepabeibniabaaTMath
import Derived.Maps.OwnSet
import Derived.Maps.AppendAt
import Derived.Lib.ConvBytes
import Derived.Laws.OwnMore
import Derived.DeepKeys4
namespace Go.Proofs.Ytlepabeibniabaa.Tri
open Go.RowKit Go.Maps
set_option maxRecDepth 100000

theorem und3 : Try.prog.underlying 3 = some (.int .i64) := by kernel_rfl
theorem info9 : (Try.prog.info? 9).map (fun i => (i.zero, i.size, i.bytes)) = some (some (.string ByteArray.empty), 1, 16) := by kernel_rfl
theorem info32 : (Try.prog.info? 36).map (fun i => (i.zero, i.size, i.bytes)) = some (some (.slice none 0 0), 1, 24) := by kernel_rfl
theorem cell_same {W W' : World} {b o : Nat} (e : W'.heap[b]? = W.heap[b]?) : W'.cell? ⟨b, o, none⟩ = W.cell? ⟨b, o, none⟩ := by
  unfold World.cell?
  rw [e]
theorem cell_lt0 {w : World} {b o : Nat} {v : Value} (h : w.cell? ⟨b, o, none⟩ = some v) : b < w.heap.size := by
  rcases Nat.lt_or_ge b w.heap.size with hlt | hge
  · exact hlt
  · unfold World.cell? at h
    simp only [Array.getElem?_eq_none hge] at h
    cases h
theorem add_at (b off i : Nat) : (⟨b, off, none⟩ : Addr).add i = ⟨b, off + i, none⟩ := by unfold Addr.add; split <;> simp_all

/-- A slice of strings that reads as xs. -/
def Ss (W : World) (a : Option Addr) (xs : List (List UInt8)) : Prop :=
  0 < xs.length → ∃ b off, a = some ⟨b, off, none⟩ ∧ b < W.heap.size ∧ ∀ i (h : i < xs.length), W.cell? ⟨b, off + i, none⟩ = some (.string (str xs[i]))
theorem ss_nil (w : World) (a : Option Addr) : Ss w a [] := fun h => absurd h (by simp)
theorem Ss.keep {W W' : World} {a : Option Addr} {xs : List (List UInt8)} (h : Ss W a xs) (hb : Below W.heap.size W W') : Ss W' a xs := fun h0 => by
  obtain ⟨b, off, e, hlt, hc⟩ := h h0
  exact ⟨b, off, e, Nat.lt_of_lt_of_le hlt hb.size, fun i hi => (hb.cell (p := ⟨b, _, none⟩) hlt).trans (hc i hi)⟩
/-- Strings, one behind the other. -/
def svals (xs : List (List UInt8)) : List Value := xs.map fun x => Value.string (str x)
theorem svals_snoc (xs : List (List UInt8)) (x : List UInt8) : svals (xs ++ [x]) = svals xs ++ [.string (str x)] := by simp [svals]
theorem svals_one (xs : List (List UInt8)) : ∀ v ∈ svals xs, v.oneCell' = true := by
  intro v hv
  simp only [svals, List.mem_map] at hv
  obtain ⟨c, _, rfl⟩ := hv
  rfl
theorem own_ss {w : World} {base n : Nat} {v : Value} {xs : List (List UInt8)} (h : w.ownsRow base 9 1 v n (svals xs)) : ∃ a cap, v = .slice a xs.length cap ∧ Ss w a xs ∧ xs.length ≤ cap ∧ (a = none → cap = 0) := by
  have hn : xs.length = n := by have := h.1; simpa [svals] using this
  rcases h.2 with ⟨rfl, h0⟩ | ⟨g, cap, cur, rfl, hg, hh, hnc, _, hs, ht⟩
  · exact ⟨none, 0, by rw [hn, h0], (fun h1 => by omega), by omega, fun _ => rfl⟩
  · refine ⟨some ⟨g, 0, none⟩, cap, by rw [hn], fun _ => ⟨g, 0, rfl, txt_lt hh, fun i hi => ?_⟩, by omega, fun e => by cases e⟩
    have e : (cur.toList.take (n * 1))[i]? = (svals xs)[i]? := by rw [ht]
    rw [List.getElem?_take_of_lt (by omega), Array.getElem?_toList] at e
    rw [Nat.zero_add, cell_of_row w g _ _ 9 (0, 0) hh, e]
    simp [svals, hi]
theorem cell_new1 (w : World) (u : Value) (t : TypeId) : ∀ j x, [u][j]? = some x → (w.alloc (.cells #[u] t)).cell? ((⟨w.heap.size, 0, none⟩ : Addr).add j) = some x := by
  intro j x h
  have ea : (⟨w.heap.size, 0, none⟩ : Addr).add j = ⟨w.heap.size, j, none⟩ := by unfold Addr.add; split <;> simp_all
  rw [ea, cell_of_row _ w.heap.size _ _ t (0, 0) (heap_alloc_new w _)]
  simpa using h
/-- A string appended to a row of the call's own. -/
theorem app_ss {w : World} {ops : Array Oper} {rest : List Oper} {o : Oper} {a : Act} {Q : Exit → Act → World → Prop} (hgd : o.guard = none) (s x : Operand)
    (ho : o.op = .call { callee := .builtin .append, args := #[s, x], argTypes := #[24, 24] })
    (base : Nat) (v : Value) (n : Nat) (xs : List (List UInt8)) (y : List UInt8) (hs : a.eval s = v) (hown : w.ownsRow base 9 1 v n (svals xs))
    (ad : Addr) (hx : a.eval x = .slice (some ad) 1 1) (hc : ∀ j u, [Value.string (str y)][j]? = some u → w.cell? (ad.add j) = some u)
    (hn : n ≤ 6000000000000) (hbase : base ≤ w.heap.size)
    (h : ∀ v' w', w'.ownsRow base 9 1 v' (n + 1) (svals (xs ++ [y])) → w.grownBy w' v.ownBlock → wpList Try.prog ops Q rest (a.put o.dst v') w') : wpList Try.prog ops Q (o :: rest) a w := by
  obtain ⟨i0, hi, hz0, hz1, hz2⟩ := info_parts info9
  rw [svals_snoc] at h
  exact wpList_append_own w hgd s x 24 ho base 9 i0 (.string ByteArray.empty) 1 16 Try.underlying24 hi hz0 hz1 hz2 rfl (by decide) v n (svals xs) hs hown ad 1 1 [.string (str y)] hx rfl hc (by simp [Value.oneCell']) (by unfold maxLen; omega) (by omega) hbase (fun v' w' h1 h2 _ => h v' w' h1 h2)

/-- Slices of bytes, one behind the other. -/
def tvals (xs : List TxV) : List Value := xs.map fun x => Value.slice x.a x.text.length x.cap
theorem tvals_snoc (xs : List TxV) (x : TxV) : tvals (xs ++ [x]) = tvals xs ++ [.slice x.a x.text.length x.cap] := by simp [tvals]
theorem own_ts {w : World} {base n : Nat} {v : Value} {xs : List TxV} (h : w.ownsRow base 36 1 v n (tvals xs)) (ht : ∀ x ∈ xs, Bs w w.heap.size x.a x.text) : ∃ a cap, v = .slice a xs.length cap ∧ Ts w a xs ∧ xs.length ≤ cap ∧ (a = none → cap = 0) := by
  have hn : xs.length = n := by have := h.1; simpa [tvals] using this
  rcases h.2 with ⟨rfl, h0⟩ | ⟨g, cap, cur, rfl, hg, hh, hnc, _, hs, htk⟩
  · exact ⟨none, 0, by rw [hn, h0], ⟨(fun h1 => by omega), ht⟩, by omega, fun _ => rfl⟩
  · refine ⟨some ⟨g, 0, none⟩, cap, by rw [hn], ⟨fun _ => ⟨g, 0, rfl, txt_lt hh, fun i hi => ?_⟩, ht⟩, by omega, fun e => by cases e⟩
    have e : (cur.toList.take (n * 1))[i]? = (tvals xs)[i]? := by rw [htk]
    rw [List.getElem?_take_of_lt (by omega), Array.getElem?_toList] at e
    rw [Nat.zero_add, cell_of_row w g _ _ 36 (0, 0) hh, e]
    simp [tvals, hi]
theorem tvals_append (xs ys : List TxV) : tvals (xs ++ ys) = tvals xs ++ tvals ys := by simp [tvals]
theorem tvals_length (xs : List TxV) : (tvals xs).length = xs.length := by simp [tvals]
theorem tvals_one (xs : List TxV) : ∀ v ∈ tvals xs, v.oneCell' = true := by
  intro v hv
  simp only [tvals, List.mem_map] at hv
  obtain ⟨c, _, rfl⟩ := hv
  rfl
/-- A text appended to a row of the call's own. -/
theorem app_ts {w : World} {ops : Array Oper} {rest : List Oper} {o : Oper} {a : Act} {Q : Exit → Act → World → Prop} (hgd : o.guard = none) (s x : Operand)
    (ho : o.op = .call { callee := .builtin .append, args := #[s, x], argTypes := #[22, 22] })
    (base : Nat) (v : Value) (n : Nat) (xs : List TxV) (y : TxV) (hs : a.eval s = v) (hown : w.ownsRow base 36 1 v n (tvals xs))
    (ad : Addr) (hx : a.eval x = .slice (some ad) 1 1) (hc : ∀ j u, [Value.slice y.a y.text.length y.cap][j]? = some u → w.cell? (ad.add j) = some u)
    (hn : n ≤ 1000000000) (hbase : base ≤ w.heap.size)
    (h : ∀ v' w', w'.ownsRow base 36 1 v' (n + 1) (tvals (xs ++ [y])) → w.grownBy w' v.ownBlock → wpList Try.prog ops Q rest (a.put o.dst v') w') : wpList Try.prog ops Q (o :: rest) a w := by
  obtain ⟨i0, hi, hz0, hz1, hz2⟩ := info_parts info32
  rw [tvals_snoc] at h
  exact wpList_append_own w hgd s x 22 ho base 36 i0 (.slice none 0 0) 1 24 Try.underlying22 hi hz0 hz1 hz2 rfl (by decide) v n (tvals xs) hs hown ad 1 1 [.slice y.a y.text.length y.cap] hx rfl hc (by simp [Value.oneCell']) (by unfold maxLen; omega) (by omega) hbase (fun v' w' h1 h2 _ => h v' w' h1 h2)

/-- Texts appended to a row of the call's own. -/
theorem app_tsl {w : World} {ops : Array Oper} {rest : List Oper} {o : Oper} {a : Act} {Q : Exit → Act → World → Prop} (hgd : o.guard = none) (s x : Operand)
    (ho : o.op = .call { callee := .builtin .append, args := #[s, x], argTypes := #[22, 22] })
    (base : Nat) (v : Value) (n : Nat) (xs : List TxV) (hs : a.eval s = v) (hown : w.ownsRow base 36 1 v n (tvals xs))
    (A : Option Addr) (l : List TxV) (c : Nat) (hx : a.eval x = .slice A l.length c) (hb : Ts w A l) (hnil : A = none → c = 0)
    (hn : n + l.length ≤ 1000000000) (hbase : base ≤ w.heap.size)
    (h : ∀ v' w', w'.ownsRow base 36 1 v' (n + l.length) (tvals (xs ++ l)) → w.grownBy w' v.ownBlock → wpList Try.prog ops Q rest (a.put o.dst v') w') : wpList Try.prog ops Q (o :: rest) a w := by
  obtain ⟨i0, hi, hz0, hz1, hz2⟩ := info_parts info32
  rw [tvals_append] at h
  cases A with
  | none =>
    have hl : l = [] := by
      rcases Nat.eq_zero_or_pos l.length with h0 | h0
      · exact List.eq_nil_of_length_eq_zero h0
      · obtain ⟨_, _, e, _⟩ := hb.1 h0; cases e
    subst hl
    rw [hnil rfl] at hx
    refine wpList_append_own_none hgd s x 22 ho base 36 i0 1 Try.underlying22 hi v n (tvals xs) hs hown hx (h v w ?_ (World.grownBy.refl w _))
    simpa [tvals] using hown
  | some ad =>
    refine wpList_append_own w hgd s x 22 ho base 36 i0 (.slice none 0 0) 1 24 Try.underlying22 hi hz0 hz1 hz2 rfl (by decide) v n (tvals xs) hs hown ad l.length c (tvals l) hx (by simp [tvals]) ?_ (tvals_one l) (by unfold maxLen; omega) (by omega) hbase (fun v' w' h1 h2 _ => h v' w' h1 h2)
    intro j u hj
    have hjl : j < l.length := by
      have := (List.getElem?_eq_some_iff.1 hj).1
      simpa [tvals] using this
    obtain ⟨b, off, e, _, hc⟩ := hb.1 (by omega)
    obtain rfl := Option.some.inj e
    rw [add_at, hc j hjl]
    simpa [tvals, hjl] using hj

/-- A block of two cells that is known whole. -/
def Blk2 (w : World) (g : Nat) (t : TypeId) (u0 u1 : Value) : Prop := w.heap[g]? = some (.cells #[u0, u1] t (0, 0))
theorem Blk2.lt {w : World} {g : Nat} {t : TypeId} {u0 u1 : Value} (h : Blk2 w g t u0 u1) : g < w.heap.size := txt_lt h
theorem Blk2.new (w : World) (t : TypeId) (u0 u1 : Value) : Blk2 (w.alloc (.cells #[u0, u1] t)) w.heap.size t u0 u1 := heap_alloc_new w _
theorem Blk2.same {w w' : World} {g : Nat} {t : TypeId} {u0 u1 : Value} (h : Blk2 w g t u0 u1) (e : w'.heap[g]? = w.heap[g]?) : Blk2 w' g t u0 u1 := e.trans h
theorem Blk2.keep {w w' : World} {B g : Nat} {t : TypeId} {u0 u1 : Value} (h : Blk2 w g t u0 u1) (hb : Below B w w') (hg : g < B) : Blk2 w' g t u0 u1 := (hb.block g hg).trans h
theorem Blk2.alloc {w : World} {g : Nat} {t : TypeId} {u0 u1 : Value} (h : Blk2 w g t u0 u1) (o : Obj) : Blk2 (w.alloc o) g t u0 u1 := h.same (Below.heap_alloc w o g h.lt)
theorem Blk2.grown {w w' : World} {row : Option Nat} {g : Nat} {t : TypeId} {u0 u1 : Value} (h : Blk2 w g t u0 u1) (hg : w.grownBy w' row) (hne : some g ≠ row) : Blk2 w' g t u0 u1 := h.same (hg.block g h.lt hne)
theorem Blk2.cells {w : World} {g : Nat} {t : TypeId} {u0 u1 : Value} (h : Blk2 w g t u0 u1) : w.cell? ⟨g, 0, none⟩ = some u0 ∧ w.cell? ⟨g, 1, none⟩ = some u1 := by
  unfold Blk2 at h
  refine ⟨?_, ?_⟩ <;> (rw [cell_of_row w g _ _ t (0, 0) h]; rfl)
theorem Blk2.free {w : World} {g : Nat} {t : TypeId} {u0 u1 : Value} (h : Blk2 w g t u0 u1) : w.frozen? ⟨g, 0, none⟩ = false ∧ w.frozen? ⟨g, 1, none⟩ = false := by
  unfold Blk2 at h
  refine ⟨?_, ?_⟩ <;> simp [World.frozen?, h]
theorem Blk2.put0 {w : World} {g : Nat} {t : TypeId} {u0 u1 : Value} (h : Blk2 w g t u0 u1) (v : Value) : Blk2 (w.setCell ⟨g, 0, none⟩ v) g t v u1 := by
  unfold Blk2 at h ⊢; rw [heap_set_same h]; rfl
theorem Blk2.put1 {w : World} {g : Nat} {t : TypeId} {u0 u1 : Value} (h : Blk2 w g t u0 u1) (v : Value) : Blk2 (w.setCell ⟨g, 1, none⟩ v) g t u0 v := by
  unfold Blk2 at h ⊢; rw [heap_set_same h]; rfl
theorem Blk2.far {w : World} {g b i : Nat} {t : TypeId} {u0 u1 : Value} (h : Blk2 w g t u0 u1) (hne : g ≠ b) (v : Value) : Blk2 (w.setCell ⟨b, i, none⟩ v) g t u0 u1 := h.same (Below.heap_setCell w ⟨b, i, none⟩ v g hne)

theorem grown_set (W : World) (b i : Nat) (v : Value) : W.grownBy (W.setCell ⟨b, i, none⟩ v) (some b) :=
  ⟨rfl, rfl, rfl, by simp, fun k _ hk => Below.heap_setCell W ⟨b, i, none⟩ v k (fun e => hk (by rw [e]))⟩
theorem own_succ {W : World} {base : Nat} {e : TypeId} {size : Nat} {v : Value} {k : Nat} {xs : List Value} (h : W.ownsRow base e size v (k + 1) xs) : ∃ g cap, v = .slice (some ⟨g, 0, none⟩) (k + 1) cap := by
  rcases h.2 with ⟨_, h0⟩ | ⟨g, cap, cur, rfl, _⟩
  · omega
  · exact ⟨g, cap, rfl⟩
theorem own_far {w : World} {base e size n : Nat} {v : Value} {xs : List Value} (h : w.ownsRow base e size v n xs) (g : Nat) (hg : g < base) : some g ≠ v.ownBlock := fun q => by
  have := own_ge h q.symm
  omega
/-- A node's cells. -/
def ncells (r : Nd) : List Value := [.int .i64 r.up, .int .u8 (r.last.toNat : Int), .int .i64 (r.deep : Int), .int .i64 r.word]
def nvals (l : List Nd) : List Value := l.flatMap ncells
theorem nvals_length (l : List Nd) : (nvals l).length = l.length * 4 := by
  induction l with
  | nil => rfl
  | cons p l ih => simp only [nvals, List.flatMap_cons, List.length_append, List.length_cons] at ih ⊢; rw [ih]; simp [ncells]; omega
theorem nvals_append (l m : List Nd) : nvals (l ++ m) = nvals l ++ nvals m := by simp [nvals]
theorem nvals_at : ∀ (xs : List Nd) (i j : Nat), j < 4 → (h : i < xs.length) → (nvals xs)[i * 4 + j]? = (ncells xs[i])[j]?
  | [], i, j, _, h => absurd h (by simp)
  | x :: xs, 0, j, hj, _ => by
    unfold nvals
    rw [List.flatMap_cons, List.getElem?_append_left (by simp [ncells]; omega)]
    simp
  | x :: xs, i + 1, j, hj, h => by
    have h' : i < xs.length := by simpa using h
    unfold nvals
    rw [List.flatMap_cons, List.getElem?_append_right (by simp [ncells]; omega)]
    have e : (i + 1) * 4 + j - (ncells x).length = i * 4 + j := by simp [ncells]; omega
    rw [e]
    exact nvals_at xs i j hj h'
theorem nvals_one (l : List Nd) : ∀ v ∈ nvals l, v.oneCell' = true := by
  intro v hv
  simp only [nvals, List.mem_flatMap] at hv
  obtain ⟨p, _, hp⟩ := hv
  simp only [ncells, List.mem_cons, List.not_mem_nil, or_false] at hp
  rcases hp with rfl | rfl | rfl | rfl <;> rfl
theorem nvals_word : ∀ (xs : List Nd) (i : Nat) (h : i < xs.length) (x : Int), (nvals xs).set (i * 4 + 3) (.int .i64 x) = nvals (xs.set i ⟨xs[i].up, xs[i].last, xs[i].deep, x⟩)
  | [], i, h, _ => absurd h (by simp)
  | y :: xs, 0, _, x => by simp [nvals, ncells]
  | y :: xs, i + 1, h, x => by
    have h' : i < xs.length := by simpa using h
    have ih := nvals_word xs i h' x
    unfold nvals at ih ⊢
    rw [List.flatMap_cons, List.set_append_right _ _ (by simp [ncells]; omega)]
    have e : (i + 1) * 4 + 3 - (ncells y).length = i * 4 + 3 := by simp [ncells]; omega
    rw [e, ih]
    simp

theorem wf_u8 (c : UInt8) : (Lit.int .u8 (c.toNat : Int)).wf = true := by
  have := c.toNat_lt
  simp [Lit.wf, IntKind.min, IntKind.max, IntKind.bits, IntKind.signed]
  omega
theorem laidOut' : laidOutB Try.prog = true := by kernel_rfl
theorem zero3 (w : World) : (zeroValue 3).run Try.prog w = .ok (.int .i64 0) w := by kernel_rfl
abbrev edge (s : Int) (c : UInt8) : Value := .agg #[.int .i64 s, .int .u8 (c.toNat : Int)]
theorem edge_inj {s s' : Int} {c c' : UInt8} (h : edge s c = edge s' c') : s = s' ∧ c = c' := by
  simp at h
  exact ⟨h.1, UInt8.toNat_inj.1 (by omega)⟩
theorem wf_nat {n : Int} (h0 : -1 ≤ n) (h1 : n ≤ 1000000000000) : (Lit.int .i64 n).wf = true := by
  simp [Lit.wf, IntKind.min, IntKind.max, IntKind.bits, IntKind.signed]
  omega
theorem own_far_block {w : World} {base e size n : Nat} {v : Value} {xs : List Value} (h : w.ownsRow base e size v n xs) {w' : World} (hw : ∀ g, v.ownBlock = some g → w'.heap[g]? = w.heap[g]?) : w'.ownsRow base e size v n xs := by
  refine ⟨h.1, h.2.imp id ?_⟩
  rintro ⟨g, cap, cur, rfl, hg, hh, r⟩
  exact ⟨g, cap, cur, rfl, hg, (hw g rfl).trans hh, r⟩
end Go.Proofs.Ytlepabeibniabaa.Tri
