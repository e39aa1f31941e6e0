/- Texts as strings, a map of texts, and sets, in memory. -/
import Derived.Test.YteggdhfchamffaaBase
import Derived.Test.YteggdhfchamffaaPm
import Derived.Maps.OwnSet
import Derived.Maps.AppendAt
import Derived.Lib.ConvBytes
namespace Go.Proofs.Yteggdhfchamffaa
open Go.RowKit Go.Maps

theorem und4 : Try.prog.underlying 4 = some .bool := by kernel_rfl
theorem und24 : Try.prog.underlying 24 = some (.map 9 4) := by kernel_rfl
theorem keyed : Keyed Try.prog 9 := string_keyed und9
theorem zero4 (w : World) : (zeroValue 4).run Try.prog w = .ok (.bool false) w := by kernel_rfl
theorem info9 : (Try.prog.info? 9).map (fun i => (i.zero, i.size, i.bytes)) = some (some (.string ByteArray.empty), 1, 16) := by kernel_rfl
theorem info22 : (Try.prog.info? 22).map (fun i => (i.zero, i.size, i.bytes)) = some (some (.slice none 0 0), 1, 24) := by kernel_rfl

theorem plainElem_bool_inv {H : Type} {v : Value} {z : DataW H × List MemPlace} (h : plainElem Try.prog 4 v = some z) : ∃ x, v = .bool x ∧ z = (.lit (.bool x), []) := by
  unfold plainElem at h
  rw [und4] at h
  cases v <;> simp at h
  exact ⟨_, rfl, h.symm⟩

/-- Block g is a map of at most n entries that tells of S's texts alone that they came. -/
def MapOf (w : World) (g n : Nat) (S : List (List UInt8)) : Prop :=
  ∃ D : DataW Unit, w.ownsMap Try.prog 9 (plainElem Try.prog 4) g n D ∧ IsMap D ∧ ∀ l, D.atKey (.string l) (.lit (.bool false)) = .lit (.bool (decide (l ∈ S)))
theorem MapOf.lt {w : World} {g n : Nat} {S : List (List UInt8)} (h : MapOf w g n S) : g < w.heap.size := by
  obtain ⟨D, h1, _⟩ := h; exact h1.lt
theorem MapOf.same {w w' : World} {g n : Nat} {S : List (List UInt8)} (h : MapOf w g n S) (e : w'.heap[g]? = w.heap[g]?) : MapOf w' g n S := by
  obtain ⟨D, ⟨es, clock, hb, F, hs, hD⟩, h2⟩ := h
  exact ⟨D, ⟨es, clock, e.trans hb, F, hs, hD⟩, h2⟩
theorem MapOf.keep {w w' : World} {g n : Nat} {S : List (List UInt8)} (h : MapOf w g n S) (hb : Below w.heap.size w w') : MapOf w' g n S := h.same (hb.block g h.lt)
theorem MapOf.grown {w w' : World} {row : Option Nat} {g n : Nat} {S : List (List UInt8)} (h : MapOf w g n S) (hg : w.grownBy w' row) (hne : some g ≠ row) : MapOf w' g n S := h.same (hg.block g h.lt hne)
theorem MapOf.alloc {w : World} {g n : Nat} {S : List (List UInt8)} (h : MapOf w g n S) (o : Obj) : MapOf (w.alloc o) g n S := h.same (Below.heap_alloc w o g h.lt)
theorem MapOf.set {w : World} {g n b i : Nat} {S : List (List UInt8)} (h : MapOf w g n S) (hne : g ≠ b) (v : Value) : MapOf (w.setCell ⟨b, i, none⟩ v) g n S := h.same (Below.heap_setCell w ⟨b, i, none⟩ v g hne)
theorem MapOf.cong {w : World} {g n : Nat} {S T : List (List UInt8)} (h : MapOf w g n S) (e : ∀ x, x ∈ S ↔ x ∈ T) : MapOf w g n T := by
  obtain ⟨D, h1, h2, h3⟩ := h
  refine ⟨D, h1, h2, fun l => ?_⟩
  rw [h3 l, decide_eq_decide.2 (e l)]
theorem MapOf.more {w : World} {g n m : Nat} {S : List (List UInt8)} (h : MapOf w g n S) (hm : n ≤ m) : MapOf w g m S := by
  obtain ⟨D, h1, h2⟩ := h; exact ⟨D, h1.mono hm, h2⟩
theorem map_made (w : World) : MapOf (w.alloc (.map #[] 0)) w.heap.size 0 [] :=
  ⟨.map [], World.ownsMap_made w _ _ _, isMap_empty, fun l => by simp [DataW.atKey]⟩
theorem map_not {w : World} {g n : Nat} {S : List (List UInt8)} (h : MapOf w g n S) {cs : Array Value} {t : TypeId} {fr : Nat × Nat} : w.heap[g]? ≠ some (.cells cs t fr) := by
  obtain ⟨D, ⟨es, clock, hb, _⟩, _⟩ := h
  intro e; rw [hb] at e; cases e
theorem data_str (l : List UInt8) : (str l).data.toList = l := rfl
theorem key_str (l : List UInt8) (hl : l.length ≤ maxLen) : keyOf Try.prog 9 (.string (str l)) = some (.string l) := Go.WideMaps.keyOf_string_mk und9 (s := str l) (by rw [str_size]; exact hl)

/-- The question, at the operation. -/
theorem look_map {w : World} {ops : Array Oper} {rest : List Oper} {o : Oper} {a : Act} {Q : Exit → Act → World → Prop} (hgd : o.guard = none) (m x : Operand) (ho : o.op = Op.lookup 24 m x false)
    (g n : Nat) (S : List (List UInt8)) (hm : a.eval m = .map (some g)) (hown : MapOf w g n S) (l : List UInt8) (hx : a.eval x = .string (str l)) (hl : l.length ≤ maxLen)
    (hK : wpList Try.prog ops Q rest (a.put o.dst (.bool (decide (l ∈ S)))) w) : wpList Try.prog ops Q (o :: rest) a w := by
  refine wpList_plain hgd fun K' hK' => ?_
  obtain ⟨D, h1, _, h3⟩ := hown
  obtain ⟨v, ps, hrun, hv⟩ := h1.lookup keyed und24 (zero4 w) (plainElem_bool und4 false) (key_str l hl)
  obtain ⟨b, rfl, hb⟩ := plainElem_bool_inv hv
  have hb' : decide (l ∈ S) = b := by
    have := congrArg Prod.fst hb
    simp only at this
    rw [h3 l] at this
    injection this with e
    injection e
  rw [hb'] at hK
  unfold Oper.wp
  simp [execOp, ho, hm, hx, hrun, Result.andThen]
  exact hK' _ _ hK
/-- .. of a map that isn't there. -/
theorem look_none {w : World} {ops : Array Oper} {rest : List Oper} {o : Oper} {a : Act} {Q : Exit → Act → World → Prop} (hgd : o.guard = none) (m x : Operand) (ho : o.op = Op.lookup 24 m x false)
    (hm : a.eval m = .map none) (l : List UInt8) (hx : a.eval x = .string (str l)) (hl : l.length ≤ maxLen)
    (hK : wpList Try.prog ops Q rest (a.put o.dst (.bool false)) w) : wpList Try.prog ops Q (o :: rest) a w := by
  refine wpList_plain hgd fun K' hK' => ?_
  have hrun := Maps.look_nil (w := w) false keyed und24 (zero4 w) (key_str l hl)
  unfold Oper.wp
  simp [execOp, ho, hm, hx, hrun, Result.andThen]
  exact hK' _ _ hK
/-- A text stored. -/
theorem put_map {w : World} {ops : Array Oper} {rest : List Oper} {o : Oper} {a : Act} {Q : Exit → Act → World → Prop} (hgd : o.guard = none) (m x v : Operand) (ho : o.op = Op.mapUpdate 24 m x v)
    (g n : Nat) (S : List (List UInt8)) (hm : a.eval m = .map (some g)) (hown : MapOf w g n S) (l : List UInt8) (hx : a.eval x = .string (str l)) (hv : a.eval v = .bool true) (hl : l.length ≤ maxLen) (hn : n < maxLen)
    (hK : ∀ w', MapOf w' g (n + 1) (S ++ [l]) → w.grownBy w' (some g) → wpList Try.prog ops Q rest (a.put o.dst undef) w') : wpList Try.prog ops Q (o :: rest) a w := by
  obtain ⟨D, h1, h2, h3⟩ := hown
  refine wpList_mapUpdate_own w hgd m x v 24 ho 9 4 keyed und24 (plainElem Try.prog 4) g n D hm h1 hn _ _ _ hx hv (key_str l hl) (.lit (.bool true)) [] (plainElem_bool und4 true) fun w' h4 h5 => hK w' ⟨_, h4, h2.put _ _, fun y => ?_⟩ h5
  by_cases hy : y = l
  · subst hy
    rw [atKey_put_same h2 (by trivial)]
    simp
  · rw [atKey_put_other (by simpa using hy), h3 y]
    simp [hy]

/-- A slice of strings that reads as xs. -/
def Ss (W : World) (a : Option Addr) (xs : List (List UInt8)) : Prop :=
  0 < xs.length → ∃ b off, a = some ⟨b, off, none⟩ ∧ b < W.heap.size ∧ ∀ i (h : i < xs.length), W.cell? ⟨b, off + i, none⟩ = some (.string (str xs[i]))
theorem ss_nil (w : World) (a : Option Addr) : Ss w a [] := fun h => absurd h (by simp)
theorem Ss.keep {W W' : World} {a : Option Addr} {xs : List (List UInt8)} (h : Ss W a xs) (hb : Below W.heap.size W W') : Ss W' a xs := fun h0 => by
  obtain ⟨b, off, e, hlt, hc⟩ := h h0
  exact ⟨b, off, e, Nat.lt_of_lt_of_le hlt hb.size, fun i hi => (hb.cell (p := ⟨b, _, none⟩) hlt).trans (hc i hi)⟩
/-- Strings, one behind the other. -/
def svals (xs : List (List UInt8)) : List Value := xs.map fun x => Value.string (str x)
theorem svals_snoc (xs : List (List UInt8)) (x : List UInt8) : svals (xs ++ [x]) = svals xs ++ [.string (str x)] := by simp [svals]
theorem svals_one (xs : List (List UInt8)) : ∀ v ∈ svals xs, v.oneCell' = true := by
  intro v hv
  simp only [svals, List.mem_map] at hv
  obtain ⟨c, _, rfl⟩ := hv
  rfl
theorem own_ss {w : World} {base n : Nat} {v : Value} {xs : List (List UInt8)} (h : w.ownsRow base 9 1 v n (svals xs)) : ∃ a cap, v = .slice a xs.length cap ∧ Ss w a xs ∧ xs.length ≤ cap ∧ (a = none → cap = 0) := by
  have hn : xs.length = n := by have := h.1; simpa [svals] using this
  rcases h.2 with ⟨rfl, h0⟩ | ⟨g, cap, cur, rfl, hg, hh, hnc, _, hs, ht⟩
  · exact ⟨none, 0, by rw [hn, h0], (fun h1 => by omega), by omega, fun _ => rfl⟩
  · refine ⟨some ⟨g, 0, none⟩, cap, by rw [hn], fun _ => ⟨g, 0, rfl, txt_lt hh, fun i hi => ?_⟩, by omega, fun e => by cases e⟩
    have e : (cur.toList.take (n * 1))[i]? = (svals xs)[i]? := by rw [ht]
    rw [List.getElem?_take_of_lt (by omega), Array.getElem?_toList] at e
    rw [Nat.zero_add, cell_of_row w g _ _ 9 (0, 0) hh, e]
    simp [svals, hi]
theorem cell_new1 (w : World) (u : Value) (t : TypeId) : ∀ j x, [u][j]? = some x → (w.alloc (.cells #[u] t)).cell? ((⟨w.heap.size, 0, none⟩ : Addr).add j) = some x := by
  intro j x h
  have ea : (⟨w.heap.size, 0, none⟩ : Addr).add j = ⟨w.heap.size, j, none⟩ := by unfold Addr.add; split <;> simp_all
  rw [ea, cell_of_row _ w.heap.size _ _ t (0, 0) (heap_alloc_new w _)]
  simpa using h
/-- A string appended to a row of the call's own. -/
theorem app_ss {w : World} {ops : Array Oper} {rest : List Oper} {o : Oper} {a : Act} {Q : Exit → Act → World → Prop} (hgd : o.guard = none) (s x : Operand)
    (ho : o.op = .call { callee := .builtin .append, args := #[s, x], argTypes := #[25, 25] })
    (base : Nat) (v : Value) (n : Nat) (xs : List (List UInt8)) (y : List UInt8) (hs : a.eval s = v) (hown : w.ownsRow base 9 1 v n (svals xs))
    (ad : Addr) (hx : a.eval x = .slice (some ad) 1 1) (hc : ∀ j u, [Value.string (str y)][j]? = some u → w.cell? (ad.add j) = some u)
    (hn : n ≤ 6000000000000) (hbase : base ≤ w.heap.size)
    (h : ∀ v' w', w'.ownsRow base 9 1 v' (n + 1) (svals (xs ++ [y])) → w.grownBy w' v.ownBlock → wpList Try.prog ops Q rest (a.put o.dst v') w') : wpList Try.prog ops Q (o :: rest) a w := by
  obtain ⟨i0, hi, hz0, hz1, hz2⟩ := info_parts info9
  rw [svals_snoc] at h
  exact wpList_append_own w hgd s x 25 ho base 9 i0 (.string ByteArray.empty) 1 16 Try.underlying25 hi hz0 hz1 hz2 rfl (by decide) v n (svals xs) hs hown ad 1 1 [.string (str y)] hx rfl hc (by simp [Value.oneCell']) (by unfold maxLen; omega) (by omega) hbase (fun v' w' h1 h2 _ => h v' w' h1 h2)

/-- Slices of bytes, one behind the other. -/
def tvals (xs : List TxV) : List Value := xs.map fun x => Value.slice x.a x.text.length x.cap
theorem tvals_snoc (xs : List TxV) (x : TxV) : tvals (xs ++ [x]) = tvals xs ++ [.slice x.a x.text.length x.cap] := by simp [tvals]
theorem own_ts {w : World} {base n : Nat} {v : Value} {xs : List TxV} (h : w.ownsRow base 22 1 v n (tvals xs)) (ht : ∀ x ∈ xs, Bs w w.heap.size x.a x.text) : ∃ a cap, v = .slice a xs.length cap ∧ Ts w a xs ∧ xs.length ≤ cap ∧ (a = none → cap = 0) := by
  have hn : xs.length = n := by have := h.1; simpa [tvals] using this
  rcases h.2 with ⟨rfl, h0⟩ | ⟨g, cap, cur, rfl, hg, hh, hnc, _, hs, htk⟩
  · exact ⟨none, 0, by rw [hn, h0], ⟨(fun h1 => by omega), ht⟩, by omega, fun _ => rfl⟩
  · refine ⟨some ⟨g, 0, none⟩, cap, by rw [hn], ⟨fun _ => ⟨g, 0, rfl, txt_lt hh, fun i hi => ?_⟩, ht⟩, by omega, fun e => by cases e⟩
    have e : (cur.toList.take (n * 1))[i]? = (tvals xs)[i]? := by rw [htk]
    rw [List.getElem?_take_of_lt (by omega), Array.getElem?_toList] at e
    rw [Nat.zero_add, cell_of_row w g _ _ 22 (0, 0) hh, e]
    simp [tvals, hi]
/-- A call that hands out texts, each in a block of its own, and leaves what was there as it was. -/
def GivesTexts (w : World) (ts : List (List UInt8)) (e : Ending) (w' : World) : Prop :=
  ∃ (a : Option Addr) (cap : Nat) (xs : List TxV), e = .returned (.slice a ts.length cap) ∧ xs.map TxV.text = ts ∧ Ts w' a xs ∧ Below w.heap.size w w'

/-- A text that lies in a block of its own, whatever of it is frozen. -/
def Txf (w : World) (s : Nat) (a : Option Addr) (l : List UInt8) : Prop :=
  0 < l.length → ∃ b cs fr, a = some ⟨b, 0, none⟩ ∧ s ≤ b ∧ w.heap[b]? = some (.cells cs 5 fr) ∧ ∀ i (h : i < l.length), cs[i]? = some (.int .u8 (l[i].toNat : Int))
theorem Txt.txf {w : World} {s : Nat} {a : Option Addr} {l : List UInt8} (h : Txt w s a l) : Txf w s a l := fun h0 => by
  obtain ⟨b, cs, e, hs, hh, hc⟩ := h h0
  exact ⟨b, cs, _, e, hs, hh, hc⟩
theorem Txf.bs {w : World} {s : Nat} {a : Option Addr} {l : List UInt8} (h : Txf w s a l) : Bs w w.heap.size a l := fun h0 => by
  obtain ⟨b, cs, fr, rfl, _, hh, hc⟩ := h h0
  refine ⟨b, 0, rfl, txt_lt hh, fun i hi => ?_⟩
  rw [Nat.zero_add, cell_of_row w b _ _ 5 fr hh]
  exact hc i hi
theorem Txf.less {w : World} {s s' : Nat} {a : Option Addr} {l : List UInt8} (h : Txf w s a l) (hs : s' ≤ s) : Txf w s' a l := fun h0 => by
  obtain ⟨b, cs, fr, e, hb, hh, hc⟩ := h h0
  exact ⟨b, cs, fr, e, by omega, hh, hc⟩
theorem Txf.keep {w w' : World} {s : Nat} {a : Option Addr} {l : List UInt8} (h : Txf w s a l) (hb : Below w.heap.size w w') : Txf w' s a l := fun h0 => by
  obtain ⟨b, cs, fr, e, hs, hh, hc⟩ := h h0
  exact ⟨b, cs, fr, e, hs, (hb.block b (txt_lt hh)).trans hh, hc⟩
theorem txf_grown {X Y : World} {row : Option Nat} {s : Nat} {a : Option Addr} {l : List UInt8} (h : Txf X s a l) (hg : X.grownBy Y row) (hr : ∀ r cs fr, row = some r → X.heap[r]? ≠ some (.cells cs 5 fr)) : Txf Y s a l := fun h0 => by
  obtain ⟨b, cs, fr, e, hs, hh, hc⟩ := h h0
  exact ⟨b, cs, fr, e, hs, (hg.block b (txt_lt hh) (fun e' => hr b cs _ e'.symm hh)).trans hh, hc⟩
/-- A string's bytes. -/
theorem conv_text (w : World) (l : List UInt8) : ∃ cap w', (convert 9 22 (.string (str l))).run Try.prog w = .ok (.slice (some ⟨w.heap.size, 0, none⟩) l.length cap) w' ∧ Txf w' w.heap.size (some ⟨w.heap.size, 0, none⟩) l ∧ Below w.heap.size w w' := by
  refine ⟨grownCap w (str l).size 0 5, Lib.bytesWorld w 5 (str l), ?_, ?_, ?_⟩
  · rw [Lib.run_convert_string_bytes w 9 22 5 (str l) und9 und22 und5, str_size]
  · intro _
    refine ⟨_, _, _, rfl, Nat.le_refl _, Lib.bytesWorld_at_new w 5 (str l), fun i hi => ?_⟩
    unfold Lib.bytesCells
    rw [Array.getElem?_append_left (by simp [str, hi])]
    simp [str, hi]
  · refine ⟨rfl, rfl, rfl, by rw [Lib.bytesWorld_size]; omega, fun k hk => Lib.bytesWorld_at_old w 5 (str l) k hk⟩
/-- A text appended to a row of the call's own. -/
theorem app_ts {w : World} {ops : Array Oper} {rest : List Oper} {o : Oper} {a : Act} {Q : Exit → Act → World → Prop} (hgd : o.guard = none) (s x : Operand)
    (ho : o.op = .call { callee := .builtin .append, args := #[s, x], argTypes := #[39, 39] })
    (base : Nat) (v : Value) (n : Nat) (xs : List TxV) (y : TxV) (hs : a.eval s = v) (hown : w.ownsRow base 22 1 v n (tvals xs))
    (ad : Addr) (hx : a.eval x = .slice (some ad) 1 1) (hc : ∀ j u, [Value.slice y.a y.text.length y.cap][j]? = some u → w.cell? (ad.add j) = some u)
    (hn : n ≤ 1000000000) (hbase : base ≤ w.heap.size)
    (h : ∀ v' w', w'.ownsRow base 22 1 v' (n + 1) (tvals (xs ++ [y])) → w.grownBy w' v.ownBlock → wpList Try.prog ops Q rest (a.put o.dst v') w') : wpList Try.prog ops Q (o :: rest) a w := by
  obtain ⟨i0, hi, hz0, hz1, hz2⟩ := info_parts info22
  rw [tvals_snoc] at h
  exact wpList_append_own w hgd s x 39 ho base 22 i0 (.slice none 0 0) 1 24 Try.underlying39 hi hz0 hz1 hz2 rfl (by decide) v n (tvals xs) hs hown ad 1 1 [.slice y.a y.text.length y.cap] hx rfl hc (by simp [Value.oneCell']) (by unfold maxLen; omega) (by omega) hbase (fun v' w' h1 h2 _ => h v' w' h1 h2)

/-- A block of two cells that is known whole. -/
def Blk2 (w : World) (g : Nat) (t : TypeId) (u0 u1 : Value) : Prop := w.heap[g]? = some (.cells #[u0, u1] t (0, 0))
theorem Blk2.lt {w : World} {g : Nat} {t : TypeId} {u0 u1 : Value} (h : Blk2 w g t u0 u1) : g < w.heap.size := txt_lt h
theorem Blk2.new (w : World) (t : TypeId) (u0 u1 : Value) : Blk2 (w.alloc (.cells #[u0, u1] t)) w.heap.size t u0 u1 := heap_alloc_new w _
theorem Blk2.same {w w' : World} {g : Nat} {t : TypeId} {u0 u1 : Value} (h : Blk2 w g t u0 u1) (e : w'.heap[g]? = w.heap[g]?) : Blk2 w' g t u0 u1 := e.trans h
theorem Blk2.keep {w w' : World} {B g : Nat} {t : TypeId} {u0 u1 : Value} (h : Blk2 w g t u0 u1) (hb : Below B w w') (hg : g < B) : Blk2 w' g t u0 u1 := (hb.block g hg).trans h
theorem Blk2.alloc {w : World} {g : Nat} {t : TypeId} {u0 u1 : Value} (h : Blk2 w g t u0 u1) (o : Obj) : Blk2 (w.alloc o) g t u0 u1 := h.same (Below.heap_alloc w o g h.lt)
theorem Blk2.grown {w w' : World} {row : Option Nat} {g : Nat} {t : TypeId} {u0 u1 : Value} (h : Blk2 w g t u0 u1) (hg : w.grownBy w' row) (hne : some g ≠ row) : Blk2 w' g t u0 u1 := h.same (hg.block g h.lt hne)
theorem Blk2.cells {w : World} {g : Nat} {t : TypeId} {u0 u1 : Value} (h : Blk2 w g t u0 u1) : w.cell? ⟨g, 0, none⟩ = some u0 ∧ w.cell? ⟨g, 1, none⟩ = some u1 := by
  unfold Blk2 at h
  refine ⟨?_, ?_⟩ <;> (rw [cell_of_row w g _ _ t (0, 0) h]; rfl)
theorem Blk2.free {w : World} {g : Nat} {t : TypeId} {u0 u1 : Value} (h : Blk2 w g t u0 u1) : w.frozen? ⟨g, 0, none⟩ = false ∧ w.frozen? ⟨g, 1, none⟩ = false := by
  unfold Blk2 at h
  refine ⟨?_, ?_⟩ <;> simp [World.frozen?, h]
theorem Blk2.put0 {w : World} {g : Nat} {t : TypeId} {u0 u1 : Value} (h : Blk2 w g t u0 u1) (v : Value) : Blk2 (w.setCell ⟨g, 0, none⟩ v) g t v u1 := by
  unfold Blk2 at h ⊢; rw [heap_set_same h]; rfl
theorem Blk2.put1 {w : World} {g : Nat} {t : TypeId} {u0 u1 : Value} (h : Blk2 w g t u0 u1) (v : Value) : Blk2 (w.setCell ⟨g, 1, none⟩ v) g t u0 v := by
  unfold Blk2 at h ⊢; rw [heap_set_same h]; rfl
theorem Blk2.far {w : World} {g b i : Nat} {t : TypeId} {u0 u1 : Value} (h : Blk2 w g t u0 u1) (hne : g ≠ b) (v : Value) : Blk2 (w.setCell ⟨b, i, none⟩ v) g t u0 u1 := h.same (Below.heap_setCell w ⟨b, i, none⟩ v g hne)

theorem grown_set (W : World) (b i : Nat) (v : Value) : W.grownBy (W.setCell ⟨b, i, none⟩ v) (some b) :=
  ⟨rfl, rfl, rfl, by simp, fun k _ hk => Below.heap_setCell W ⟨b, i, none⟩ v k (fun e => hk (by rw [e]))⟩
theorem own_succ {W : World} {base : Nat} {e : TypeId} {size : Nat} {v : Value} {k : Nat} {xs : List Value} (h : W.ownsRow base e size v (k + 1) xs) : ∃ g cap, v = .slice (some ⟨g, 0, none⟩) (k + 1) cap := by
  rcases h.2 with ⟨_, h0⟩ | ⟨g, cap, cur, rfl, _⟩
  · omega
  · exact ⟨g, cap, rfl⟩
theorem own_not_map {w : World} {base n g m : Nat} {v : Value} {xs : List Value} {S : List (List UInt8)} (h : w.ownsRow base 9 1 v n xs) (hm : MapOf w g m S) : some g ≠ v.ownBlock := fun e => by
  obtain ⟨_, _, cs, hh⟩ := own_block_lt h e.symm
  exact map_not hm hh
theorem own_far {w : World} {base e size n : Nat} {v : Value} {xs : List Value} (h : w.ownsRow base e size v n xs) (g : Nat) (hg : g < base) : some g ≠ v.ownBlock := fun q => by
  have := own_ge h q.symm
  omega
/-- What a set's fields tell: the texts that came, and those that aren't empty, in their order. -/
def IsSet (W : World) (m : Option Nat) (a : Option Addr) (came : List (List UInt8)) : Prop :=
  (m = none ∧ came = [] ∨ ∃ g n, m = some g ∧ MapOf W g n came) ∧ Ss W a (pats came)
theorem IsSet.keep {W W' : World} {m : Option Nat} {a : Option Addr} {came : List (List UInt8)} (h : IsSet W m a came) (hb : Below W.heap.size W W') : IsSet W' m a came := by
  refine ⟨h.1.imp id ?_, h.2.keep hb⟩
  rintro ⟨g, n, e, hm⟩
  exact ⟨g, n, e, hm.keep hb⟩
theorem isSet_zero (W : World) : IsSet W none none [] := ⟨.inl ⟨rfl, rfl⟩, ss_nil _ _⟩
theorem cell_same {W W' : World} {b o : Nat} (e : W'.heap[b]? = W.heap[b]?) : W'.cell? ⟨b, o, none⟩ = W.cell? ⟨b, o, none⟩ := by
  unfold World.cell?
  rw [e]
theorem Ss.far {W : World} {a : Option Addr} {xs : List (List UInt8)} {g j : Nat} {t : TypeId} {u0 u1 : Value} (h : Ss W a xs) (hk : Blk2 W g t u0 u1) (n0 : ∀ s, u0 ≠ .string s) (n1 : ∀ s, u1 ≠ .string s) (v : Value) : Ss (W.setCell ⟨g, j, none⟩ v) a xs := fun h0 => by
  obtain ⟨b, off, e, hlt, hc⟩ := h h0
  have hne : b ≠ g := by
    rintro rfl
    have h1 := hc 0 h0
    rw [cell_of_row W b _ _ t (0, 0) hk] at h1
    rcases off with _ | _ | off
    · exact n0 _ (by simpa using h1)
    · exact n1 _ (by simpa using h1)
    · simp at h1
  exact ⟨b, off, e, by simpa using hlt, fun i hi => (cell_same (Below.heap_setCell W ⟨g, j, none⟩ v b hne)).trans (hc i hi)⟩
theorem IsSet.far {W : World} {m : Option Nat} {a : Option Addr} {came : List (List UInt8)} {g j : Nat} {t : TypeId} {u0 u1 : Value} (h : IsSet W m a came) (hk : Blk2 W g t u0 u1) (n0 : ∀ s, u0 ≠ .string s) (n1 : ∀ s, u1 ≠ .string s) (v : Value) : IsSet (W.setCell ⟨g, j, none⟩ v) m a came := by
  refine ⟨h.1.imp id ?_, h.2.far hk n0 n1 v⟩
  rintro ⟨b, n, e, hm⟩
  exact ⟨b, n, e, hm.set (fun e => map_not hm (e ▸ hk)) v⟩
/-- A call that hands out a set, and leaves what was there as it was. -/
def GivesSet (w : World) (came : List (List UInt8)) (e : Ending) (w' : World) : Prop :=
  ∃ m a cap, e = .returned (.agg #[.map m, .slice a (pats came).length cap]) ∧ IsSet w' m a came ∧ Below w.heap.size w w'
/-- A set's memory lies from block s on. -/
def From (s : Nat) (m : Option Nat) (a : Option Addr) : Prop := (∀ g, m = some g → s ≤ g) ∧ ∀ ad : Addr, a = some ad → s ≤ ad.block
theorem From.less {s s' : Nat} {m : Option Nat} {a : Option Addr} (h : From s m a) (hs : s' ≤ s) : From s' m a := ⟨fun g e => Nat.le_trans hs (h.1 g e), fun ad e => Nat.le_trans hs (h.2 ad e)⟩
theorem own_from {w : World} {base e size n k c : Nat} {a : Option Addr} {xs : List Value} (h : w.ownsRow base e size (.slice a n c) k xs) : ∀ ad : Addr, a = some ad → base ≤ ad.block := by
  rintro ad rfl
  rcases h.2 with ⟨e, _⟩ | ⟨g, cap, cur, e, hg, _⟩
  · cases e
  · cases e; exact hg
theorem IsSet.grown {W W' : World} {row : Option Nat} {s : Nat} {m : Option Nat} {a : Option Addr} {came : List (List UInt8)} (h : IsSet W m a came) (hf : From s m a) (hg : W.grownBy W' row) (hr : ∀ r, row = some r → r < s) : IsSet W' m a came := by
  refine ⟨h.1.imp id ?_, fun h0 => ?_⟩
  · rintro ⟨g, n, rfl, hm⟩
    refine ⟨g, n, rfl, hm.grown hg fun e => ?_⟩
    have h1 := hr g e.symm
    have h2 := hf.1 g rfl
    omega
  · obtain ⟨b, off, rfl, hlt, hc⟩ := h.2 h0
    refine ⟨b, off, rfl, Nat.lt_of_lt_of_le hlt hg.size, fun i hi => (cell_same (hg.block b hlt fun e => ?_)).trans (hc i hi)⟩
    have h1 := hr b e.symm
    have h2 := hf.2 _ rfl
    simp only at h2
    omega
/-- A call that hands out a set in new memory. -/
def GivesSetF (w : World) (came : List (List UInt8)) (e : Ending) (w' : World) : Prop :=
  ∃ m a cap, e = .returned (.agg #[.map m, .slice a (pats came).length cap]) ∧ IsSet w' m a came ∧ Below w.heap.size w w' ∧ From w.heap.size m a
/-- The question, of a set. -/
theorem look_set {w : World} {ops : Array Oper} {rest : List Oper} {o : Oper} {a : Act} {Q : Exit → Act → World → Prop} (hgd : o.guard = none) (mo x : Operand) (ho : o.op = Op.lookup 24 mo x false)
    (m : Option Nat) (ad : Option Addr) (came : List (List UInt8)) (hm : a.eval mo = .map m) (hset : IsSet w m ad came) (l : List UInt8) (hx : a.eval x = .string (str l)) (hl : l.length ≤ maxLen)
    (hK : wpList Try.prog ops Q rest (a.put o.dst (.bool (decide (l ∈ came)))) w) : wpList Try.prog ops Q (o :: rest) a w := by
  rcases hset.1 with ⟨rfl, rfl⟩ | ⟨g, n, rfl, h⟩
  · exact look_none hgd mo x ho hm l hx hl (by simpa using hK)
  · exact look_map hgd mo x ho g n came hm h l hx hl hK
end Go.Proofs.Yteggdhfchamffaa
