/- Package by package: Base Reg. -/
import Derived.Test.YtlmncljnnpnjmaaRows
import Derived.Below
import Derived.BigQuiet
import Derived.Deep.QuietTactic
import Derived.Deep.RegionHeld
import Derived.Deep.RegionWith
import Derived.Laws.AppendOwnNone
import Derived.Laws.Externs
import Derived.Laws.IdiomStrings
import Derived.Laws.MakeOwn
import Derived.Lib.BytesEntry
import Derived.Lib.Hide
import Derived.Lib.SlBytesConst
import Derived.LoopTactic
import Derived.Outline
import Derived.OwnWalk
import Derived.ProofKit
import Derived.Shelf.Slices.Clone
import Derived.WalkKit
import Derived.WalkLawsBesides
/- Bytes, texts and rows in memory: what every walk here leans on. -/
namespace Go.Proofs.Ytlmncljnnpnjmaa
open Go.RowKit
set_option maxRecDepth 100000

theorem ret_int {k : IntKind} {a b : Int} (h : a = b) : Ending.returned (.int k a) = .returned (.int k b) := by rw [h]
theorem ret_bool {a b : Bool} (h : a = b) : Ending.returned (.bool a) = .returned (.bool b) := by rw [h]
theorem below_drews {B : Nat} {a w : World} (h : Below B a w) (n : Nat) : Below B a (w.drewN n) := ⟨h.os, h.tape, h.output, h.size, h.block⟩
/-- A slice of bytes that reads as l, below block B. -/
def Bs (w : World) (B : Nat) (a : Option Addr) (l : List UInt8) : Prop :=
  0 < l.length → ∃ b off, a = some ⟨b, off, none⟩ ∧ b < B ∧ ∀ i (h : i < l.length), w.cell? ⟨b, off + i, none⟩ = some (.int .u8 (l[i].toNat : Int))
theorem Bs.keep {w w' : World} {B : Nat} {a : Option Addr} {l : List UInt8} (h : Bs w B a l) (hb : Below B w w') : Bs w' B a l := fun h0 => by
  obtain ⟨b, off, e, hlt, hc⟩ := h h0
  exact ⟨b, off, e, hlt, fun i hi => (hb.cell (p := ⟨b, off + i, none⟩) hlt).trans (hc i hi)⟩
theorem Bs.more {w : World} {B B' : Nat} {a : Option Addr} {l : List UInt8} (h : Bs w B a l) (hB : B ≤ B') : Bs w B' a l := fun h0 => by
  obtain ⟨b, off, e, hlt, hc⟩ := h h0
  exact ⟨b, off, e, by omega, hc⟩
theorem bs_nil (w : World) (B : Nat) (a : Option Addr) : Bs w B a [] := fun h => absurd h (by simp)
theorem und22 : Try.prog.underlying 33 = some (.slice 5) := by kernel_rfl
theorem und5 : Try.prog.underlying 5 = some (.int .u8) := by kernel_rfl
theorem und9 : Try.prog.underlying 9 = some .string := by kernel_rfl
theorem info5 : (Try.prog.info? 5).map (fun i => (i.zero, i.size, i.bytes)) = some (some (.int .u8 0), 1, 1) := by kernel_rfl
theorem take_snoc (l : List UInt8) (k : Nat) (h : k < l.length) : l.take (k + 1) = l.take k ++ [l[k]] := by
  rw [List.take_succ_eq_append_getElem h]
theorem u8_ten (c : UInt8) : ((c.toNat : Int) == 10) = decide (c = 10) := by
  rw [Bool.eq_iff_iff]; simp only [beq_iff_eq, decide_eq_true_eq]
  constructor
  · intro h; apply UInt8.toNat_inj.1; show c.toNat = 10; omega
  · rintro rfl; rfl
theorem u8_ne_ten (c : UInt8) : ((c.toNat : Int) != 10) = decide (c ≠ 10) := by
  rw [bne, u8_ten]; simp
/-- A callee that leaves the world alone, inside a region that only reads. -/
theorem quietly {P : Program} {f : FuncId} {args : Array Value} {w : World} {n : Nat} {v : Value}
    (h : Calls P f args (w.drewN n) fun e w' => e = .returned v ∧ w.drewN n = w') : Calls P f args (w.drewN n) fun e w'' => e = .returned v ∧ ∃ m, w'' = w.drewN m :=
  h.mono fun _ _ ⟨he, hm⟩ => ⟨he, n, hm.symm⟩
/-- A text out of its bytes. -/
def str (l : List UInt8) : ByteArray := ⟨l.toArray⟩
theorem str_size (l : List UInt8) : (str l).size = l.length := by simp [str, ByteArray.size]
theorem str_at (l : List UInt8) (k : Nat) (h : k < l.length) : (str l)[k]'(by rw [str_size]; exact h) = l[k] := rfl
theorem str_inj {l m : List UInt8} (h : str l = str m) : l = m := by
  have := congrArg (fun s : ByteArray => s.data.toList) h
  simpa [str] using this
theorem bytesOf_nums (l : List UInt8) : Lib.bytesOf (l.map fun c => (c.toNat : Int)) = l := by
  induction l with
  | nil => rfl
  | cons c l ih => simp [Lib.bytesOf] at ih ⊢; exact ih
theorem getD_nums (l : List UInt8) (i : Nat) (h : i < l.length) : (l.map fun c => (c.toNat : Int)).getD i 0 = (l[i].toNat : Int) := by
  simp [List.getD, h]
/-- The cells of a text. -/
def vals (l : List UInt8) : List Value := l.map fun c => Value.int .u8 (c.toNat : Int)
theorem vals_length (l : List UInt8) : (vals l).length = l.length := by simp [vals]
theorem own_keep {w w' : World} {base e size n : Nat} {v : Value} {xs : List Value} (h : w.ownsRow base e size v n xs) (hb : Below w.heap.size w w') : w'.ownsRow base e size v n xs := by
  refine ⟨h.1, h.2.imp id ?_⟩
  rintro ⟨g, cap, cur, hv, hg, hh, r⟩
  refine ⟨g, cap, cur, hv, hg, (hb.block g ?_).trans hh, r⟩
  rcases Nat.lt_or_ge g w.heap.size with hlt | hge
  · exact hlt
  · rw [Array.getElem?_eq_none hge] at hh; cases hh
/-- A text that lies in a block of its own: a block of bytes, from its head on. -/
def Txt (w : World) (s : Nat) (a : Option Addr) (l : List UInt8) : Prop :=
  0 < l.length → ∃ b cs, a = some ⟨b, 0, none⟩ ∧ s ≤ b ∧ w.heap[b]? = some (.cells cs 5 (0, 0)) ∧ ∀ i (h : i < l.length), cs[i]? = some (.int .u8 (l[i].toNat : Int))
theorem txt_lt {w : World} {b : Nat} {o : Obj} (h : w.heap[b]? = some o) : b < w.heap.size := (Array.getElem?_eq_some_iff.1 h).1
theorem Txt.bs {w : World} {s : Nat} {a : Option Addr} {l : List UInt8} (h : Txt w s a l) : Bs w w.heap.size a l := fun h0 => by
  obtain ⟨b, cs, rfl, _, hh, hc⟩ := h h0
  refine ⟨b, 0, rfl, txt_lt hh, fun i hi => ?_⟩
  rw [Nat.zero_add, cell_of_row w b _ _ 5 (0, 0) hh]
  exact hc i hi
theorem Txt.keep {w w' : World} {s : Nat} {a : Option Addr} {l : List UInt8} (h : Txt w s a l) (hb : Below w.heap.size w w') : Txt w' s a l := fun h0 => by
  obtain ⟨b, cs, e, hs, hh, hc⟩ := h h0
  exact ⟨b, cs, e, hs, (hb.block b (txt_lt hh)).trans hh, hc⟩
theorem Txt.less {w : World} {s s' : Nat} {a : Option Addr} {l : List UInt8} (h : Txt w s a l) (hs : s' ≤ s) : Txt w s' a l := fun h0 => by
  obtain ⟨b, cs, e, hb, hh, hc⟩ := h h0
  exact ⟨b, cs, e, by omega, hh, hc⟩
theorem own_txt {w : World} {base n : Nat} {v : Value} {l : List UInt8} (h : w.ownsRow base 5 1 v n (vals l)) : ∃ a cap, v = .slice a l.length cap ∧ Txt w base a l ∧ l.length ≤ cap ∧ (a = none → cap = 0) := by
  have hn : l.length = n := by have := h.1; simpa [vals] using this
  rcases h.2 with ⟨rfl, h0⟩ | ⟨g, cap, cur, rfl, hg, hh, hnc, _, hs, ht⟩
  · exact ⟨none, 0, by rw [hn, h0], (fun h1 => by omega), by omega, fun _ => rfl⟩
  · refine ⟨some ⟨g, 0, none⟩, cap, by rw [hn], fun _ => ⟨g, cur, rfl, hg, hh, fun i hi => ?_⟩, by omega, fun e => by cases e⟩
    have e : (cur.toList.take (n * 1))[i]? = (vals l)[i]? := by rw [ht]
    rw [List.getElem?_take_of_lt (by omega)] at e
    rw [← Array.getElem?_toList, e]
    simp [vals, hi]
/-- A call that hands out a text in a block of its own, and leaves what was there as it was. -/
def GivesText (w : World) (l : List UInt8) (e : Ending) (w' : World) : Prop :=
  ∃ a cap, e = .returned (.slice a l.length cap) ∧ Txt w' w.heap.size a l ∧ l.length ≤ cap ∧ (a = none → cap = 0) ∧ Below w.heap.size w w'
theorem new_cells (w : World) (u0 u1 u2 : Value) (t : TypeId) : (w.alloc (.cells #[u0, u1, u2] t)).heap[w.heap.size]? = some (.cells #[u0, u1, u2] t (0, 0)) := heap_alloc_new w _
theorem heap_set_same {w : World} {g i : Nat} {cs : Array Value} {t : TypeId} {fr : Nat × Nat} {u : Value} (h : w.heap[g]? = some (.cells cs t fr)) :
    (w.setCell ⟨g, i, none⟩ u).heap[g]? = some (.cells (cs.setIfInBounds i u) t fr) := by
  simp [World.setCell, Array.getElem?_modify, h]
/-- A block of three cells that is known whole. -/
def Blk3 (w : World) (g : Nat) (t : TypeId) (u0 u1 u2 : Value) : Prop := w.heap[g]? = some (.cells #[u0, u1, u2] t (0, 0))
theorem Blk3.lt {w : World} {g : Nat} {t : TypeId} {u0 u1 u2 : Value} (h : Blk3 w g t u0 u1 u2) : g < w.heap.size := txt_lt h
theorem Blk3.keep {w w' : World} {B g : Nat} {t : TypeId} {u0 u1 u2 : Value} (h : Blk3 w g t u0 u1 u2) (hb : Below B w w') (hg : g < B) : Blk3 w' g t u0 u1 u2 := (hb.block g hg).trans h
theorem Blk3.cells {w : World} {g : Nat} {t : TypeId} {u0 u1 u2 : Value} (h : Blk3 w g t u0 u1 u2) : w.cell? ⟨g, 0, none⟩ = some u0 ∧ w.cell? ⟨g, 1, none⟩ = some u1 ∧ w.cell? ⟨g, 2, none⟩ = some u2 := by
  unfold Blk3 at h
  refine ⟨?_, ?_, ?_⟩ <;> (rw [cell_of_row w g _ _ t (0, 0) h]; rfl)
theorem Blk3.free {w : World} {g : Nat} {t : TypeId} {u0 u1 u2 : Value} (h : Blk3 w g t u0 u1 u2) : w.frozen? ⟨g, 0, none⟩ = false ∧ w.frozen? ⟨g, 1, none⟩ = false ∧ w.frozen? ⟨g, 2, none⟩ = false := by
  unfold Blk3 at h
  refine ⟨?_, ?_, ?_⟩ <;> simp [World.frozen?, h]
/-- Three cells stored. -/
def put3 (w : World) (g : Nat) (v0 v1 v2 : Value) : World := ((w.setCell ⟨g, 0, none⟩ v0).setCell ⟨g, 1, none⟩ v1).setCell ⟨g, 2, none⟩ v2
theorem Blk3.put {w : World} {g : Nat} {t : TypeId} {u0 u1 u2 : Value} (h : Blk3 w g t u0 u1 u2) (v0 v1 v2 : Value) : Blk3 (put3 w g v0 v1 v2) g t v0 v1 v2 := by
  unfold Blk3 at h ⊢
  unfold put3
  rw [heap_set_same (heap_set_same (heap_set_same h))]
  rfl
theorem below_put3 {B : Nat} {a w : World} (h : Below B a w) {g : Nat} (hg : B ≤ g) (v0 v1 v2 : Value) : Below B a (put3 w g v0 v1 v2) :=
  ((h.setCell (p := ⟨g, 0, none⟩) hg _).setCell (p := ⟨g, 1, none⟩) hg _).setCell (p := ⟨g, 2, none⟩) hg _
theorem put3_other {w : World} {g k : Nat} {v0 v1 v2 : Value} (h : k ≠ g) : (put3 w g v0 v1 v2).heap[k]? = w.heap[k]? := by
  unfold put3
  rw [Below.heap_setCell _ _ _ _ h, Below.heap_setCell _ _ _ _ h, Below.heap_setCell _ _ _ _ h]
theorem Txt.put3 {w : World} {s g : Nat} {a : Option Addr} {l : List UInt8} {v0 v1 v2 : Value} (h : Txt w s a l) (hg : g < s) : Txt (put3 w g v0 v1 v2) s a l := fun h0 => by
  obtain ⟨b, cs, e, hs, hh, hc⟩ := h h0
  exact ⟨b, cs, e, hs, (put3_other (by omega)).trans hh, hc⟩
theorem txt_grown {X Y : World} {row : Option Nat} {s : Nat} {a : Option Addr} {l : List UInt8} (h : Txt X s a l) (hg : X.grownBy Y row) (hr : ∀ r cs fr, row = some r → X.heap[r]? ≠ some (.cells cs 5 fr)) : Txt Y s a l := fun h0 => by
  obtain ⟨b, cs, e, hs, hh, hc⟩ := h h0
  exact ⟨b, cs, e, hs, (hg.block b (txt_lt hh) (fun e' => hr b cs _ e'.symm hh)).trans hh, hc⟩
theorem own_block_lt {W : World} {m e size k : Nat} {v : Value} {xs : List Value} (h : W.ownsRow m e size v k xs) {g : Nat} (hg : v.ownBlock = some g) : m ≤ g ∧ g < W.heap.size ∧ ∃ cs, W.heap[g]? = some (.cells cs e (0, 0)) := by
  rcases h.2 with ⟨rfl, _⟩ | ⟨g', cap, cur, rfl, hb, hh, _⟩
  · cases hg
  · simp [Value.ownBlock] at hg
    subst hg
    exact ⟨hb, txt_lt hh, cur, hh⟩
theorem own_base {W : World} {m m' e size k : Nat} {v : Value} {xs : List Value} (h : W.ownsRow m e size v k xs) (hm : m' ≤ m) : W.ownsRow m' e size v k xs :=
  ⟨h.1, h.2.imp id fun ⟨g, cap, cur, hv, hb, r⟩ => ⟨g, cap, cur, hv, by omega, r⟩⟩
theorem cells_new3 (w : World) (u0 u1 u2 : Value) (t : TypeId) : ∀ j u, [u0, u1, u2][j]? = some u → (w.alloc (.cells #[u0, u1, u2] t)).cell? ((⟨w.heap.size, 0, none⟩ : Addr).add j) = some u := by
  intro j u h
  have ea : (⟨w.heap.size, 0, none⟩ : Addr).add j = ⟨w.heap.size, j, none⟩ := by unfold Addr.add; split <;> simp_all
  rw [ea, cell_of_row _ w.heap.size _ _ t (0, 0) (heap_alloc_new w _)]
  simpa using h
theorem grown_of_below {X Y : World} (h : Below X.heap.size X Y) : X.grownBy Y none :=
  ⟨h.os, h.tape, h.output, h.size, fun k hk _ => h.block k hk⟩
theorem str_of_bs {w : World} {B : Nat} {a : Option Addr} {l : List UInt8} (cap : Nat) (h : Bs w B a l) :
    (convert 33 9 (.slice a l.length cap)).run Try.prog w = .ok (.string (str l)) w := by
  unfold str
  rcases Nat.eq_zero_or_pos l.length with h0 | h0
  · obtain rfl : l = [] := List.eq_nil_of_length_eq_zero h0
    rw [run_convert_bytes_string w 33 9 5 _ _ cap und22 und5 und9]
    cases a <;> simp [Conv.bytesToString, loadCells]
    all_goals rfl
  · obtain ⟨b, off, rfl, _, hc⟩ := h h0
    refine run_convert_bytes_back w 33 9 5 ⟨b, off, none⟩ cap l und22 und5 und9 fun j hj => ?_
    have e : (⟨b, off, none⟩ : Addr).add j = ⟨b, off + j, none⟩ := by unfold Addr.add; split <;> simp_all
    rw [e]
    exact hc j hj
/-- A text in memory: its bytes, where they lie. -/
structure TxV where
  text : List UInt8
  a : Option Addr
  cap : Nat
  nil0 : a = none → cap = 0
/-- A slice of texts that reads as xs. -/
def Ts (W : World) (a : Option Addr) (xs : List TxV) : Prop :=
  (0 < xs.length → ∃ b off, a = some ⟨b, off, none⟩ ∧ b < W.heap.size ∧ ∀ i (h : i < xs.length), W.cell? ⟨b, off + i, none⟩ = some (.slice xs[i].a xs[i].text.length xs[i].cap)) ∧ ∀ x ∈ xs, Bs W W.heap.size x.a x.text
theorem Ts.keep {W W' : World} {a : Option Addr} {xs : List TxV} (h : Ts W a xs) (hb : Below W.heap.size W W') : Ts W' a xs := by
  refine ⟨fun h0 => ?_, fun x hx => ((h.2 x hx).keep hb).more hb.size⟩
  obtain ⟨b, off, e, hlt, hc⟩ := h.1 h0
  exact ⟨b, off, e, Nat.lt_of_lt_of_le hlt hb.size, fun i hi => (hb.cell (p := ⟨b, _, none⟩) hlt).trans (hc i hi)⟩
theorem vals_one (l : List UInt8) : ∀ v ∈ vals l, v.oneCell' = true := by
  intro v hv
  simp only [vals, List.mem_map] at hv
  obtain ⟨c, _, rfl⟩ := hv
  rfl
/-- A slice that reads as l, appended to a row of the call's own. -/
theorem app_bs {w : World} {ops : Array Oper} {rest : List Oper} {o : Oper} {a : Act} {Q : Exit → Act → World → Prop} (hgd : o.guard = none) (s x : Operand)
    (ho : o.op = .call { callee := .builtin .append, args := #[s, x], argTypes := #[33, 33] })
    (base : Nat) (v : Value) (n : Nat) (xs : List Value) (hs : a.eval s = v) (hown : w.ownsRow base 5 1 v n xs)
    (A : Option Addr) (l : List UInt8) (c B : Nat) (hx : a.eval x = .slice A l.length c) (hb : Bs w B A l) (hnil : A = none → c = 0)
    (hn : n + l.length ≤ 1000000) (hbase : base ≤ w.heap.size)
    (h : ∀ v' w', w'.ownsRow base 5 1 v' (n + l.length) (xs ++ vals l) → w.grownBy w' v.ownBlock → wpList Try.prog ops Q rest (a.put o.dst v') w') : wpList Try.prog ops Q (o :: rest) a w := by
  obtain ⟨i0, hi, hz0, hz1, hz2⟩ := info_parts info5
  cases A with
  | none =>
    have hl : l = [] := by
      rcases Nat.eq_zero_or_pos l.length with h0 | h0
      · exact List.eq_nil_of_length_eq_zero h0
      · obtain ⟨_, _, e, _⟩ := hb h0; cases e
    subst hl
    rw [hnil rfl] at hx
    refine wpList_append_own_none hgd s x 33 ho base 5 i0 1 Try.underlying33 hi v n xs hs hown hx (h v w ?_ (World.grownBy.refl w _))
    simpa [vals] using hown
  | some ad =>
    refine wpList_append_own w hgd s x 33 ho base 5 i0 (.int .u8 0) 1 1 Try.underlying33 hi hz0 hz1 hz2 rfl (by decide) v n xs hs hown ad l.length c (vals l) hx (by simp [vals]) ?_ (vals_one l) (by unfold maxLen; omega) (by omega) hbase (fun v' w' h1 h2 _ => h v' w' h1 h2)
    intro j u hj
    have hjl : j < l.length := by
      have := (List.getElem?_eq_some_iff.1 hj).1
      simpa [vals] using this
    obtain ⟨b, off, e, _, hc⟩ := hb (by omega)
    obtain rfl := Option.some.inj e
    have e2 : (⟨b, off, none⟩ : Addr).add j = ⟨b, off + j, none⟩ := by unfold Addr.add; split <;> simp_all
    rw [e2, hc j hjl]
    simpa [vals, hjl] using hj
theorem own_ge {w : World} {base e size n : Nat} {v : Value} {xs : List Value} (h : w.ownsRow base e size v n xs) {g : Nat} (hg : v.ownBlock = some g) : base ≤ g := (own_block_lt h hg).1
/-- A literal's bytes. -/
theorem bs_lit (w : World) (l : List UInt8) (fr : Nat × Nat) (cs : Array Value) (hcs : cs = (l.map fun c => Value.int .u8 (c.toNat : Int)).toArray) :
    Bs (w.alloc (.cells cs 5 fr)) (w.alloc (.cells cs 5 fr)).heap.size (some ⟨w.heap.size, 0, none⟩) l := fun _ => by
  refine ⟨w.heap.size, 0, rfl, by simp, fun i hi => ?_⟩
  rw [cell_of_row _ w.heap.size _ _ 5 fr (heap_alloc_new w _), hcs]
  simp [hi]
/-- A row of the call's own, appended to: what lay below its base is as it was. -/
theorem app_below {B base n : Nat} {w0 w w' : World} {v : Value} {xs : List Value} (h : Below B w0 w) (hown : w.ownsRow base 5 1 v n xs) (hg : w.grownBy w' v.ownBlock) (hB : B ≤ w.heap.size) (hbase : B ≤ base) : Below B w0 w' :=
  h.grown hg hB (fun k hk => by have := own_ge hown hk; omega)
/-- A text that grows, in a row of the call's own. -/
theorem own_text {w : World} {base n : Nat} {v : Value} {l : List UInt8} {ys : List Value} (h : w.ownsRow base 5 1 v n ys) (e : ys = vals l) : w.ownsRow base 5 1 v l.length (vals l) ∧ ∃ a cap, v = .slice a l.length cap ∧ Txt w base a l ∧ (a = none → cap = 0) := by
  subst e
  have hn : l.length = n := by have := h.1; simpa [vals] using this
  obtain ⟨a, cap, hv, ht, _, hc⟩ := own_txt h
  rw [hn]
  exact ⟨h, a, cap, by rw [hv, hn], ht, hc⟩
end Go.Proofs.Ytlmncljnnpnjmaa
/- Drawn regions taken operation by operation: what tools/reg.py's walks lean on. -/
namespace Go.Proofs.Ytlmncljnnpnjmaa.Reg
open Go.RowKit
set_option maxRecDepth 100000

/-- An operation that yields in every world that meets S, taken first; its slot is named. -/
theorem held_take {P : Program} {md : Region.Mode} {ops : Array Oper} {Q : Exit → Act → World → Prop} {S : World → Prop} {i d : Nat} {oi : Oper} {v : Value} {fuel : Nat} {listed : Array Bool} {a : Act} {w : World} (hi : ops[i]? = some oi) (hd : oi.dst = some d)
    (hs : Region.noSelect ops = true) (hf : Region.free md ops listed i = true) (hr : (Region.ready md ops listed).contains i = true)
    (hQ : ∀ c a w, Q (.panic c) (a.put (some d) v) w → Q (.panic c) a w) (hy : YieldsIf P ops S oi v a) (hS : S w)
    (h : wpAnyH P md ops Q S fuel (listed.setIfInBounds i true) (a.put (some d) v) w) : wpAnyH P md ops Q S (fuel + 1) listed a w :=
  wpAnyH_take hi hs hf hr (by rw [hd]; exact hQ) hy hS (by rw [hd]; exact h)
/-- What goes on under more goes on under less. -/
theorem wpAnyH_more {P : Program} {md : Region.Mode} {ops : Array Oper} {Q : Exit → Act → World → Prop} {S S' : World → Prop} (hS : ∀ w, S' w → S w) : ∀ (fuel : Nat) (listed : Array Bool) (a : Act) (w : World), wpAnyH P md ops Q S' fuel listed a w → wpAnyH P md ops Q S fuel listed a w
  | 0, _, _, _, h => h
  | fuel + 1, _, _, _, h => ⟨h.1, fun i hi => wpOp_mono (fun a' w' h' => ⟨hS w' h'.1, wpAnyH_more hS fuel _ a' w' h'.2⟩) (h.2 i hi)⟩
end Go.Proofs.Ytlmncljnnpnjmaa.Reg
