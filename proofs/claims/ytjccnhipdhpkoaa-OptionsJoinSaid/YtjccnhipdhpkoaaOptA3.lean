/- Options: Bits, Show, and the statements' list. -/
import Derived.Test.YtjccnhipdhpkoaaOptA2
namespace Go.Proofs.Ytjccnhipdhpkoaa.Opt
open Go.RowKit
set_option maxRecDepth 100000

theorem bitsO_snoc : ∀ (a : List Bool) (b : Bool), bitsO (a ++ [b]) = bitsO a + (if b then 1 else 0) * 2 ^ a.length
  | [], b => by simp [bitsO]
  | x :: a, b => by
    have h := bitsO_snoc a b
    simp only [bitsO, List.cons_append, List.foldr_cons] at h ⊢
    rw [h, List.length_cons, Nat.pow_succ]
    have e : 2 * ((if b = true then 1 else 0) * 2 ^ a.length) = (if b = true then 1 else 0) * (2 ^ a.length * 2) := by rw [Nat.mul_comm (2 ^ a.length) 2, Nat.mul_left_comm]
    rw [Nat.mul_add, e]
    omega
theorem bitsO_lt : ∀ a : List Bool, bitsO a < 2 ^ a.length
  | [] => by simp [bitsO]
  | x :: a => by
    have h := bitsO_lt a
    simp only [bitsO, List.foldr_cons, List.length_cons, Nat.pow_succ] at h ⊢
    cases x <;> simp <;> omega
theorem bitsO_take {l : List Bool} {k : Nat} {b : Bool} (h : l[k]? = some b) : bitsO (l.take (k + 1)) = bitsO (l.take k) + (if b then 1 else 0) * 2 ^ k := by
  rw [List.take_add_one, h]
  have hl : (l.take k).length = k := by
    have := (List.getElem?_eq_some_iff.1 h).1
    simp; omega
  have := bitsO_snoc (l.take k) b
  rw [hl] at this
  exact this
theorem bitsO_take_lt (l : List Bool) (k : Nat) (h : l.length = 7) (hk : k ≤ 7) : bitsO (l.take k) < 2 ^ k := by
  have := bitsO_lt (l.take k)
  rwa [List.length_take, show min k l.length = k by omega] at this

theorem or_is {k m : Nat} (hk : k < 7) (hm : m < 2 ^ k) : bits BinOp.or IntKind.u8 (m : Int) (2 ^ k % 256) = ((m + 2 ^ k : Nat) : Int) := by
  have : ∀ (k : Fin 7) (m : Fin 64), m.val < 2 ^ k.val → bits BinOp.or IntKind.u8 (m.val : Int) (2 ^ k.val % 256) = ((m.val + 2 ^ k.val : Nat) : Int) := by decide +kernel
  have h2 : 2 ^ k ≤ 2 ^ 6 := Nat.pow_le_pow_right (by decide) (by omega)
  exact this ⟨k, hk⟩ ⟨m, by omega⟩ hm

set_option maxHeartbeats 1000000 in
theorem bits_any (a b c d e f g : Bool) (w : World) :
    Calls Try.prog 14 #[val7 a b c d e f g] w fun r w' => r = .returned (.int .u8 (bitsO [a, b, c, d, e, f, g] : Nat)) ∧ Below w.heap.size w w' := by
  obtain ⟨l, hl⟩ : ∃ l, l = [a, b, c, d, e, f, g] := ⟨_, rfl⟩
  have h7 : l.length = 7 := by rw [hl]; rfl
  have HL := Lib.hid hl
  rw [← hl]
  clear hl
  go_enter Try.func14, Try.ntmps14
  go_wp2
  go_loopg [3, 4, 5] 7 (fun gf s3 s4 s5 wx => ∃ k : Nat, k + gf = 7 ∧ s3 = .int .u8 (bitsO (l.take k) : Nat) ∧ wx.heap[w.heap.size + 1]? = some (.stringIter LIT k) ∧ Bk wx w.heap.size l ∧ Below w.heap.size w wx)
  case atStart =>
    refine ⟨0, rfl, rfl, iter_at (by simp) _ _, ?_, ((Below.refl _ _).alloc (Nat.le_refl _) _).alloc (by simp) _⟩
    rw [HL.out]
    exact (bk_new _ _ _ _ _ _ _ _).keep ((Below.refl _ _).alloc (Nat.le_refl _) _) (by simp)
  case round =>
    obtain ⟨k, hk, rfl, hit, hbk, hbel⟩ := hrel
    cases gk with
    | succ gf =>
      have hlt : k < 7 := by omega
      have hnx := fun ty => next_let hit hlt ty
      have hit2 := Lib.iterAt_heap wr _ LIT k (k + 1) hit
      have hbk2 := hbk.iter hit (k + 1)
      have hbel2 := Lib.below_iterAt hbel (k := w.heap.size + 1) (by omega) LIT (k + 1)
      obtain ⟨W, hWd⟩ : ∃ W, wr.iterAt (w.heap.size + 1) LIT (k + 1) = W := ⟨_, rfl⟩
      rw [hWd] at hnx hit2 hbk2 hbel2
      clear hit hbk hbel hWd
      obtain ⟨b, hb⟩ : ∃ b, l[k]? = some b := ⟨_, List.getElem?_eq_getElem (by omega)⟩
      have hcl := hbk2.cell hb
      have C1 := Lib.hid (field_let w.heap.size hlt W)
      have HBT := Lib.hid (bitsO_take hb)
      have HLT := Lib.hid (bitsO_take_lt l k h7 (by omega))
      have HB := Lib.hid hb
      clear hb
      cases b
      · go_wp2_with (go_at_call 22; (with_reducible refine C1.out.mono ?_); rintro e W' ⟨rfl, rfl⟩)
        go_roundg gf
        case rel => exact ⟨k + 1, by omega, by rw [HBT.out]; simp, hit2, hbk2, hbel2⟩
        case measure => omega
      · go_wp2_with (go_at_call 22; (with_reducible refine C1.out.mono ?_); rintro e W' ⟨rfl, rfl⟩)
        rw [or_is hlt HLT.out]
        go_roundg gf
        case rel => exact ⟨k + 1, by omega, by rw [HBT.out]; simp, hit2, hbk2, hbel2⟩
        case measure => omega
    | zero => 
      obtain rfl : k = 7 := by omega
      have hnx := fun ty => next_over hit ty
      go_wp2
      go_ret
      rw [List.take_of_length_le (by omega)]
      exact ⟨rfl, hbel⟩

/-- Bools in a block of their own. -/
def Bb (w : World) (x : Nat) (l : List Bool) : Prop := w.heap[x]? = some (.cells (l.map Value.bool).toArray 4 (0, 0))
theorem Bb.lt {w : World} {x : Nat} {l : List Bool} (h : Bb w x l) : x < w.heap.size := txt_lt h
theorem Bb.cell {w : World} {x : Nat} {l : List Bool} (h : Bb w x l) {k : Nat} {b : Bool} (hk : l[k]? = some b) : w.cell? ⟨x, k, none⟩ = some (.bool b) := by
  rw [cell_of_row w x _ _ 4 (0, 0) h]
  simp [hk]
theorem Bb.free {w : World} {x : Nat} {l : List Bool} (h : Bb w x l) (k : Nat) : w.frozen? ⟨x, k, none⟩ = false := by
  unfold Bb at h
  simp [World.frozen?, h]
theorem Bb.keep {w w' : World} {B x : Nat} {l : List Bool} (h : Bb w x l) (hb : Below B w w') (hx : x < B) : Bb w' x l := (hb.block x hx).trans h
theorem Bb.set {w : World} {x : Nat} {l : List Bool} (h : Bb w x l) (k : Nat) (b : Bool) : Bb (w.setCell ⟨x, k, none⟩ (.bool b)) x (l.set k b) := by
  unfold Bb at h ⊢
  rw [heap_set_same h]
  simp [List.map_set]
/-- A call that hands out seven bools in new memory. -/
def GivesB (w : World) (l : List Bool) (e : Ending) (w' : World) : Prop := ∃ x, e = .returned (.slice (some ⟨x, 0, none⟩) 7 7) ∧ w.heap.size ≤ x ∧ Bb w' x l ∧ Below w.heap.size w w'

theorem heap_at {w : World} {x : Nat} (hx : x = w.heap.size) (o : Obj) : (w.alloc o).heap[x]? = some o := by subst hx; exact heap_alloc_new w o
theorem list_any (a b c d e f g : Bool) (w : World) : Calls Try.prog 11 #[val7 a b c d e f g] w (GivesB w [a, b, c, d, e, f, g]) := by
  go_enter Try.func11, Try.ntmps11
  go_wp2
  go_ret
  exact ⟨w.heap.size + 1, rfl, by omega, heap_at (by simp) _, ((Below.refl _ _).alloc (Nat.le_refl _) _).alloc (by simp) _⟩

theorem own_iter {w : World} {B e size n : Nat} {v : Value} {xs : List Value} {k : Nat} {s : ByteArray} {pos : Nat} (h : w.ownsRow B e size v n xs) (hk : w.heap[k]? = some (.stringIter s pos)) (pos' : Nat) : (w.iterAt k s pos').ownsRow B e size v n xs := by
  refine ⟨h.1, h.2.imp id ?_⟩
  rintro ⟨g, cap, cur, hv, hb, hg, r⟩
  refine ⟨g, cap, cur, hv, hb, ?_, r⟩
  rw [Lib.iterAt_other _ _ _ _ _ (fun e => by subst e; rw [hk] at hg; cases hg)]
  exact hg
theorem cell_at_new {w : World} {g : Nat} (u : Value) (t : TypeId) (hg : g = w.heap.size) : ∀ j x, [u][j]? = some x → (w.alloc (.cells #[u] t)).cell? ((⟨g, 0, none⟩ : Addr).add j) = some x := by
  subst hg
  intro j x hj
  have e2 : (⟨w.heap.size, 0, none⟩ : Addr).add j = ⟨w.heap.size, j, none⟩ := by unfold Addr.add; split <;> simp_all
  rw [e2, cell_of_row _ w.heap.size _ _ t (0, 0) (heap_alloc_new w _)]
  simpa using hj
theorem und46 : Try.prog.underlying 46 = some (.slice 21) := by kernel_rfl
theorem und21 : Try.prog.underlying 21 = some (.int .i32) := by kernel_rfl
theorem info21 : (Try.prog.info? 21).map (fun i => (i.zero, i.size, i.bytes)) = some (some (.int .i32 0), 1, 4) := by kernel_rfl
def rvals (l : List Int) : List Value := l.map (Value.int .i32)
theorem rvals_snoc (l : List Int) (z : Int) : rvals (l ++ [z]) = rvals l ++ [Value.int .i32 z] := by simp [rvals]
/-- A rune appended to a row of the call's own. -/
theorem app_rune {w : World} {ops : Array Oper} {rest : List Oper} {o : Oper} {a : Act} {Q : Exit → Act → World → Prop} (hgd : o.guard = none) (s x : Operand)
    (ho : o.op = .call { callee := .builtin .append, args := #[s, x], argTypes := #[46, 46] })
    (base : Nat) (v : Value) (n : Nat) (xs : List Int) (y : Int) (hs : a.eval s = v) (hown : w.ownsRow base 21 1 v n (rvals xs))
    (ad : Addr) (hx : a.eval x = .slice (some ad) 1 1) (hc : ∀ j u, [Value.int .i32 y][j]? = some u → w.cell? (ad.add j) = some u)
    (hn : n ≤ 1000000000) (hbase : base ≤ w.heap.size)
    (h : ∀ v' w', w'.ownsRow base 21 1 v' (n + 1) (rvals (xs ++ [y])) → w.grownBy w' v.ownBlock → wpList Try.prog ops Q rest (a.put o.dst v') w') : wpList Try.prog ops Q (o :: rest) a w := by
  obtain ⟨i0, hi, hz0, hz1, hz2⟩ := info_parts info21
  rw [rvals_snoc] at h
  exact wpList_append_own w hgd s x 46 ho base 21 i0 (.int .i32 0) 1 4 und46 hi hz0 hz1 hz2 rfl (by decide) v n (rvals xs) hs hown ad 1 1 [.int .i32 y] hx rfl hc (by simp [Value.oneCell']) (by unfold maxLen; omega) (by omega) hbase (fun v' w' h1 h2 _ => h v' w' h1 h2)
/-- The letters of the first k that are asked for. -/
def runesTo (l : List Bool) (k : Nat) : List Int := (List.range k).filterMap fun j => if l.getD j false then some (letN j : Int) else none
theorem runesTo_next {l : List Bool} {k : Nat} {b : Bool} (h : l[k]? = some b) : runesTo l (k + 1) = runesTo l k ++ (if b then [(letN k : Int)] else []) := by
  unfold runesTo
  rw [List.range_succ, List.filterMap_append]
  congr 1
  have : l.getD k false = b := by simp [List.getD, h]
  cases b <;> simp only [List.filterMap_cons, List.filterMap_nil, this] <;> rfl
theorem runesTo_len (l : List Bool) (k : Nat) : (runesTo l k).length ≤ k := by
  have := List.length_filterMap_le (fun j => if l.getD j false then some (letN j : Int) else none) (List.range k)
  rw [List.length_range] at this
  exact this
theorem show_is : ∀ a b c d e f g : Bool, [a, b, c, d, e, f, g] ≠ none7 → (runesBytes ((45 : Int) :: runesTo [a, b, c, d, e, f, g] 7)).data.toList = showO [a, b, c, d, e, f, g] := by decide +kernel
theorem show_none : showO none7 = [] := by decide
/-- Options held against each other. -/
def eq7 (a b c d e f g a' b' c' d' e' f' g' : Bool) : Bool := a == a' && (b == b' && (c == c' && (d == d' && (e == e' && (f == f' && g == g')))))
set_option maxHeartbeats 1000000 in
theorem eql_opts (a b c d e f g a' b' c' d' e' f' g' : Bool) (w : World) : (binOp .eql 24 (val7 a b c d e f g) (val7 a' b' c' d' e' f' g')).run Try.prog w = .ok (.bool (eq7 a b c d e f g a' b' c' d' e' f' g')) w := by
  unfold eq7
  cases h1 : (a == a')
  · simp [go_sem, h1]
  cases h2 : (b == b')
  · simp [go_sem, h1, h2]
  cases h3 : (c == c')
  · simp [go_sem, h1, h2, h3]
  cases h4 : (d == d')
  · simp [go_sem, h1, h2, h3, h4]
  cases h5 : (e == e')
  · simp [go_sem, h1, h2, h3, h4, h5]
  cases h6 : (f == f')
  · simp [go_sem, h1, h2, h3, h4, h5, h6]
  cases h7 : (g == g')
  · simp [go_sem, h1, h2, h3, h4, h5, h6, h7]
  simp [go_sem, h1, h2, h3, h4, h5, h6, h7]
end Go.Proofs.Ytjccnhipdhpkoaa.Opt
