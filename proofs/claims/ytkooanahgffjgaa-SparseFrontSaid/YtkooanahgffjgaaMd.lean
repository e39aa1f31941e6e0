/- Rows in memory; a map whose keys are a state and a byte. -/
import Derived.Test.YtkooanahgffjgaaMc
import Derived.Maps.OwnSet
import Derived.DeepKeys4
namespace Go.Proofs.Ytkooanahgffjgaa.Met
open Go.RowKit Go.Maps
set_option maxRecDepth 100000

/-- A row: a state, a byte, and where they lead. -/
structure Rw where
  s : Int
  b : UInt8
  t : Int
/-- What rows tell of a state and a byte: the last one that has them; -1: none. -/
def spar (l : List Rw) (s : Int) (c : UInt8) : Int :=
  l.foldl (fun x r => if r.s = s ∧ r.b = c then r.t else x) (-1)
def hasr (l : List Rw) (s : Int) (c : UInt8) : Bool := l.any fun r => decide (r.s = s ∧ r.b = c)
theorem spar_snoc (l : List Rw) (r : Rw) (s : Int) (c : UInt8) : spar (l ++ [r]) s c = if r.s = s ∧ r.b = c then r.t else spar l s c := by
  simp [spar, List.foldl_append]
theorem hasr_snoc (l : List Rw) (r : Rw) (s : Int) (c : UInt8) : hasr (l ++ [r]) s c = (hasr l s c || decide (r.s = s ∧ r.b = c)) := by
  simp [hasr]
theorem spar_no (l : List Rw) (s : Int) (c : UInt8) (h : hasr l s c = false) : spar l s c = -1 := by
  unfold spar
  generalize (-1 : Int) = z
  induction l generalizing z with
  | nil => rfl
  | cons r l ih =>
    unfold hasr at h
    rw [List.any_cons, Bool.or_eq_false_iff] at h
    rw [List.foldl_cons, if_neg (of_decide_eq_false h.1)]
    exact ih h.2 z
/-- Numbers that are. -/
def WfR (l : List Rw) : Prop := ∀ r ∈ l, (Lit.int .i64 r.s).wf = true ∧ (Lit.int .i64 r.t).wf = true
theorem wf_u8 (c : UInt8) : (Lit.int .u8 (c.toNat : Int)).wf = true := by
  have := c.toNat_lt
  simp [Lit.wf, IntKind.min, IntKind.max, IntKind.bits, IntKind.signed]
  omega
theorem und3 : Try.prog.underlying 3 = some (.int .i64) := by kernel_rfl
theorem und63 : Try.prog.underlying 95 = some (.map 97 3) := by kernel_rfl
theorem laidOut' : laidOutB Try.prog = true := by kernel_rfl
theorem wide65 : (match Try.prog.underlying 97 with | some (.array _ _) | some (.struct _) => true | _ => false) = true := by kernel_rfl
theorem keyed : Keyed Try.prog 97 := Keyed.of_law (deep_law_laid laidOut' (m := 3) (by omega) (of_decide_eq_true (by kernel_rfl)) (by kernel_rfl) wide65)
theorem zero3 (w : World) : (zeroValue 3).run Try.prog w = .ok (.int .i64 0) w := by kernel_rfl
abbrev edge (s : Int) (c : UInt8) : Value := .agg #[.int .i64 s, .int .u8 (c.toNat : Int)]
theorem edge_inj {s s' : Int} {c c' : UInt8} (h : edge s c = edge s' c') : s = s' ∧ c = c' := by
  simp at h
  exact ⟨h.1, UInt8.toNat_inj.1 (by omega)⟩
theorem key_edge (s : Int) (c : UInt8) (hs : (Lit.int .i64 s).wf = true) : ∃ l, keyOf Try.prog 97 (edge s c) = some l := by
  have h2 : Try.prog.keyType 97 = true := by kernel_rfl
  have h3 : Try.prog.cellsOf 97 = 2 := by kernel_rfl
  have h4 : Try.prog.cellsOf 3 = 1 := by kernel_rfl
  have h5 : Try.prog.cellsOf 5 = 1 := by kernel_rfl
  have hc := wf_u8 c
  obtain ⟨m, hm⟩ : ∃ m, Try.prog.types.size = m + 1 := ⟨Try.prog.types.size - 1, by have : 0 < Try.prog.types.size := of_decide_eq_true (by kernel_rfl); omega⟩
  refine ⟨.string (keyBytes [.int .i64 s, .int .u8 (c.toNat : Int)]), ?_⟩
  unfold keyOf
  simp only [Try.underlying97]
  rw [if_pos (by simp [h2, Value.formed, Try.underlying97, h3]), hm]
  unfold Program.keyLits
  simp only [Try.underlying97, Value.cells]
  simp [h3, h4, h5, Program.keyLits, hs, hc]
/-- Block g is a map of at most n entries that tells what rows tell. -/
def MapR (w : World) (g n : Nat) (l : List Rw) : Prop :=
  ∃ D : DataW Unit, w.ownsMap Try.prog 97 (plainElem Try.prog 3) g n D ∧ IsMap D ∧ ∀ s c k, keyOf Try.prog 97 (edge s c) = some k → Maps.has D k = hasr l s c ∧ (hasr l s c = true → D.atKey k (.lit (.int .i64 0)) = .lit (.int .i64 (spar l s c)))
theorem MapR.lt {w : World} {g n : Nat} {l : List Rw} (h : MapR w g n l) : g < w.heap.size := by
  obtain ⟨D, h1, _⟩ := h; exact h1.lt
theorem MapR.same {w w' : World} {g n : Nat} {l : List Rw} (h : MapR w g n l) (e : w'.heap[g]? = w.heap[g]?) : MapR w' g n l := by
  obtain ⟨D, ⟨es, clock, hb, F, hs, hD⟩, h2⟩ := h
  exact ⟨D, ⟨es, clock, e.trans hb, F, hs, hD⟩, h2⟩
theorem MapR.alloc {w : World} {g n : Nat} {l : List Rw} (h : MapR w g n l) (o : Obj) : MapR (w.alloc o) g n l := h.same (Below.heap_alloc w o g h.lt)
theorem MapR.not {w : World} {g n : Nat} {l : List Rw} (h : MapR w g n l) {cs : Array Value} {t : TypeId} {fr : Nat × Nat} : w.heap[g]? ≠ some (.cells cs t fr) := by
  obtain ⟨D, ⟨es, clock, hb, _⟩, _⟩ := h
  intro e; rw [hb] at e; cases e
theorem mapR_made (w : World) : MapR (w.alloc (.map #[] 0)) w.heap.size 0 [] :=
  ⟨.map [], World.ownsMap_made w _ _ _, isMap_empty, fun s c k _ => ⟨by simp [Maps.has, hasr], fun h => by simp [hasr] at h⟩⟩
/-- The question, at the operation. -/
theorem look_map {w : World} {ops : Array Oper} {rest : List Oper} {o : Oper} {a : Act} {Q : Exit → Act → World → Prop} (hgd : o.guard = none) (m x : Operand) (ho : o.op = Op.lookup 95 m x true)
    (g n : Nat) (l : List Rw) (hm : a.eval m = .map (some g)) (hown : MapR w g n l) (s : Int) (c : UInt8) (hs : (Lit.int .i64 s).wf = true) (hx : a.eval x = edge s c)
    (hK : ∀ v : Int, (hasr l s c = true → v = spar l s c) → wpList Try.prog ops Q rest (a.put o.dst (.tuple #[.int .i64 v, .bool (hasr l s c)])) w) : wpList Try.prog ops Q (o :: rest) a w := by
  obtain ⟨D, h1, _, h3⟩ := hown
  obtain ⟨k, hk⟩ := key_edge s c hs
  obtain ⟨h4, h5⟩ := h3 s c k hk
  refine wpList_lookup_own_ok_int w hgd m x 95 ho 97 3 .i64 keyed und63 und3 (zero3 w) g n D hm h1 _ k hx hk fun v hv _ => ?_
  rw [h4]
  refine hK v fun h => ?_
  rw [h5 h] at hv
  injection hv with e
  injection e with _ e
  exact e.symm
/-- A row stored. -/
theorem put_map {w : World} {ops : Array Oper} {rest : List Oper} {o : Oper} {a : Act} {Q : Exit → Act → World → Prop} (hgd : o.guard = none) (m x v : Operand) (ho : o.op = Op.mapUpdate 95 m x v)
    (g n : Nat) (l : List Rw) (hm : a.eval m = .map (some g)) (hown : MapR w g n l) (r : Rw) (hs : (Lit.int .i64 r.s).wf = true) (ht : (Lit.int .i64 r.t).wf = true) (hx : a.eval x = edge r.s r.b) (hv : a.eval v = .int .i64 r.t) (hn : n < maxLen)
    (hK : ∀ w', MapR w' g (n + 1) (l ++ [r]) → w.grownBy w' (some g) → wpList Try.prog ops Q rest (a.put o.dst undef) w') : wpList Try.prog ops Q (o :: rest) a w := by
  obtain ⟨D, h1, h2, h3⟩ := hown
  obtain ⟨k, hk⟩ := key_edge r.s r.b hs
  refine wpList_mapUpdate_own w hgd m x v 95 ho 97 3 keyed und63 (plainElem Try.prog 3) g n D hm h1 hn _ _ _ hx hv hk (.lit (.int .i64 r.t)) [] (plainElem_int und3 ht) fun w' h4 h5 => hK w' ⟨_, h4, h2.put _ _, fun s c k' hk' => ?_⟩ h5
  rw [hasr_snoc, spar_snoc]
  by_cases hy : r.s = s ∧ r.b = c
  · obtain ⟨rfl, rfl⟩ := hy
    obtain rfl : k = k' := by rw [hk] at hk'; injection hk'
    have hkey := keyed.key hk
    rw [has_put_same h2 hkey, atKey_put_same h2 hkey]
    simp
  · have hne : k' ≠ k := fun e => hy (by
      subst e
      exact edge_inj (keyed.inj hk hk'))
    rw [has_put_other hne, atKey_put_other hne, if_neg hy, decide_eq_false hy, Bool.or_false]
    exact h3 s c k' hk'
/-- A row's cells. -/
def rcells (r : Rw) : List Value := [.int .i64 r.s, .int .u8 (r.b.toNat : Int), .int .i64 r.t]
def rvals (l : List Rw) : List Value := l.flatMap rcells
theorem rvals_length (l : List Rw) : (rvals l).length = l.length * 3 := by
  induction l with
  | nil => rfl
  | cons p l ih => simp only [rvals, List.flatMap_cons, List.length_append, List.length_cons] at ih ⊢; rw [ih]; simp [rcells]; omega
theorem rvals_append (l m : List Rw) : rvals (l ++ m) = rvals l ++ rvals m := by simp [rvals]
theorem rvals_at : ∀ (xs : List Rw) (i j : Nat), j < 3 → (h : i < xs.length) → (rvals xs)[i * 3 + j]? = (rcells xs[i])[j]?
  | [], i, j, _, h => absurd h (by simp)
  | x :: xs, 0, j, hj, _ => by
    unfold rvals
    rw [List.flatMap_cons, List.getElem?_append_left (by simp [rcells]; omega)]
    simp
  | x :: xs, i + 1, j, hj, h => by
    have h' : i < xs.length := by simpa using h
    unfold rvals
    rw [List.flatMap_cons, List.getElem?_append_right (by simp [rcells]; omega)]
    have e : (i + 1) * 3 + j - (rcells x).length = i * 3 + j := by simp [rcells]; omega
    rw [e]
    exact rvals_at xs i j hj h'
/-- A slice of rows that reads as xs, below block B. -/
def Rs (W : World) (B : Nat) (a : Option Addr) (xs : List Rw) : Prop :=
  0 < xs.length → ∃ b off, a = some ⟨b, off, none⟩ ∧ b < B ∧ ∀ i (h : i < xs.length), W.cell? ⟨b, off + i * 3, none⟩ = some (.int .i64 xs[i].s) ∧ W.cell? ⟨b, off + i * 3 + 1, none⟩ = some (.int .u8 (xs[i].b.toNat : Int)) ∧ W.cell? ⟨b, off + i * 3 + 2, none⟩ = some (.int .i64 xs[i].t)
theorem Rs.keep {W W' : World} {B : Nat} {a : Option Addr} {xs : List Rw} (h : Rs W B a xs) (hb : Below B W W') : Rs W' B a xs := fun h0 => by
  obtain ⟨b, off, e, hlt, hc⟩ := h h0
  refine ⟨b, off, e, hlt, fun i hi => ?_⟩
  obtain ⟨h1, h2, h3⟩ := hc i hi
  exact ⟨(hb.cell (p := ⟨b, _, none⟩) hlt).trans h1, (hb.cell (p := ⟨b, _, none⟩) hlt).trans h2, (hb.cell (p := ⟨b, _, none⟩) hlt).trans h3⟩
theorem Rs.more {W : World} {B B' : Nat} {a : Option Addr} {xs : List Rw} (h : Rs W B a xs) (hB : B ≤ B') : Rs W B' a xs := fun h0 => by
  obtain ⟨b, off, e, hlt, hc⟩ := h h0
  exact ⟨b, off, e, by omega, hc⟩
end Go.Proofs.Ytkooanahgffjgaa.Met
