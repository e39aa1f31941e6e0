/- Pairs in memory: slices of them, rows of the call's own. -/
import Derived.Test.YtkooanahgffjgaaRows
import Derived.Test.YtkooanahgffjgaaPMath
import Derived.WalkKit
import Derived.ProofKit
import Derived.WalkLawsBesides
import Derived.Outline
import Derived.Deep.QuietTactic
import Derived.BigQuiet
import Derived.Deep.RegionWith
import Derived.Deep.RegionHeld3
import Derived.Deep.DrawnRows
import Derived.Below
import Derived.Lib.Hide
import Derived.LoopTactic
import Derived.Laws.MakeOwn
import Derived.OwnWalk
import Derived.Laws.AppendOwnNone
namespace Go.Proofs.Ytkooanahgffjgaa.Prs
open Go.RowKit
set_option maxRecDepth 100000

theorem ret_int {k : IntKind} {a b : Int} (h : a = b) : Ending.returned (.int k a) = .returned (.int k b) := by rw [h]
theorem ret_bool {a b : Bool} (h : a = b) : Ending.returned (.bool a) = .returned (.bool b) := by rw [h]
theorem below_drews {B : Nat} {a w : World} (h : Below B a w) (n : Nat) : Below B a (w.drewN n) := ⟨h.os, h.tape, h.output, h.size, h.block⟩
theorem heap_lt {w : World} {b : Nat} {o : Obj} (h : w.heap[b]? = some o) : b < w.heap.size := (Array.getElem?_eq_some_iff.1 h).1
theorem cell_lt {w : World} {b o : Nat} {v : Value} (h : w.cell? ⟨b, o, none⟩ = some v) : b < w.heap.size := by
  rcases Nat.lt_or_ge b w.heap.size with hlt | hge
  · exact hlt
  · unfold World.cell? at h
    simp only [Array.getElem?_eq_none hge] at h
    cases h
theorem add_at (b off i : Nat) : (⟨b, off, none⟩ : Addr).add i = ⟨b, off + i, none⟩ := by unfold Addr.add; split <;> simp_all
theorem bcell {W w1 : World} (hb : Below W.heap.size W w1) : (∀ b o, b < W.heap.size → w1.cell? ⟨b, o, none⟩ = W.cell? ⟨b, o, none⟩) ∧ (∀ b o, b < W.heap.size → w1.frozen? ⟨b, o, none⟩ = W.frozen? ⟨b, o, none⟩) :=
  ⟨fun b o h => hb.cell (p := ⟨b, o, none⟩) h, fun b o h => hb.frozen (p := ⟨b, o, none⟩) h⟩
theorem own_keep {w w' : World} {base e size n : Nat} {v : Value} {xs : List Value} (h : w.ownsRow base e size v n xs) (hb : Below w.heap.size w w') : w'.ownsRow base e size v n xs := by
  refine ⟨h.1, h.2.imp id ?_⟩
  rintro ⟨g, cap, cur, hv, hg, hh, r⟩
  refine ⟨g, cap, cur, hv, hg, (hb.block g ?_).trans hh, r⟩
  rcases Nat.lt_or_ge g w.heap.size with hlt | hge
  · exact hlt
  · rw [Array.getElem?_eq_none hge] at hh; cases hh
theorem own_block_lt {W : World} {m e size k : Nat} {v : Value} {xs : List Value} (h : W.ownsRow m e size v k xs) {g : Nat} (hg : v.ownBlock = some g) : m ≤ g ∧ g < W.heap.size ∧ ∃ cs, W.heap[g]? = some (.cells cs e (0, 0)) := by
  rcases h.2 with ⟨rfl, _⟩ | ⟨g', cap, cur, rfl, hb, hh, _⟩
  · cases hg
  · simp [Value.ownBlock] at hg
    subst hg
    exact ⟨hb, heap_lt hh, cur, hh⟩
theorem own_base {W : World} {m m' e size k : Nat} {v : Value} {xs : List Value} (h : W.ownsRow m e size v k xs) (hm : m' ≤ m) : W.ownsRow m' e size v k xs :=
  ⟨h.1, h.2.imp id fun ⟨g, cap, cur, hv, hb, r⟩ => ⟨g, cap, cur, hv, by omega, r⟩⟩
theorem own_ge {w : World} {base e size n : Nat} {v : Value} {xs : List Value} (h : w.ownsRow base e size v n xs) {g : Nat} (hg : v.ownBlock = some g) : base ≤ g := (own_block_lt h hg).1

theorem info27 : (Try.prog.info? 52).map (fun i => (i.zero, i.size, i.bytes)) = some (some (.agg #[.int .i64 0, .int .i64 0]), 2, 16) := by kernel_rfl
/-- A pair as a value, and its cells. -/
abbrev pv (p : Pr) : Value := .agg #[.int .i64 p.s, .int .i64 p.e]
def pcells (p : Pr) : List Value := [.int .i64 p.s, .int .i64 p.e]
def cellsOf (l : List Pr) : List Value := l.flatMap pcells
theorem cells_length (l : List Pr) : (cellsOf l).length = l.length * 2 := by
  induction l with
  | nil => rfl
  | cons p l ih => simp only [cellsOf, List.flatMap_cons, List.length_append, List.length_cons] at ih ⊢; rw [ih]; simp [pcells]; omega
theorem cells_append (l m : List Pr) : cellsOf (l ++ m) = cellsOf l ++ cellsOf m := by simp [cellsOf]
theorem cells_at : ∀ (xs : List Pr) (i j : Nat), j < 2 → (h : i < xs.length) → (cellsOf xs)[i * 2 + j]? = (pcells xs[i])[j]?
  | [], i, j, _, h => absurd h (by simp)
  | x :: xs, 0, j, hj, _ => by
    unfold cellsOf
    rw [List.flatMap_cons, List.getElem?_append_left (by simp [pcells]; omega)]
    simp
  | x :: xs, i + 1, j, hj, h => by
    have h' : i < xs.length := by simpa using h
    unfold cellsOf
    rw [List.flatMap_cons, List.getElem?_append_right (by simp [pcells]; omega)]
    have e : (i + 1) * 2 + j - (pcells x).length = i * 2 + j := by simp [pcells]; omega
    rw [e]
    exact cells_at xs i j hj h'
theorem cells_one (l : List Pr) : ∀ v ∈ cellsOf l, v.oneCell' = true := by
  intro v hv
  simp only [cellsOf, List.mem_flatMap] at hv
  obtain ⟨p, _, hp⟩ := hv
  simp only [pcells, List.mem_cons, List.not_mem_nil, or_false] at hp
  rcases hp with rfl | rfl <;> rfl
/-- A slice of pairs that reads as xs, below block B. -/
def Ps (W : World) (B : Nat) (a : Option Addr) (xs : List Pr) : Prop :=
  0 < xs.length → ∃ b off, a = some ⟨b, off, none⟩ ∧ b < B ∧ ∀ i (h : i < xs.length), W.cell? ⟨b, off + i * 2, none⟩ = some (.int .i64 xs[i].s) ∧ W.cell? ⟨b, off + i * 2 + 1, none⟩ = some (.int .i64 xs[i].e)
theorem ps_nil (W : World) (B : Nat) (a : Option Addr) : Ps W B a [] := fun h => absurd h (by simp)
theorem Ps.keep {W W' : World} {B : Nat} {a : Option Addr} {xs : List Pr} (h : Ps W B a xs) (hb : Below B W W') : Ps W' B a xs := fun h0 => by
  obtain ⟨b, off, e, hlt, hc⟩ := h h0
  refine ⟨b, off, e, hlt, fun i hi => ?_⟩
  obtain ⟨h1, h2⟩ := hc i hi
  exact ⟨(hb.cell (p := ⟨b, _, none⟩) hlt).trans h1, (hb.cell (p := ⟨b, _, none⟩) hlt).trans h2⟩
theorem Ps.more {W : World} {B B' : Nat} {a : Option Addr} {xs : List Pr} (h : Ps W B a xs) (hB : B ≤ B') : Ps W B' a xs := fun h0 => by
  obtain ⟨b, off, e, hlt, hc⟩ := h h0
  exact ⟨b, off, e, by omega, hc⟩
theorem Ps.keeps {W W' : World} {a : Option Addr} {xs : List Pr} (h : Ps W W.heap.size a xs) (hb : Below W.heap.size W W') : Ps W' W'.heap.size a xs := (h.keep hb).more hb.size
/-- What is left of a slice behind its first k. -/
theorem Ps.drop {W : World} {B b off : Nat} {xs : List Pr} (h : Ps W B (some ⟨b, off, none⟩) xs) (k : Nat) : Ps W B (some ⟨b, off + k * 2, none⟩) (xs.drop k) := fun h0 => by
  have hk : k < xs.length := by simp at h0; omega
  obtain ⟨b', off', e, hlt, hc⟩ := h (by omega)
  cases e
  refine ⟨b, off + k * 2, rfl, hlt, fun i hi => ?_⟩
  have hi' : k + i < xs.length := by simp at hi; omega
  obtain ⟨h1, h2⟩ := hc (k + i) hi'
  have e1 : off + k * 2 + i * 2 = off + (k + i) * 2 := by omega
  rw [e1, List.getElem_drop]
  exact ⟨h1, h2⟩
theorem Ps.take {W : World} {B : Nat} {a : Option Addr} {xs : List Pr} (h : Ps W B a xs) (k : Nat) : Ps W B a (xs.take k) := fun h0 => by
  have hk : 0 < xs.length := by simp at h0; omega
  obtain ⟨b, off, e, hlt, hc⟩ := h hk
  refine ⟨b, off, e, hlt, fun i hi => ?_⟩
  have hi' : i < xs.length := by simp at hi; omega
  rw [List.getElem_take]
  exact hc i hi'
theorem own_ps {W : World} {base n : Nat} {v : Value} {xs : List Pr} (h : W.ownsRow base 52 2 v n (cellsOf xs)) (hn : n = xs.length) :
    ∃ a cap, v = .slice a xs.length cap ∧ xs.length ≤ cap ∧ (a = none → cap = 0) ∧ Ps W W.heap.size a xs := by
  subst hn
  rcases h.2 with ⟨rfl, h0⟩ | ⟨g, cap, cur, rfl, hg, hh, hnc, _, hs, htk⟩
  · exact ⟨none, 0, by rw [h0], by omega, fun _ => rfl, fun h1 => by omega⟩
  · refine ⟨some ⟨g, 0, none⟩, cap, rfl, hnc, (fun e => by cases e), fun _ => ⟨g, 0, rfl, heap_lt hh, fun i hi => ?_⟩⟩
    have key : ∀ j, j < 2 → W.cell? ⟨g, 0 + i * 2 + j, none⟩ = (pcells xs[i])[j]? := fun j hj => by
      rw [cell_of_row W g _ _ 52 (0, 0) hh, Nat.zero_add, ← cells_at xs i j hj hi, ← htk, List.getElem?_take_of_lt (by omega), Array.getElem?_toList]
    exact ⟨key 0 (by omega), key 1 (by omega)⟩
/-- A call that hands out pairs, and leaves what was there as it was. -/
def Gives (w : World) (ls : List Pr) (e : Ending) (w' : World) : Prop :=
  ∃ a cap, e = .returned (.slice a ls.length cap) ∧ ls.length ≤ cap ∧ (a = none → cap = 0) ∧ Ps w' w'.heap.size a ls ∧ Below w.heap.size w w'
/-- A slice that reads as l, appended to a row of the call's own. -/
theorem app_ps {w : World} {ops : Array Oper} {rest : List Oper} {o : Oper} {a : Act} {Q : Exit → Act → World → Prop} (hgd : o.guard = none) (s x : Operand)
    (ho : o.op = .call { callee := .builtin .append, args := #[s, x], argTypes := #[33, 33] })
    (base : Nat) (v : Value) (n : Nat) (xs : List Pr) (hs : a.eval s = v) (hown : w.ownsRow base 52 2 v n (cellsOf xs))
    (A : Option Addr) (l : List Pr) (c B : Nat) (hx : a.eval x = .slice A l.length c) (hb : Ps w B A l) (hnil : A = none → c = 0)
    (hn : n + l.length ≤ 1000000000) (hbase : base ≤ w.heap.size)
    (h : ∀ v' w', w'.ownsRow base 52 2 v' (n + l.length) (cellsOf (xs ++ l)) → w.grownBy w' v.ownBlock → wpList Try.prog ops Q rest (a.put o.dst v') w') : wpList Try.prog ops Q (o :: rest) a w := by
  obtain ⟨i0, hi, hz0, hz1, hz2⟩ := info_parts info27
  rw [cells_append] at h
  cases A with
  | none =>
    have hl : l = [] := by
      rcases Nat.eq_zero_or_pos l.length with h0 | h0
      · exact List.eq_nil_of_length_eq_zero h0
      · obtain ⟨_, _, e, _⟩ := hb h0; cases e
    subst hl
    rw [hnil rfl] at hx
    refine wpList_append_own_none hgd s x 33 ho base 52 i0 2 Try.underlying33 hi v n (cellsOf xs) hs hown hx (h v w ?_ (World.grownBy.refl w _))
    simpa [cellsOf] using hown
  | some ad =>
    refine wpList_append_own w hgd s x 33 ho base 52 i0 (.agg #[.int .i64 0, .int .i64 0]) 2 16 Try.underlying33 hi hz0 hz1 hz2 rfl (by decide) v n (cellsOf xs) hs hown ad l.length c (cellsOf l) hx (by rw [cells_length]) ?_ (cells_one l) (by unfold maxLen; omega) (by omega) hbase (fun v' w' h1 h2 _ => h v' w' h1 h2)
    intro j u hj
    have hjl : j < l.length * 2 := by
      have := (List.getElem?_eq_some_iff.1 hj).1
      rwa [cells_length] at this
    obtain ⟨b, off, e, _, hc⟩ := hb (by omega)
    obtain rfl := Option.some.inj e
    rw [add_at]
    obtain ⟨h1, h2⟩ := hc (j / 2) (by omega)
    have hat := cells_at l (j / 2) (j % 2) (by omega) (by omega)
    have ej : j / 2 * 2 + j % 2 = j := by omega
    rw [ej, hj] at hat
    rcases Nat.mod_two_eq_zero_or_one j with hm | hm
    · rw [hm] at hat
      have e2 : off + j = off + j / 2 * 2 := by omega
      rw [e2, h1, hat]; rfl
    · rw [hm] at hat
      have e2 : off + j = off + j / 2 * 2 + 1 := by omega
      rw [e2, h2, hat]; rfl
/-- One pair in a block of its own. -/
theorem ps_one (w : World) (p : Pr) (fr : Nat × Nat) : Ps (w.alloc (.cells #[.int .i64 p.s, .int .i64 p.e] 52 fr)) (w.alloc (.cells #[.int .i64 p.s, .int .i64 p.e] 52 fr)).heap.size (some ⟨w.heap.size, 0, none⟩) [p] := fun _ => by
  refine ⟨w.heap.size, 0, rfl, by simp, fun i hi => ?_⟩
  obtain rfl : i = 0 := by simp at hi; omega
  constructor <;> (rw [cell_of_row _ w.heap.size _ _ 52 fr (heap_alloc_new w _)]; rfl)
/-- A row of the call's own, appended to: what lay below its base is as it was. -/
theorem app_below {B base n : Nat} {w0 w w' : World} {v : Value} {xs : List Value} (h : Below B w0 w) (hown : w.ownsRow base 52 2 v n xs) (hg : w.grownBy w' v.ownBlock) (hB : B ≤ w.heap.size) (hbase : B ≤ base) : Below B w0 w' :=
  h.grown hg hB (fun k hk => by have := own_ge hown hk; omega)
end Go.Proofs.Ytkooanahgffjgaa.Prs
