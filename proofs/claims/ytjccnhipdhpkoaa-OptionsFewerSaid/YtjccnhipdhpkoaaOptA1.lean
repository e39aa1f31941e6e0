/- Options: where a letter's field stands, and what each leaf answers. -/
import Derived.Test.YtjccnhipdhpkoaaOptMath
import Derived.Lib.OthersKept
import Derived.Laws.Cover4
namespace Go.Proofs.Ytjccnhipdhpkoaa.Opt
open Go.RowKit
set_option maxRecDepth 100000

/-- Which option a letter asks for. -/
def idx (z : Int) : Option Nat := if z == 105 then some 0 else if z == 119 then some 1 else if z == 120 then some 2 else if z == 111 then some 3 else if z == 98 then some 4 else if z == 118 then some 5 else if z == 99 then some 6 else none
def ptrO (g : Nat) (z : Int) : Value := match idx z with | some k => .pointer (some ⟨g, k, none⟩) | none => .pointer none

theorem field_any (g : Nat) (z : Int) (w : World) :
    Calls Try.prog 22 #[.pointer (some ⟨g, 0, none⟩), .int .i32 z] w fun e w' => e = .returned (ptrO g z) ∧ w = w' := by
  go_enter Try.func22, Try.ntmps22
  go_wp2
  all_goals (go_ret; refine ⟨congrArg Ending.returned ?_, rfl⟩; simp_all [ptrO, idx])

theorem blank_any (z : Int) (w : World) :
    Calls Try.prog 19 #[.int .i32 z] w fun e w' => e = .returned (.bool (z == 32)) ∧ w = w' := by
  go_enter Try.func19, Try.ntmps19
  go_wp2
  go_ret
  exact ⟨rfl, rfl⟩

/-- The value of options. -/
abbrev val7 (a b c d e f g : Bool) : Value := .agg #[.bool a, .bool b, .bool c, .bool d, .bool e, .bool f, .bool g]
/-- Options in a block of their own. -/
def Bk (w : World) (x : Nat) (l : List Bool) : Prop := w.heap[x]? = some (.cells (l.map Value.bool).toArray 24 (0, 0)) ∧ l.length = 7
theorem Bk.lt {w : World} {x : Nat} {l : List Bool} (h : Bk w x l) : x < w.heap.size := txt_lt h.1
theorem Bk.cell {w : World} {x : Nat} {l : List Bool} (h : Bk w x l) {k : Nat} {b : Bool} (hk : l[k]? = some b) : w.cell? ⟨x, k, none⟩ = some (.bool b) := by
  rw [cell_of_row w x _ _ 24 (0, 0) h.1]
  simp [hk]
theorem Bk.free {w : World} {x : Nat} {l : List Bool} (h : Bk w x l) (k : Nat) : w.frozen? ⟨x, k, none⟩ = false := by
  simp [World.frozen?, h.1]
theorem Bk.keep {w w' : World} {B x : Nat} {l : List Bool} (h : Bk w x l) (hb : Below B w w') (hx : x < B) : Bk w' x l := ⟨(hb.block x hx).trans h.1, h.2⟩
theorem Bk.set {w : World} {x : Nat} {l : List Bool} (h : Bk w x l) (k : Nat) (b : Bool) : Bk (w.setCell ⟨x, k, none⟩ (.bool b)) x (l.set k b) := by
  refine ⟨?_, by rw [List.length_set]; exact h.2⟩
  rw [heap_set_same h.1]
  simp [List.map_set]
theorem Bk.iter {w : World} {x : Nat} {l : List Bool} (h : Bk w x l) {j : Nat} {s : ByteArray} {p : Nat} (hj : w.heap[j]? = some (.stringIter s p)) (p' : Nat) : Bk (w.iterAt j s p') x l := by
  refine ⟨?_, h.2⟩
  rw [Lib.iterAt_other _ _ _ _ _ (fun e => by subst e; rw [h.1] at hj; cases hj)]
  exact h.1
theorem bk_new (w : World) (a b c d e f g : Bool) : Bk (w.alloc (.cells #[.bool a, .bool b, .bool c, .bool d, .bool e, .bool f, .bool g] 24)) w.heap.size [a, b, c, d, e, f, g] := ⟨heap_alloc_new w _, rfl⟩

theorem check_any (a b c d e f g : Bool) (w : World) :
    Calls Try.prog 16 #[val7 a b c d e f g] w fun r w' => r = .returned (.int .i64 (if badO [a, b, c, d, e, f, g] then 10 else 0)) ∧ Below w.heap.size w w' := by
  go_enter Try.func16, Try.ntmps16
  cases d <;> cases e <;> cases f <;> cases g <;> (go_wp2; go_ret; exact ⟨rfl, (Below.refl _ _).alloc (Nat.le_refl _) _⟩)

end Go.Proofs.Ytjccnhipdhpkoaa.Opt
