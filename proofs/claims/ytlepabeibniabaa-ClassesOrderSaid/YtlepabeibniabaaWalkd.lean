/- Contracts of fold.Bytes and Fixed. -/
import Derived.Test.YtlepabeibniabaaWalkc
import Derived.Laws.MakeOwn
import Derived.OwnWalk
import Derived.ChangeKeysEq
namespace Go.Proofs.Ytlepabeibniabaa
open Go.RowKit
set_option maxRecDepth 100000

/-- A call that hands out a slice of bytes that reads as l, and leaves what was there as it was. -/
def GivesBytes (w : World) (l : List UInt8) (e : Ending) (w' : World) : Prop :=
  ∃ a cap, e = .returned (.slice a l.length cap) ∧ Bs w' w'.heap.size a l ∧ Below w.heap.size w w'

/-- A block of bytes whose first k cells are those of l. -/
def RowTo (w : World) (g n k : Nat) (l : List UInt8) : Prop :=
  ∃ cs : Array Value, w.heap[g]? = some (.cells cs 5 (0, 0)) ∧ cs.size = n ∧ ∀ i, i < k → ∀ h : i < l.length, cs[i]? = some (.int .u8 (l[i].toNat : Int))
theorem RowTo.at_ {w : World} {g n k i : Nat} {l : List UInt8} (h : RowTo w g n k l) (hi : i < n) : (∃ v, w.cell? ⟨g, i, none⟩ = some v) ∧ w.frozen? ⟨g, i, none⟩ = false := by
  obtain ⟨cs, hh, hs, _⟩ := h
  refine ⟨⟨cs[i]'(by omega), ?_⟩, ?_⟩
  · rw [cell_of_row w g _ _ 5 (0, 0) hh]
    exact Array.getElem?_eq_getElem _
  · simp [World.frozen?, hh]
theorem RowTo.put {w : World} {g n k : Nat} {l : List UInt8} (h : RowTo w g n k l) (hk : k < l.length) (hn : k < n) : RowTo (w.setCell ⟨g, k, none⟩ (.int .u8 (l[k].toNat : Int))) g n (k + 1) l := by
  obtain ⟨cs, hh, hs, hc⟩ := h
  refine ⟨_, heap_set_same hh, by simpa using hs, fun i hi hl => ?_⟩
  by_cases e : i = k
  · subst e; rw [Array.getElem?_setIfInBounds_self_of_lt (by omega)]
  · rw [Array.getElem?_setIfInBounds_ne (by omega)]; exact hc i (by omega) hl
theorem RowTo.keep {w w' : World} {B g n k : Nat} {l : List UInt8} (h : RowTo w g n k l) (hb : Below B w w') (hg : g < B) : RowTo w' g n k l := by
  obtain ⟨cs, hh, hs, hc⟩ := h
  exact ⟨cs, (hb.block g hg).trans hh, hs, hc⟩
theorem RowTo.lt {w : World} {g n k : Nat} {l : List UInt8} (h : RowTo w g n k l) : g < w.heap.size := by
  obtain ⟨cs, hh, _⟩ := h
  rcases Nat.lt_or_ge g w.heap.size with hlt | hge
  · exact hlt
  · rw [Array.getElem?_eq_none hge] at hh; cases hh
theorem RowTo.bs {w : World} {g n : Nat} {l : List UInt8} (h : RowTo w g n l.length l) : Bs w w.heap.size (some ⟨g, 0, none⟩) l := fun _ => by
  refine ⟨g, 0, rfl, h.lt, fun i hi => ?_⟩
  obtain ⟨cs, hh, _, hc⟩ := h
  rw [Nat.zero_add, cell_of_row w g _ _ 5 (0, 0) hh]
  exact hc i hi hi

theorem und31 : Try.prog.underlying 43 = some (.array 4 41) := by kernel_rfl
theorem und29 : Try.prog.underlying 41 = some (.int .u64) := by kernel_rfl
theorem plain29 : Try.prog.plainKey 41 = true := by kernel_rfl
theorem cells29 : Try.prog.cellsOf 41 = 1 := by kernel_rfl
theorem some29 : (Try.prog.info? 41).isSome = true := by kernel_rfl
theorem info29 : ∃ i, Try.prog.info? 41 = some i := Option.isSome_iff_exists.1 some29
theorem beq_sets {N M : Nat} (hN : N < 2 ^ 256) (hM : M < 2 ^ 256) :
    (N == M) = (((wd N 0 : Int) == (wd M 0 : Int)) && (((wd N 1 : Int) == (wd M 1 : Int)) && (((wd N 2 : Int) == (wd M 2 : Int)) && ((wd N 3 : Int) == (wd M 3 : Int))))) := by
  rw [Bool.eq_iff_iff]
  simp only [beq_iff_eq, Bool.and_eq_true]
  constructor
  · rintro rfl; exact ⟨rfl, rfl, rfl, rfl⟩
  · rintro ⟨h0, h1, h2, h3⟩
    exact wd_inj hN hM (by omega) (by omega) (by omega) (by omega)
theorem equal_sets {N M : Nat} (hN : N < 2 ^ 256) (hM : M < 2 ^ 256) (w : World) (d : Nat) :
    (Op.equalIn (d + 2) 43 (setV N) (setV M)).run Try.prog w = .ok (N == M) w := by
  obtain ⟨i, hi⟩ := info29
  unfold setV
  rw [run_equalIn_array w (d + 1) _ _ und31 hi, beq_sets hN hM, cells29]
  have e : List.range 4 = [0, 1, 2, 3] := rfl
  rw [e]
  have q : ∀ a b : Int, (Op.equalIn (d + 1) 41 (.int .u64 a) (.int .u64 b)).run Try.prog w = .ok (a == b) w := fun a b => run_equalIn_int w d 41 .u64 .u64 a b und29
  have p : ∀ (xs : Array Value) (j : Nat) (v : Value), xs[j]? = some v → (part 41 xs j).run Try.prog w = .ok v w := fun xs j v h => run_part_plain w plain29 h
  simp only [Op.eqItems, Sem.run_bind, Nat.mul_one]
  rw [p _ 0 (.int .u64 (wd N 0)) rfl, Result.andThen_ok, p _ 0 (.int .u64 (wd M 0)) rfl, Result.andThen_ok, q, Result.andThen_ok]
  cases h0 : ((wd N 0 : Int) == (wd M 0 : Int))
  · simp
  simp only [Bool.not_true, Bool.false_eq_true, if_false, Sem.run_bind, Bool.true_and]
  rw [p _ 1 (.int .u64 (wd N 1)) rfl, Result.andThen_ok, p _ 1 (.int .u64 (wd M 1)) rfl, Result.andThen_ok, q, Result.andThen_ok]
  cases h1 : ((wd N 1 : Int) == (wd M 1 : Int))
  · simp
  simp only [Bool.not_true, Bool.false_eq_true, if_false, Sem.run_bind, Bool.true_and]
  rw [p _ 2 (.int .u64 (wd N 2)) rfl, Result.andThen_ok, p _ 2 (.int .u64 (wd M 2)) rfl, Result.andThen_ok, q, Result.andThen_ok]
  cases h2 : ((wd N 2 : Int) == (wd M 2 : Int))
  · simp
  simp only [Bool.not_true, Bool.false_eq_true, if_false, Sem.run_bind, Bool.true_and]
  rw [p _ 3 (.int .u64 (wd N 3)) rfl, Result.andThen_ok, p _ 3 (.int .u64 (wd M 3)) rfl, Result.andThen_ok, q, Result.andThen_ok]
  cases h3 : ((wd N 3 : Int) == (wd M 3 : Int)) <;> simp
theorem eql_sets {N M : Nat} (hN : N < 2 ^ 256) (hM : M < 2 ^ 256) (w : World) :
    (binOp .eql 43 (setV N) (setV M)).run Try.prog w = .ok (.bool (N == M)) w := by
  have h := equal_sets hN hM w 9998
  unfold setV at h ⊢
  rw [run_eql_struct, h]; rfl
theorem neq_sets {N M : Nat} (hN : N < 2 ^ 256) (hM : M < 2 ^ 256) (w : World) :
    (binOp .neq 43 (setV N) (setV M)).run Try.prog w = .ok (.bool (!(N == M))) w := by
  have h := equal_sets hN hM w 9998
  unfold setV at h ⊢
  rw [run_neq_struct, h]; rfl

theorem guard_sets (op : BinOp) (x y : Operand) (N M : Nat) (w : World) : (eqGuard op 43 x y (setV N) (setV M)).run Try.prog w = .ok () w :=
  run_eqGuard_agg w op 43 x y _ _ Try.eqGuardType43
theorem fixed_beq (l : List UInt8) : (setOf (lows l) == setOf l) = (lows l == l) := by
  rw [Bool.eq_iff_iff, beq_iff_eq, beq_iff_eq]; exact fixed_iff l
end Go.Proofs.Ytlepabeibniabaa
