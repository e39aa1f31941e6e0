/- Contracts of fold.Bytes and Fixed. -/
import Derived.Test.YtobkljjbemfkeaaWalkc
import Derived.Laws.MakeOwn
import Derived.OwnWalk
import Derived.ChangeKeysEq
namespace Go.Proofs.Ytobkljjbemfkeaa
open Go.RowKit

/-- A call that hands out a slice of bytes that reads as l, and leaves what was there as it was. -/
def GivesBytes (w : World) (l : List UInt8) (e : Ending) (w' : World) : Prop :=
  ∃ a cap, e = .returned (.slice a l.length cap) ∧ Bs w' w'.heap.size a l ∧ Below w.heap.size w w'

theorem info5 : (Try.prog.info? 5).map (fun i => (i.zero, i.size, i.bytes)) = some (some (.int .u8 0), 1, 1) := by kernel_rfl

/-- A block of bytes whose first k cells are those of l. -/
def RowTo (w : World) (g n k : Nat) (l : List UInt8) : Prop :=
  ∃ cs : Array Value, w.heap[g]? = some (.cells cs 5 (0, 0)) ∧ cs.size = n ∧ ∀ i, i < k → ∀ h : i < l.length, cs[i]? = some (.int .u8 (l[i].toNat : Int))
theorem RowTo.at_ {w : World} {g n k i : Nat} {l : List UInt8} (h : RowTo w g n k l) (hi : i < n) : (∃ v, w.cell? ⟨g, i, none⟩ = some v) ∧ w.frozen? ⟨g, i, none⟩ = false := by
  obtain ⟨cs, hh, hs, _⟩ := h
  refine ⟨⟨cs[i]'(by omega), ?_⟩, ?_⟩
  · rw [cell_of_row w g _ _ 5 (0, 0) hh]
    exact Array.getElem?_eq_getElem _
  · simp [World.frozen?, hh]
theorem RowTo.put {w : World} {g n k : Nat} {l : List UInt8} (h : RowTo w g n k l) (hk : k < l.length) (hn : k < n) : RowTo (w.setCell ⟨g, k, none⟩ (.int .u8 (l[k].toNat : Int))) g n (k + 1) l := by
  obtain ⟨cs, hh, hs, hc⟩ := h
  refine ⟨_, heap_set_same hh, by simpa using hs, fun i hi hl => ?_⟩
  by_cases e : i = k
  · subst e; rw [Array.getElem?_setIfInBounds_self_of_lt (by omega)]
  · rw [Array.getElem?_setIfInBounds_ne (by omega)]; exact hc i (by omega) hl
theorem RowTo.keep {w w' : World} {B g n k : Nat} {l : List UInt8} (h : RowTo w g n k l) (hb : Below B w w') (hg : g < B) : RowTo w' g n k l := by
  obtain ⟨cs, hh, hs, hc⟩ := h
  exact ⟨cs, (hb.block g hg).trans hh, hs, hc⟩
theorem RowTo.lt {w : World} {g n k : Nat} {l : List UInt8} (h : RowTo w g n k l) : g < w.heap.size := by
  obtain ⟨cs, hh, _⟩ := h
  rcases Nat.lt_or_ge g w.heap.size with hlt | hge
  · exact hlt
  · rw [Array.getElem?_eq_none hge] at hh; cases hh
theorem RowTo.bs {w : World} {g n : Nat} {l : List UInt8} (h : RowTo w g n l.length l) : Bs w w.heap.size (some ⟨g, 0, none⟩) l := fun _ => by
  refine ⟨g, 0, rfl, h.lt, fun i hi => ?_⟩
  obtain ⟨cs, hh, _, hc⟩ := h
  rw [Nat.zero_add, cell_of_row w g _ _ 5 (0, 0) hh]
  exact hc i hi hi

set_option maxHeartbeats 4000000 in
theorem bytes_any (l : List UInt8) (a : Option Addr) (cap : Nat) (w : World) (hl : l.length ≤ 1000000000000) (hb : Bs w w.heap.size a l) :
    Calls Try.prog 11 #[.slice a l.length cap] w (GivesBytes w (lows l)) := by
  obtain ⟨i0, hi, hz0, hz1, hz2⟩ := info_parts info5
  have hmk := fun W : World => run_make (P := Try.prog) W 22 5 i0 (.int .u8 0) Try.underlying22 hi hz0 .i64 .i64 (l.length : Int) (l.length : Int) (by omega) (Int.le_refl _) (by rw [hz2]; omega) (by omega)
  simp only [Int.toNat_natCast, hz1, Nat.mul_one] at hmk
  have hlow : (lows l).length = l.length := by simp [lows]
  have HL := Lib.hid hlow
  clear hlow hi hz0 hz1 hz2
  go_enter Try.func11, Try.ntmps11
  go_wp2
  go_loopw [11] (fun i wr => ∃ k : Nat, k ≤ l.length ∧ i = .int .i64 k ∧ RowTo wr w.heap.size l.length k (lows l) ∧ Below w.heap.size w wr)
    (fun i _ => l.length - (intOf i).toNat)
  case atStart =>
    refine ⟨0, Nat.zero_le _, rfl, ⟨_, heap_alloc_new w _, size_madeCells _ _, fun i hi => absurd hi (by omega)⟩, (Below.refl _ _).alloc (Nat.le_refl _) _⟩
  case round =>
    obtain ⟨k, hk, rfl, hr, hbel⟩ := hrel
    by_cases hlt : k < l.length
    · obtain ⟨b, off, rfl, hbl, hc⟩ := hb (by omega)
      have hck : wr.cell? ⟨b, off + k, none⟩ = some (.int .u8 (l[k].toNat : Int)) := (hbel.cell (p := ⟨b, off + k, none⟩) hbl).trans (hc k hlt)
      obtain ⟨⟨v, hv⟩, hf⟩ := hr.at_ hlt
      have HC := Lib.hid hc
      clear hc
      go_wp2_with (go_at_call 13; refine (byte_any _ _).mono ?_; rintro e w1 ⟨rfl, rfl⟩)
      go_roundw
      case rel =>
        have hll := HL.out
        have e : (low l[k]).toNat = ((lows l)[k]'(by omega)).toNat := by simp [lows]
        refine ⟨k + 1, by omega, by go_num, ?_, ?_⟩
        · rw [e]; exact hr.put (by omega) hlt
        · exact hbel.setCell (Nat.le_refl _) _
      case measure => simp [intOf]; omega
    · have e : k = l.length := by omega
      go_wp2
      go_ret
      refine ⟨some ⟨w.heap.size, 0, none⟩, l.length, ?_, ?_, hbel⟩
      · rw [HL.out]; rfl
      · apply RowTo.bs (n := l.length)
        rw [HL.out]; rw [e] at hr; exact hr

theorem und31 : Try.prog.underlying 31 = some (.array 4 29) := by kernel_rfl
theorem und29 : Try.prog.underlying 29 = some (.int .u64) := by kernel_rfl
theorem plain29 : Try.prog.plainKey 29 = true := by kernel_rfl
theorem cells29 : Try.prog.cellsOf 29 = 1 := by kernel_rfl
theorem some29 : (Try.prog.info? 29).isSome = true := by kernel_rfl
theorem info29 : ∃ i, Try.prog.info? 29 = some i := Option.isSome_iff_exists.1 some29
theorem beq_sets {N M : Nat} (hN : N < 2 ^ 256) (hM : M < 2 ^ 256) :
    (N == M) = (((wd N 0 : Int) == (wd M 0 : Int)) && (((wd N 1 : Int) == (wd M 1 : Int)) && (((wd N 2 : Int) == (wd M 2 : Int)) && ((wd N 3 : Int) == (wd M 3 : Int))))) := by
  rw [Bool.eq_iff_iff]
  simp only [beq_iff_eq, Bool.and_eq_true]
  constructor
  · rintro rfl; exact ⟨rfl, rfl, rfl, rfl⟩
  · rintro ⟨h0, h1, h2, h3⟩
    exact wd_inj hN hM (by omega) (by omega) (by omega) (by omega)
theorem equal_sets {N M : Nat} (hN : N < 2 ^ 256) (hM : M < 2 ^ 256) (w : World) (d : Nat) :
    (Op.equalIn (d + 2) 31 (setV N) (setV M)).run Try.prog w = .ok (N == M) w := by
  obtain ⟨i, hi⟩ := info29
  unfold setV
  rw [run_equalIn_array w (d + 1) _ _ und31 hi, beq_sets hN hM, cells29]
  have e : List.range 4 = [0, 1, 2, 3] := rfl
  rw [e]
  have q : ∀ a b : Int, (Op.equalIn (d + 1) 29 (.int .u64 a) (.int .u64 b)).run Try.prog w = .ok (a == b) w := fun a b => run_equalIn_int w d 29 .u64 .u64 a b und29
  have p : ∀ (xs : Array Value) (j : Nat) (v : Value), xs[j]? = some v → (part 29 xs j).run Try.prog w = .ok v w := fun xs j v h => run_part_plain w plain29 h
  simp only [Op.eqItems, Sem.run_bind, Nat.mul_one]
  rw [p _ 0 (.int .u64 (wd N 0)) rfl, Result.andThen_ok, p _ 0 (.int .u64 (wd M 0)) rfl, Result.andThen_ok, q, Result.andThen_ok]
  cases h0 : ((wd N 0 : Int) == (wd M 0 : Int))
  · simp
  simp only [Bool.not_true, Bool.false_eq_true, if_false, Sem.run_bind, Bool.true_and]
  rw [p _ 1 (.int .u64 (wd N 1)) rfl, Result.andThen_ok, p _ 1 (.int .u64 (wd M 1)) rfl, Result.andThen_ok, q, Result.andThen_ok]
  cases h1 : ((wd N 1 : Int) == (wd M 1 : Int))
  · simp
  simp only [Bool.not_true, Bool.false_eq_true, if_false, Sem.run_bind, Bool.true_and]
  rw [p _ 2 (.int .u64 (wd N 2)) rfl, Result.andThen_ok, p _ 2 (.int .u64 (wd M 2)) rfl, Result.andThen_ok, q, Result.andThen_ok]
  cases h2 : ((wd N 2 : Int) == (wd M 2 : Int))
  · simp
  simp only [Bool.not_true, Bool.false_eq_true, if_false, Sem.run_bind, Bool.true_and]
  rw [p _ 3 (.int .u64 (wd N 3)) rfl, Result.andThen_ok, p _ 3 (.int .u64 (wd M 3)) rfl, Result.andThen_ok, q, Result.andThen_ok]
  cases h3 : ((wd N 3 : Int) == (wd M 3 : Int)) <;> simp
theorem eql_sets {N M : Nat} (hN : N < 2 ^ 256) (hM : M < 2 ^ 256) (w : World) :
    (binOp .eql 31 (setV N) (setV M)).run Try.prog w = .ok (.bool (N == M)) w := by
  have h := equal_sets hN hM w 9998
  unfold setV at h ⊢
  rw [run_eql_struct, h]; rfl
theorem neq_sets {N M : Nat} (hN : N < 2 ^ 256) (hM : M < 2 ^ 256) (w : World) :
    (binOp .neq 31 (setV N) (setV M)).run Try.prog w = .ok (.bool (!(N == M))) w := by
  have h := equal_sets hN hM w 9998
  unfold setV at h ⊢
  rw [run_neq_struct, h]; rfl

theorem guard_sets (op : BinOp) (x y : Operand) (N M : Nat) (w : World) : (eqGuard op 31 x y (setV N) (setV M)).run Try.prog w = .ok () w :=
  run_eqGuard_agg w op 31 x y _ _ Try.eqGuardType31
theorem fixed_beq (l : List UInt8) : (setOf (lows l) == setOf l) = (lows l == l) := by
  rw [Bool.eq_iff_iff, beq_iff_eq, beq_iff_eq]; exact fixed_iff l
set_option maxHeartbeats 4000000 in
theorem fixed_any (l : List UInt8) (a : Option Addr) (cap : Nat) (w : World) (hl : l.length ≤ 1000000000000) (hb : Bs w w.heap.size a l) :
    Calls Try.prog 12 #[.slice a l.length cap] w fun e w' => e = .returned (.bool (lows l == l)) ∧ Below w.heap.size w w' := by
  have hq := fun W => eql_sets (setOf_lt (lows l)) (setOf_lt l) W
  have hg := fun x y W => guard_sets .eql x y (setOf (lows l)) (setOf l) W
  rw [← fixed_beq]
  go_enter Try.func12, Try.ntmps12
  go_wp2_with fail
  go_at_call 11
  refine (bytes_any l a cap _ hl hb).mono ?_
  rintro e w1 ⟨a1, cap1, rfl, hb1, hbel1⟩
  have hlow : (lows l).length ≤ 1000000000000 := by simpa [lows] using hl
  go_wp2_with fail
  go_at_call 17
  refine (of_any (lows l) a1 cap1 _ hlow hb1).mono ?_
  rintro e w2 ⟨rfl, hbel2⟩
  have hbel : Below w.heap.size w w2 := hbel1.trans (hbel2.mono hbel1.size)
  go_wp2_with fail
  go_at_call 17
  refine (of_any l a cap _ hl ((hb.keep hbel).more hbel.size)).mono ?_
  rintro e w3 ⟨rfl, hbel3⟩
  go_wp2
  go_ret
  exact ⟨rfl, hbel.trans (hbel3.mono hbel.size)⟩
end Go.Proofs.Ytobkljjbemfkeaa
