/- Rows of 256 numbers held against each other. -/
import Derived.Test.YtlepabeibniabaaCg
namespace Go.Proofs.Ytlepabeibniabaa.Cls
open Go.RowKit Go.Maps
set_option maxRecDepth 100000
theorem plain3 : Try.prog.plainKey 3 = true := by kernel_rfl
theorem cells3 : Try.prog.cellsOf 3 = 1 := by kernel_rfl
theorem some3 : (Try.prog.info? 3).isSome = true := by kernel_rfl
theorem info3 : ∃ i, Try.prog.info? 3 = some i := Option.isSome_iff_exists.1 some3
theorem eq_items (l : List Int) (hl : l.length = 256) (d : Nat) (w : World) : ∀ js : List Nat, (∀ j ∈ js, j < 256) → (Op.eqItems (d + 1) 3 1 (icells l) (icells l) js).run Try.prog w = .ok true w
  | [], _ => by simp [Op.eqItems]
  | j :: js, h => by
    have hj : j < l.length := by rw [hl]; exact h j (by simp)
    have q := run_equalIn_int (P := Try.prog) w d 3 .i64 .i64 l[j] l[j] Try.underlying3
    have p : (part 3 (icells l) j).run Try.prog w = .ok (.int .i64 l[j]) w := run_part_plain w plain3 (icells_at l j hj)
    have ih := eq_items l hl d w js (fun j hj => h j (by simp [hj]))
    simp only [Op.eqItems, Sem.run_bind, Nat.mul_one, p, q, Result.andThen_ok]
    simp [ih]
theorem equal_rows (l : List Int) (hl : l.length = 256) (d : Nat) (w : World) : (Op.equalIn (d + 2) 27 (.agg (icells l)) (.agg (icells l))).run Try.prog w = .ok true w := by
  obtain ⟨i, hi⟩ := Cls.info3
  rw [run_equalIn_array w (d + 1) _ _ und27 hi]
  rw [cells3]
  exact eq_items l hl d w _ (fun j hj => by simpa using hj)
theorem equal_cc (f : UInt8 → Bool) (w : World) : (Op.equalIn 10000 27 (.agg (cc f)) (.agg (cc f))).run Try.prog w = .ok true w := equal_rows (tab f) (tab_length f) 9998 w
end Go.Proofs.Ytlepabeibniabaa.Cls
