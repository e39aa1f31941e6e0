/- Contracts of fold.Word, the reference's Byte and Word, and the examples of the document. -/
import Derived.Test.YtlepabeibniabaaWalkd
import Derived.Laws.IdiomStrings
import Derived.Lib.SlBytesConst
namespace Go.Proofs.Ytlepabeibniabaa
open Go.RowKit
set_option maxRecDepth 100000

theorem word_of (n m : Nat) (hl : n < 256) (h : m = if 65 ≤ n ∧ n ≤ 90 then n + 32 else n) :
    isWord n = (decide (97 ≤ (m : Int) ∧ (m : Int) ≤ 122) || (decide (48 ≤ (n : Int) ∧ (n : Int) ≤ 57) || decide ((n : Int) = 95))) := by
  unfold isWord
  rw [Bool.eq_iff_iff]
  simp only [decide_eq_true_eq, Bool.or_eq_true]
  split at h <;> omega
theorem rword_of (n : Nat) : isWord n = ((decide (65 ≤ (n : Int) ∧ (n : Int) ≤ 90)) || (decide (97 ≤ (n : Int) ∧ (n : Int) ≤ 122)) || (decide (48 ≤ (n : Int) ∧ (n : Int) ≤ 57) || decide ((n : Int) = 95))) := by
  unfold isWord
  rw [Bool.eq_iff_iff]
  simp only [decide_eq_true_eq, Bool.or_eq_true]
  omega
end Go.Proofs.Ytlepabeibniabaa
