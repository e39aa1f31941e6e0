/- Contracts of the reference: Fail, Out, Ends, Same. -/
import Derived.Test.YtkooanahgffjgaaLBase
import Derived.Test.YtkooanahgffjgaaTh
namespace Go.Proofs.Ytkooanahgffjgaa.Lnk
open Go.RowKit Go.Maps Go.Proofs.Ytkooanahgffjgaa.Tri
set_option maxRecDepth 100000

theorem str_drop (x : Tx) (k : Nat) : (str x).extract k x.length = str (x.drop k) := by
  unfold str
  rw [ByteArray.extract_mk]
  congr 1
  show (List.take (x.length - k) (x.drop k)).toArray = _
  rw [List.take_of_length_le (by simp)]
theorem drop_at (s : Tx) (k : Nat) (h : k < s.length) : s.drop k = s[k] :: s.drop (k + 1) := List.drop_eq_getElem_cons h
theorem ib_eq (x y : Int) : (x != y) = decide (x ≠ y) := by
  rw [Bool.eq_iff_iff]; simp
end Go.Proofs.Ytkooanahgffjgaa.Lnk
