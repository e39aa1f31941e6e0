/- Contracts of the reference's Kids, and of the statements' own 'texts'. -/
import Derived.Test.YtkooanahgffjgaaTg
namespace Go.Proofs.Ytkooanahgffjgaa.Tri
open Go.RowKit Go.Maps
set_option maxRecDepth 100000

theorem conv_one (w : World) (c : UInt8) : (convert 23 9 (.slice (some ⟨w.heap.size, 0, none⟩) 1 1)).run Try.prog (w.alloc (.cells #[.int .u8 (c.toNat : Int)] 5)) = .ok (.string (str [c])) (w.alloc (.cells #[.int .u8 (c.toNat : Int)] 5)) :=
  str_of_bs (l := [c]) 1 (bs_lit w [c] (0, 0) #[.int .u8 (c.toNat : Int)] rfl)
theorem str_append (x y : Tx) : str x ++ str y = str (x ++ y) := by
  unfold str
  apply ByteArray.ext
  simp
/-- The bytes that lead on from a beginning, as the document tells them. -/
def rkids (ps : List Tx) (s : Tx) : List UInt8 := kidsTo (fun c => decide (0 ≤ place ps (s ++ [c]))) 256
def GivesL (w : World) (xs : List TxV) (e : Ending) (w' : World) : Prop :=
  Below w.heap.size w w' ∧ ((¬ ∀ x ∈ xs, x.text.length ≤ 40) ∧ e = .returned (.tuple #[.slice none 0 0, .bool false]) ∨
    (∀ x ∈ xs, x.text.length ≤ 40) ∧ ∃ a' cap', e = .returned (.tuple #[.slice a' xs.length cap', .bool (decide (xs.length ≤ 12))]) ∧ Ss w' a' (xs.map TxV.text))
theorem takes_snoc {α : Type} (l : List α) (k : Nat) (h : k < l.length) : l.take (k + 1) = l.take k ++ [l[k]] := List.take_succ_eq_append_getElem h
theorem map_at (xs : List TxV) (k : Nat) (h : k < xs.length) : (xs.map TxV.text)[k]'(by simpa using h) = xs[k].text := by simp
end Go.Proofs.Ytkooanahgffjgaa.Tri
