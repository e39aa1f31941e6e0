/- Contracts of Find, Path and Kids. -/
import Derived.Test.YtkooanahgffjgaaTa
namespace Go.Proofs.Ytkooanahgffjgaa.Tri
open Go.RowKit Go.Maps
set_option maxRecDepth 100000

theorem step_take {ps : List Tx} {b : Tx} {k : Nat} (hk : k < b.length) (hm : b.take k ∈ ps) : stepOf ps (place ps (b.take k)) b[k] = place ps (b.take (k + 1)) := by
  obtain ⟨i, hi, e, e2, _⟩ := place_mem hm
  rw [e, stepOf_at hi, e2, List.take_succ_eq_append_getElem hk]
end Go.Proofs.Ytkooanahgffjgaa.Tri
