/-
  No cell of these rows narrows 'for every input' (looked for: loops, veiled, ifaces, maps, wideKeys, modest, calm, conditions, laid).
  DERIVED. THE GIVEN ROWS OF THIS SEAT. 5 by the template 'for every input the law returns true; each argument reads behind the call as it read before'; 0 by the template 'total and deterministic' (their statements: YthcmioobldpbjaaTotals.lean).
  GIVEN WITH THE SEED: the statements are not yours to turn. If you find one false, say at which input.
  Laid BY PROGRAM, IN A SANDBOX (cutbox-rows.mjs): the forced cells as the released guide's own fill.sh prints them over the translation 3db6c0a96bbf1d0c… (all of the seat's roots in one cut). By AI agents, Wed Nov 11 2026. No macro, syntax, notation, axiom, sorry.
-/
import Derived.Test.YthcmioobldpbjaaChecked
import GoSem.Claim
import GoSem.ClaimJoined
import GoSem.ClaimMapViews
import Derived.JoinedTies
import Derived.KernelRfl
namespace Go.Proofs.Ythcmioobldpbjaa
/- THE CELL 'sum', in the pinned program and in every row, IS THE sha256 OF THE DUMP (.gsa) THAT YthcmioobldpbjaaProg.lean LOADS. Nothing in Lean hashes anything: it is a label: what it is worth is what the hold of that sum in a sandbox is worth. -/
noncomputable def Try.pinned : Pinned := { name := "ythcmioobldpbjaa", sum := "3db6c0a96bbf1d0c582137ce74112f87dba4aea56a59f3a187f447c07d4a2415", checked := Try.checked }
namespace Rows
def none {H : Type} : Left H := { results := [], args := [] }

/-- 'seinelaw03.PairsSort': WHATEVER THE INPUT: true; the input reads as it did. -/
def pairsSortSpec : ChangeSpec := { name := "pairsSort", fn := fun _ => fun
  | [d1, d2] => { results := [.lit (.bool true)], args := [d1, d2] }
  | _ => none }
def pairsSortRow : OpenClaim := { program := "ythcmioobldpbjaa", sum := "3db6c0a96bbf1d0c582137ce74112f87dba4aea56a59f3a187f447c07d4a2415", func := "seine/seinelaw03.PairsSort", spec := "pairsSort", unfollowed := true, recurses := true, apart := false }
def PairsSortSaid : Prop := pairsSortRow.holds Try.pinned (OpenSpec.ofChange pairsSortSpec)

/-- ITS FALSE NEIGHBOUR: 'it returns false'. Refute it at one input. -/
def pairsSortWrong : ChangeSpec := { name := "pairsSort", fn := fun _ => fun
  | [d1, d2] => { results := [.lit (.bool false)], args := [d1, d2] }
  | _ => none }
def PairsSortWrongFalsely : Prop := pairsSortRow.holds Try.pinned (OpenSpec.ofChange pairsSortWrong)

/-- 'seinelaw03.PairsOrder': WHATEVER THE INPUT: true; the input reads as it did. -/
def pairsOrderSpec : ChangeSpec := { name := "pairsOrder", fn := fun _ => fun
  | [d1, d2, d3] => { results := [.lit (.bool true)], args := [d1, d2, d3] }
  | _ => none }
def pairsOrderRow : OpenClaim := { program := "ythcmioobldpbjaa", sum := "3db6c0a96bbf1d0c582137ce74112f87dba4aea56a59f3a187f447c07d4a2415", func := "seine/seinelaw03.PairsOrder", spec := "pairsOrder", unfollowed := true, recurses := true, apart := false }
def PairsOrderSaid : Prop := pairsOrderRow.holds Try.pinned (OpenSpec.ofChange pairsOrderSpec)

/-- ITS FALSE NEIGHBOUR: 'it returns false'. Refute it at one input. -/
def pairsOrderWrong : ChangeSpec := { name := "pairsOrder", fn := fun _ => fun
  | [d1, d2, d3] => { results := [.lit (.bool false)], args := [d1, d2, d3] }
  | _ => none }
def PairsOrderWrongFalsely : Prop := pairsOrderRow.holds Try.pinned (OpenSpec.ofChange pairsOrderWrong)

/-- 'seinelaw03.PairsOnce': WHATEVER THE INPUT: true; the input reads as it did. -/
def pairsOnceSpec : ChangeSpec := { name := "pairsOnce", fn := fun _ => fun
  | [d] => { results := [.lit (.bool true)], args := [d] }
  | _ => none }
def pairsOnceRow : OpenClaim := { program := "ythcmioobldpbjaa", sum := "3db6c0a96bbf1d0c582137ce74112f87dba4aea56a59f3a187f447c07d4a2415", func := "seine/seinelaw03.PairsOnce", spec := "pairsOnce", unfollowed := true, recurses := true, apart := false }
def PairsOnceSaid : Prop := pairsOnceRow.holds Try.pinned (OpenSpec.ofChange pairsOnceSpec)

/-- ITS FALSE NEIGHBOUR: 'it returns false'. Refute it at one input. -/
def pairsOnceWrong : ChangeSpec := { name := "pairsOnce", fn := fun _ => fun
  | [d] => { results := [.lit (.bool false)], args := [d] }
  | _ => none }
def PairsOnceWrongFalsely : Prop := pairsOnceRow.holds Try.pinned (OpenSpec.ofChange pairsOnceWrong)

/-- 'seinelaw03.PairsMerge': WHATEVER THE INPUT: true; the input reads as it did. -/
def pairsMergeSpec : ChangeSpec := { name := "pairsMerge", fn := fun _ => fun
  | [d1, d2, d3] => { results := [.lit (.bool true)], args := [d1, d2, d3] }
  | _ => none }
def pairsMergeRow : OpenClaim := { program := "ythcmioobldpbjaa", sum := "3db6c0a96bbf1d0c582137ce74112f87dba4aea56a59f3a187f447c07d4a2415", func := "seine/seinelaw03.PairsMerge", spec := "pairsMerge", unfollowed := true, recurses := true, apart := false }
def PairsMergeSaid : Prop := pairsMergeRow.holds Try.pinned (OpenSpec.ofChange pairsMergeSpec)

/-- ITS FALSE NEIGHBOUR: 'it returns false'. Refute it at one input. -/
def pairsMergeWrong : ChangeSpec := { name := "pairsMerge", fn := fun _ => fun
  | [d1, d2, d3] => { results := [.lit (.bool false)], args := [d1, d2, d3] }
  | _ => none }
def PairsMergeWrongFalsely : Prop := pairsMergeRow.holds Try.pinned (OpenSpec.ofChange pairsMergeWrong)

/-- 'seinelaw03.PairsFits': WHATEVER THE INPUT: true; the input reads as it did. -/
def pairsFitsSpec : ChangeSpec := { name := "pairsFits", fn := fun _ => fun
  | [d1, d2] => { results := [.lit (.bool true)], args := [d1, d2] }
  | _ => none }
def pairsFitsRow : OpenClaim := { program := "ythcmioobldpbjaa", sum := "3db6c0a96bbf1d0c582137ce74112f87dba4aea56a59f3a187f447c07d4a2415", func := "seine/seinelaw03.PairsFits", spec := "pairsFits", unfollowed := true, recurses := true, apart := false }
def PairsFitsSaid : Prop := pairsFitsRow.holds Try.pinned (OpenSpec.ofChange pairsFitsSpec)

/-- ITS FALSE NEIGHBOUR: 'it returns false'. Refute it at one input. -/
def pairsFitsWrong : ChangeSpec := { name := "pairsFits", fn := fun _ => fun
  | [d1, d2] => { results := [.lit (.bool false)], args := [d1, d2] }
  | _ => none }
def PairsFitsWrongFalsely : Prop := pairsFitsRow.holds Try.pinned (OpenSpec.ofChange pairsFitsWrong)

/- THE SECOND FORM. 'bulk': how many values and letters a reading holds, each counted each time it is reached (what is shared counts as often as it is met; a slice's spare places count too). A statement '..UptoSaid' is the law's where the arguments, and the package variables that the reading takes, are together of bulk at most 1048576: NARROWER than '..Said'. Prove '..Said' where nothing that the law and all that it calls make is longer than what came in: it says more and counts as full. Else prove '..UptoSaid'. A law counts once. -/
mutual
def uptoBulk {H : Type} : DataW H → Nat
  | .lit (.string bytes) => bytes.length + 1
  | .lit _ => 1
  | .nil => 1
  | .ptr d => uptoBulk d + 1
  | .slice elems spare => uptoBulkAll elems + uptoBulkAll spare + 1
  | .agg parts => uptoBulkAll parts + 1
  | .iface _ d => uptoBulk d + 1
  | .map entries => uptoBulkEntries entries + 1
  | .held _ => 1
def uptoBulkAll {H : Type} : List (DataW H) → Nat
  | [] => 0
  | d :: r => uptoBulk d + uptoBulkAll r
def uptoBulkEntries {H : Type} : List (Lit × DataW H) → Nat
  | [] => 0
  | x :: r => uptoBulkEntry x + uptoBulkEntries r
def uptoBulkEntry {H : Type} : Lit × DataW H → Nat
  | (.string bytes, d) => bytes.length + uptoBulk d + 1
  | (_, d) => uptoBulk d + 1
 end
def uptoSmall : (H : Type) → List (DataW H) → Bool := fun _ ds => decide (uptoBulkAll ds ≤ 1048576)
def OpenSpec.upto (s : _root_.Go.ChangeSpec) : _root_.Go.OpenSpec := { _root_.Go.OpenSpec.ofChange s with cond := some uptoSmall }

/-- 'seinelaw03.PairsSort', WHERE WHAT IT READS IS OF BULK AT MOST 1048576: true; the input reads as it did. -/
def pairsSortUptoRow : OpenClaim := { program := "ythcmioobldpbjaa", sum := "3db6c0a96bbf1d0c582137ce74112f87dba4aea56a59f3a187f447c07d4a2415", func := "seine/seinelaw03.PairsSort", spec := "pairsSort", unfollowed := true, recurses := true, apart := false, narrowed := true }
def PairsSortUptoSaid : Prop := pairsSortUptoRow.holds Try.pinned (OpenSpec.upto pairsSortSpec)

/-- 'seinelaw03.PairsOrder', WHERE WHAT IT READS IS OF BULK AT MOST 1048576: true; the input reads as it did. -/
def pairsOrderUptoRow : OpenClaim := { program := "ythcmioobldpbjaa", sum := "3db6c0a96bbf1d0c582137ce74112f87dba4aea56a59f3a187f447c07d4a2415", func := "seine/seinelaw03.PairsOrder", spec := "pairsOrder", unfollowed := true, recurses := true, apart := false, narrowed := true }
def PairsOrderUptoSaid : Prop := pairsOrderUptoRow.holds Try.pinned (OpenSpec.upto pairsOrderSpec)

/-- 'seinelaw03.PairsOnce', WHERE WHAT IT READS IS OF BULK AT MOST 1048576: true; the input reads as it did. -/
def pairsOnceUptoRow : OpenClaim := { program := "ythcmioobldpbjaa", sum := "3db6c0a96bbf1d0c582137ce74112f87dba4aea56a59f3a187f447c07d4a2415", func := "seine/seinelaw03.PairsOnce", spec := "pairsOnce", unfollowed := true, recurses := true, apart := false, narrowed := true }
def PairsOnceUptoSaid : Prop := pairsOnceUptoRow.holds Try.pinned (OpenSpec.upto pairsOnceSpec)

/-- 'seinelaw03.PairsMerge', WHERE WHAT IT READS IS OF BULK AT MOST 1048576: true; the input reads as it did. -/
def pairsMergeUptoRow : OpenClaim := { program := "ythcmioobldpbjaa", sum := "3db6c0a96bbf1d0c582137ce74112f87dba4aea56a59f3a187f447c07d4a2415", func := "seine/seinelaw03.PairsMerge", spec := "pairsMerge", unfollowed := true, recurses := true, apart := false, narrowed := true }
def PairsMergeUptoSaid : Prop := pairsMergeUptoRow.holds Try.pinned (OpenSpec.upto pairsMergeSpec)

/-- 'seinelaw03.PairsFits', WHERE WHAT IT READS IS OF BULK AT MOST 1048576: true; the input reads as it did. -/
def pairsFitsUptoRow : OpenClaim := { program := "ythcmioobldpbjaa", sum := "3db6c0a96bbf1d0c582137ce74112f87dba4aea56a59f3a187f447c07d4a2415", func := "seine/seinelaw03.PairsFits", spec := "pairsFits", unfollowed := true, recurses := true, apart := false, narrowed := true }
def PairsFitsUptoSaid : Prop := pairsFitsUptoRow.holds Try.pinned (OpenSpec.upto pairsFitsSpec)

end Rows
end Go.Proofs.Ythcmioobldpbjaa
