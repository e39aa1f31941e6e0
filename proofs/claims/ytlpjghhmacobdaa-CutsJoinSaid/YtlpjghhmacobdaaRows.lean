/-
  No cell of these rows narrows 'for every input' (looked for: loops, veiled, ifaces, maps, wideKeys, modest, calm, conditions, laid).
  DERIVED. THE GIVEN ROWS OF THIS SEAT. 4 by the template 'for every input the law returns true; each argument reads behind the call as it read before'; 0 by the template 'total and deterministic' (their statements: YtlpjghhmacobdaaTotals.lean).
  GIVEN WITH THE SEED: the statements are not yours to turn. If you find one false, say at which input.
  Laid BY PROGRAM, IN A SANDBOX (cutbox-rows.mjs): the forced cells as the released guide's own fill.sh prints them over the translation e2683cb7fd6fa884… (all of the seat's roots in one cut). By AI agents, Wed Nov 11 2026. No macro, syntax, notation, axiom, sorry.
-/
import Derived.Test.YtlpjghhmacobdaaChecked
import GoSem.Claim
import GoSem.ClaimJoined
import GoSem.ClaimMapViews
import Derived.JoinedTies
import Derived.KernelRfl
namespace Go.Proofs.Ytlpjghhmacobdaa
/- THE CELL 'sum', in the pinned program and in every row, IS THE sha256 OF THE DUMP (.gsa) THAT YtlpjghhmacobdaaProg.lean LOADS. Nothing in Lean hashes anything: it is a label: what it is worth is what the hold of that sum in a sandbox is worth. -/
noncomputable def Try.pinned : Pinned := { name := "ytlpjghhmacobdaa", sum := "e2683cb7fd6fa88424bc95cbce5757cb1151e79bcbd1bf0822293fecca535703", checked := Try.checked }
namespace Rows
def none {H : Type} : Left H := { results := [], args := [] }

/-- 'seinelaw19.CutsPieces': WHATEVER THE INPUT: true; the input reads as it did. -/
def cutsPiecesSpec : ChangeSpec := { name := "cutsPieces", fn := fun _ => fun
  | [d1, d2, d3] => { results := [.lit (.bool true)], args := [d1, d2, d3] }
  | _ => none }
def cutsPiecesRow : OpenClaim := { program := "ytlpjghhmacobdaa", sum := "e2683cb7fd6fa88424bc95cbce5757cb1151e79bcbd1bf0822293fecca535703", func := "seine/seinelaw19.CutsPieces", spec := "cutsPieces", apart := false }
def CutsPiecesSaid : Prop := cutsPiecesRow.holds Try.pinned (OpenSpec.ofChange cutsPiecesSpec)

/-- ITS FALSE NEIGHBOUR: 'it returns false'. Refute it at one input. -/
def cutsPiecesWrong : ChangeSpec := { name := "cutsPieces", fn := fun _ => fun
  | [d1, d2, d3] => { results := [.lit (.bool false)], args := [d1, d2, d3] }
  | _ => none }
def CutsPiecesWrongFalsely : Prop := cutsPiecesRow.holds Try.pinned (OpenSpec.ofChange cutsPiecesWrong)

/-- 'seinelaw19.CutsJoin': WHATEVER THE INPUT: true; the input reads as it did. -/
def cutsJoinSpec : ChangeSpec := { name := "cutsJoin", fn := fun _ => fun
  | [d1, d2, d3] => { results := [.lit (.bool true)], args := [d1, d2, d3] }
  | _ => none }
def cutsJoinRow : OpenClaim := { program := "ytlpjghhmacobdaa", sum := "e2683cb7fd6fa88424bc95cbce5757cb1151e79bcbd1bf0822293fecca535703", func := "seine/seinelaw19.CutsJoin", spec := "cutsJoin", apart := false }
def CutsJoinSaid : Prop := cutsJoinRow.holds Try.pinned (OpenSpec.ofChange cutsJoinSpec)

/-- ITS FALSE NEIGHBOUR: 'it returns false'. Refute it at one input. -/
def cutsJoinWrong : ChangeSpec := { name := "cutsJoin", fn := fun _ => fun
  | [d1, d2, d3] => { results := [.lit (.bool false)], args := [d1, d2, d3] }
  | _ => none }
def CutsJoinWrongFalsely : Prop := cutsJoinRow.holds Try.pinned (OpenSpec.ofChange cutsJoinWrong)

/-- 'seinelaw19.CutsEach': WHATEVER THE INPUT: true; the input reads as it did. -/
def cutsEachSpec : ChangeSpec := { name := "cutsEach", fn := fun _ => fun
  | [d1, d2] => { results := [.lit (.bool true)], args := [d1, d2] }
  | _ => none }
def cutsEachRow : OpenClaim := { program := "ytlpjghhmacobdaa", sum := "e2683cb7fd6fa88424bc95cbce5757cb1151e79bcbd1bf0822293fecca535703", func := "seine/seinelaw19.CutsEach", spec := "cutsEach", apart := false }
def CutsEachSaid : Prop := cutsEachRow.holds Try.pinned (OpenSpec.ofChange cutsEachSpec)

/-- ITS FALSE NEIGHBOUR: 'it returns false'. Refute it at one input. -/
def cutsEachWrong : ChangeSpec := { name := "cutsEach", fn := fun _ => fun
  | [d1, d2] => { results := [.lit (.bool false)], args := [d1, d2] }
  | _ => none }
def CutsEachWrongFalsely : Prop := cutsEachRow.holds Try.pinned (OpenSpec.ofChange cutsEachWrong)

/-- 'seinelaw19.CutsPlaces': WHATEVER THE INPUT: true; the input reads as it did. -/
def cutsPlacesSpec : ChangeSpec := { name := "cutsPlaces", fn := fun _ => fun
  | [d1, d2] => { results := [.lit (.bool true)], args := [d1, d2] }
  | _ => none }
def cutsPlacesRow : OpenClaim := { program := "ytlpjghhmacobdaa", sum := "e2683cb7fd6fa88424bc95cbce5757cb1151e79bcbd1bf0822293fecca535703", func := "seine/seinelaw19.CutsPlaces", spec := "cutsPlaces", apart := false }
def CutsPlacesSaid : Prop := cutsPlacesRow.holds Try.pinned (OpenSpec.ofChange cutsPlacesSpec)

/-- ITS FALSE NEIGHBOUR: 'it returns false'. Refute it at one input. -/
def cutsPlacesWrong : ChangeSpec := { name := "cutsPlaces", fn := fun _ => fun
  | [d1, d2] => { results := [.lit (.bool false)], args := [d1, d2] }
  | _ => none }
def CutsPlacesWrongFalsely : Prop := cutsPlacesRow.holds Try.pinned (OpenSpec.ofChange cutsPlacesWrong)

/- THE SECOND FORM. 'bulk': how many values and letters a reading holds, each counted each time it is reached (what is shared counts as often as it is met; a slice's spare places count too). A statement '..UptoSaid' is the law's where the arguments, and the package variables that the reading takes, are together of bulk at most 1048576: NARROWER than '..Said'. Prove '..Said' where nothing that the law and all that it calls make is longer than what came in: it says more and counts as full. Else prove '..UptoSaid'. A law counts once. -/
mutual
def uptoBulk {H : Type} : DataW H → Nat
  | .lit (.string bytes) => bytes.length + 1
  | .lit _ => 1
  | .nil => 1
  | .ptr d => uptoBulk d + 1
  | .slice elems spare => uptoBulkAll elems + uptoBulkAll spare + 1
  | .agg parts => uptoBulkAll parts + 1
  | .iface _ d => uptoBulk d + 1
  | .map entries => uptoBulkEntries entries + 1
  | .held _ => 1
def uptoBulkAll {H : Type} : List (DataW H) → Nat
  | [] => 0
  | d :: r => uptoBulk d + uptoBulkAll r
def uptoBulkEntries {H : Type} : List (Lit × DataW H) → Nat
  | [] => 0
  | x :: r => uptoBulkEntry x + uptoBulkEntries r
def uptoBulkEntry {H : Type} : Lit × DataW H → Nat
  | (.string bytes, d) => bytes.length + uptoBulk d + 1
  | (_, d) => uptoBulk d + 1
 end
def uptoSmall : (H : Type) → List (DataW H) → Bool := fun _ ds => decide (uptoBulkAll ds ≤ 1048576)
def OpenSpec.upto (s : _root_.Go.ChangeSpec) : _root_.Go.OpenSpec := { _root_.Go.OpenSpec.ofChange s with cond := some uptoSmall }

/-- 'seinelaw19.CutsPieces', WHERE WHAT IT READS IS OF BULK AT MOST 1048576: true; the input reads as it did. -/
def cutsPiecesUptoRow : OpenClaim := { program := "ytlpjghhmacobdaa", sum := "e2683cb7fd6fa88424bc95cbce5757cb1151e79bcbd1bf0822293fecca535703", func := "seine/seinelaw19.CutsPieces", spec := "cutsPieces", apart := false, narrowed := true }
def CutsPiecesUptoSaid : Prop := cutsPiecesUptoRow.holds Try.pinned (OpenSpec.upto cutsPiecesSpec)

/-- 'seinelaw19.CutsJoin', WHERE WHAT IT READS IS OF BULK AT MOST 1048576: true; the input reads as it did. -/
def cutsJoinUptoRow : OpenClaim := { program := "ytlpjghhmacobdaa", sum := "e2683cb7fd6fa88424bc95cbce5757cb1151e79bcbd1bf0822293fecca535703", func := "seine/seinelaw19.CutsJoin", spec := "cutsJoin", apart := false, narrowed := true }
def CutsJoinUptoSaid : Prop := cutsJoinUptoRow.holds Try.pinned (OpenSpec.upto cutsJoinSpec)

/-- 'seinelaw19.CutsEach', WHERE WHAT IT READS IS OF BULK AT MOST 1048576: true; the input reads as it did. -/
def cutsEachUptoRow : OpenClaim := { program := "ytlpjghhmacobdaa", sum := "e2683cb7fd6fa88424bc95cbce5757cb1151e79bcbd1bf0822293fecca535703", func := "seine/seinelaw19.CutsEach", spec := "cutsEach", apart := false, narrowed := true }
def CutsEachUptoSaid : Prop := cutsEachUptoRow.holds Try.pinned (OpenSpec.upto cutsEachSpec)

/-- 'seinelaw19.CutsPlaces', WHERE WHAT IT READS IS OF BULK AT MOST 1048576: true; the input reads as it did. -/
def cutsPlacesUptoRow : OpenClaim := { program := "ytlpjghhmacobdaa", sum := "e2683cb7fd6fa88424bc95cbce5757cb1151e79bcbd1bf0822293fecca535703", func := "seine/seinelaw19.CutsPlaces", spec := "cutsPlaces", apart := false, narrowed := true }
def CutsPlacesUptoSaid : Prop := cutsPlacesUptoRow.holds Try.pinned (OpenSpec.upto cutsPlacesSpec)

end Rows
end Go.Proofs.Ytlpjghhmacobdaa
