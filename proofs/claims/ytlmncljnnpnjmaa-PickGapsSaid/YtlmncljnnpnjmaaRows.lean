/-
  No cell of these rows narrows 'for every input' (looked for: loops, veiled, ifaces, maps, wideKeys, modest, calm, conditions, laid).
  DERIVED. THE GIVEN ROWS OF THIS SEAT. 6 by the template 'for every input the law returns true; each argument reads behind the call as it read before'; 0 by the template 'total and deterministic' (their statements: YtlmncljnnpnjmaaTotals.lean).
  GIVEN WITH THE SEED: the statements are not yours to turn. If you find one false, say at which input.
  Laid BY PROGRAM, IN A SANDBOX (cutbox-rows.mjs): the forced cells as the released guide's own fill.sh prints them over the translation e0ba528852703e5f… (all of the seat's roots in one cut). By AI agents, Wed Nov 11 2026. No macro, syntax, notation, axiom, sorry.
-/
import Derived.Test.YtlmncljnnpnjmaaChecked
import GoSem.Claim
import GoSem.ClaimJoined
import GoSem.ClaimMapViews
import Derived.JoinedTies
import Derived.KernelRfl
namespace Go.Proofs.Ytlmncljnnpnjmaa
/- THE CELL 'sum', in the pinned program and in every row, IS THE sha256 OF THE DUMP (.gsa) THAT YtlmncljnnpnjmaaProg.lean LOADS. Nothing in Lean hashes anything: it is a label: what it is worth is what the hold of that sum in a sandbox is worth. -/
noncomputable def Try.pinned : Pinned := { name := "ytlmncljnnpnjmaa", sum := "e0ba528852703e5f9ea4d6c48a2487a2be2f41a1b3aec1a252fac0d209f8515e", checked := Try.checked }
namespace Rows
def none {H : Type} : Left H := { results := [], args := [] }

/-- 'seinelaw23.PickLongest': WHATEVER THE INPUT: true; the input reads as it did. -/
def pickLongestSpec : ChangeSpec := { name := "pickLongest", fn := fun _ => fun
  | [d1, d2, d3] => { results := [.lit (.bool true)], args := [d1, d2, d3] }
  | _ => none }
def pickLongestRow : OpenClaim := { program := "ytlmncljnnpnjmaa", sum := "e0ba528852703e5f9ea4d6c48a2487a2be2f41a1b3aec1a252fac0d209f8515e", func := "seine/seinelaw23.PickLongest", spec := "pickLongest", unfollowed := true, recurses := true, apart := false }
def PickLongestSaid : Prop := pickLongestRow.holds Try.pinned (OpenSpec.ofChange pickLongestSpec)

/-- ITS FALSE NEIGHBOUR: 'it returns false'. Refute it at one input. -/
def pickLongestWrong : ChangeSpec := { name := "pickLongest", fn := fun _ => fun
  | [d1, d2, d3] => { results := [.lit (.bool false)], args := [d1, d2, d3] }
  | _ => none }
def PickLongestWrongFalsely : Prop := pickLongestRow.holds Try.pinned (OpenSpec.ofChange pickLongestWrong)

/-- 'seinelaw23.PickCovers': WHATEVER THE INPUT: true; the input reads as it did. -/
def pickCoversSpec : ChangeSpec := { name := "pickCovers", fn := fun _ => fun
  | [d] => { results := [.lit (.bool true)], args := [d] }
  | _ => none }
def pickCoversRow : OpenClaim := { program := "ytlmncljnnpnjmaa", sum := "e0ba528852703e5f9ea4d6c48a2487a2be2f41a1b3aec1a252fac0d209f8515e", func := "seine/seinelaw23.PickCovers", spec := "pickCovers", unfollowed := true, recurses := true, apart := false }
def PickCoversSaid : Prop := pickCoversRow.holds Try.pinned (OpenSpec.ofChange pickCoversSpec)

/-- ITS FALSE NEIGHBOUR: 'it returns false'. Refute it at one input. -/
def pickCoversWrong : ChangeSpec := { name := "pickCovers", fn := fun _ => fun
  | [d] => { results := [.lit (.bool false)], args := [d] }
  | _ => none }
def PickCoversWrongFalsely : Prop := pickCoversRow.holds Try.pinned (OpenSpec.ofChange pickCoversWrong)

/-- 'seinelaw23.PickOnly': WHATEVER THE INPUT: true; the input reads as it did. -/
def pickOnlySpec : ChangeSpec := { name := "pickOnly", fn := fun _ => fun
  | [d1, d2] => { results := [.lit (.bool true)], args := [d1, d2] }
  | _ => none }
def pickOnlyRow : OpenClaim := { program := "ytlmncljnnpnjmaa", sum := "e0ba528852703e5f9ea4d6c48a2487a2be2f41a1b3aec1a252fac0d209f8515e", func := "seine/seinelaw23.PickOnly", spec := "pickOnly", unfollowed := true, recurses := true, apart := false }
def PickOnlySaid : Prop := pickOnlyRow.holds Try.pinned (OpenSpec.ofChange pickOnlySpec)

/-- ITS FALSE NEIGHBOUR: 'it returns false'. Refute it at one input. -/
def pickOnlyWrong : ChangeSpec := { name := "pickOnly", fn := fun _ => fun
  | [d1, d2] => { results := [.lit (.bool false)], args := [d1, d2] }
  | _ => none }
def PickOnlyWrongFalsely : Prop := pickOnlyRow.holds Try.pinned (OpenSpec.ofChange pickOnlyWrong)

/-- 'seinelaw23.PickAgain': WHATEVER THE INPUT: true; the input reads as it did. -/
def pickAgainSpec : ChangeSpec := { name := "pickAgain", fn := fun _ => fun
  | [d1, d2, d3] => { results := [.lit (.bool true)], args := [d1, d2, d3] }
  | _ => none }
def pickAgainRow : OpenClaim := { program := "ytlmncljnnpnjmaa", sum := "e0ba528852703e5f9ea4d6c48a2487a2be2f41a1b3aec1a252fac0d209f8515e", func := "seine/seinelaw23.PickAgain", spec := "pickAgain", unfollowed := true, recurses := true, apart := false }
def PickAgainSaid : Prop := pickAgainRow.holds Try.pinned (OpenSpec.ofChange pickAgainSpec)

/-- ITS FALSE NEIGHBOUR: 'it returns false'. Refute it at one input. -/
def pickAgainWrong : ChangeSpec := { name := "pickAgain", fn := fun _ => fun
  | [d1, d2, d3] => { results := [.lit (.bool false)], args := [d1, d2, d3] }
  | _ => none }
def PickAgainWrongFalsely : Prop := pickAgainRow.holds Try.pinned (OpenSpec.ofChange pickAgainWrong)

/-- 'seinelaw23.PickGaps': WHATEVER THE INPUT: true; the input reads as it did. -/
def pickGapsSpec : ChangeSpec := { name := "pickGaps", fn := fun _ => fun
  | [d1, d2, d3] => { results := [.lit (.bool true)], args := [d1, d2, d3] }
  | _ => none }
def pickGapsRow : OpenClaim := { program := "ytlmncljnnpnjmaa", sum := "e0ba528852703e5f9ea4d6c48a2487a2be2f41a1b3aec1a252fac0d209f8515e", func := "seine/seinelaw23.PickGaps", spec := "pickGaps", unfollowed := true, recurses := true, apart := false }
def PickGapsSaid : Prop := pickGapsRow.holds Try.pinned (OpenSpec.ofChange pickGapsSpec)

/-- ITS FALSE NEIGHBOUR: 'it returns false'. Refute it at one input. -/
def pickGapsWrong : ChangeSpec := { name := "pickGaps", fn := fun _ => fun
  | [d1, d2, d3] => { results := [.lit (.bool false)], args := [d1, d2, d3] }
  | _ => none }
def PickGapsWrongFalsely : Prop := pickGapsRow.holds Try.pinned (OpenSpec.ofChange pickGapsWrong)

/-- 'seinelaw23.PickFirst': WHATEVER THE INPUT: true; the input reads as it did. -/
def pickFirstSpec : ChangeSpec := { name := "pickFirst", fn := fun _ => fun
  | [d1, d2, d3] => { results := [.lit (.bool true)], args := [d1, d2, d3] }
  | _ => none }
def pickFirstRow : OpenClaim := { program := "ytlmncljnnpnjmaa", sum := "e0ba528852703e5f9ea4d6c48a2487a2be2f41a1b3aec1a252fac0d209f8515e", func := "seine/seinelaw23.PickFirst", spec := "pickFirst", unfollowed := true, recurses := true, apart := false }
def PickFirstSaid : Prop := pickFirstRow.holds Try.pinned (OpenSpec.ofChange pickFirstSpec)

/-- ITS FALSE NEIGHBOUR: 'it returns false'. Refute it at one input. -/
def pickFirstWrong : ChangeSpec := { name := "pickFirst", fn := fun _ => fun
  | [d1, d2, d3] => { results := [.lit (.bool false)], args := [d1, d2, d3] }
  | _ => none }
def PickFirstWrongFalsely : Prop := pickFirstRow.holds Try.pinned (OpenSpec.ofChange pickFirstWrong)

/- THE SECOND FORM. 'bulk': how many values and letters a reading holds, each counted each time it is reached (what is shared counts as often as it is met; a slice's spare places count too). A statement '..UptoSaid' is the law's where the arguments, and the package variables that the reading takes, are together of bulk at most 1048576: NARROWER than '..Said'. Prove '..Said' where nothing that the law and all that it calls make is longer than what came in: it says more and counts as full. Else prove '..UptoSaid'. A law counts once. -/
mutual
def uptoBulk {H : Type} : DataW H → Nat
  | .lit (.string bytes) => bytes.length + 1
  | .lit _ => 1
  | .nil => 1
  | .ptr d => uptoBulk d + 1
  | .slice elems spare => uptoBulkAll elems + uptoBulkAll spare + 1
  | .agg parts => uptoBulkAll parts + 1
  | .iface _ d => uptoBulk d + 1
  | .map entries => uptoBulkEntries entries + 1
  | .held _ => 1
def uptoBulkAll {H : Type} : List (DataW H) → Nat
  | [] => 0
  | d :: r => uptoBulk d + uptoBulkAll r
def uptoBulkEntries {H : Type} : List (Lit × DataW H) → Nat
  | [] => 0
  | x :: r => uptoBulkEntry x + uptoBulkEntries r
def uptoBulkEntry {H : Type} : Lit × DataW H → Nat
  | (.string bytes, d) => bytes.length + uptoBulk d + 1
  | (_, d) => uptoBulk d + 1
 end
def uptoSmall : (H : Type) → List (DataW H) → Bool := fun _ ds => decide (uptoBulkAll ds ≤ 1048576)
def OpenSpec.upto (s : _root_.Go.ChangeSpec) : _root_.Go.OpenSpec := { _root_.Go.OpenSpec.ofChange s with cond := some uptoSmall }

/-- 'seinelaw23.PickLongest', WHERE WHAT IT READS IS OF BULK AT MOST 1048576: true; the input reads as it did. -/
def pickLongestUptoRow : OpenClaim := { program := "ytlmncljnnpnjmaa", sum := "e0ba528852703e5f9ea4d6c48a2487a2be2f41a1b3aec1a252fac0d209f8515e", func := "seine/seinelaw23.PickLongest", spec := "pickLongest", unfollowed := true, recurses := true, apart := false, narrowed := true }
def PickLongestUptoSaid : Prop := pickLongestUptoRow.holds Try.pinned (OpenSpec.upto pickLongestSpec)

/-- 'seinelaw23.PickCovers', WHERE WHAT IT READS IS OF BULK AT MOST 1048576: true; the input reads as it did. -/
def pickCoversUptoRow : OpenClaim := { program := "ytlmncljnnpnjmaa", sum := "e0ba528852703e5f9ea4d6c48a2487a2be2f41a1b3aec1a252fac0d209f8515e", func := "seine/seinelaw23.PickCovers", spec := "pickCovers", unfollowed := true, recurses := true, apart := false, narrowed := true }
def PickCoversUptoSaid : Prop := pickCoversUptoRow.holds Try.pinned (OpenSpec.upto pickCoversSpec)

/-- 'seinelaw23.PickOnly', WHERE WHAT IT READS IS OF BULK AT MOST 1048576: true; the input reads as it did. -/
def pickOnlyUptoRow : OpenClaim := { program := "ytlmncljnnpnjmaa", sum := "e0ba528852703e5f9ea4d6c48a2487a2be2f41a1b3aec1a252fac0d209f8515e", func := "seine/seinelaw23.PickOnly", spec := "pickOnly", unfollowed := true, recurses := true, apart := false, narrowed := true }
def PickOnlyUptoSaid : Prop := pickOnlyUptoRow.holds Try.pinned (OpenSpec.upto pickOnlySpec)

/-- 'seinelaw23.PickAgain', WHERE WHAT IT READS IS OF BULK AT MOST 1048576: true; the input reads as it did. -/
def pickAgainUptoRow : OpenClaim := { program := "ytlmncljnnpnjmaa", sum := "e0ba528852703e5f9ea4d6c48a2487a2be2f41a1b3aec1a252fac0d209f8515e", func := "seine/seinelaw23.PickAgain", spec := "pickAgain", unfollowed := true, recurses := true, apart := false, narrowed := true }
def PickAgainUptoSaid : Prop := pickAgainUptoRow.holds Try.pinned (OpenSpec.upto pickAgainSpec)

/-- 'seinelaw23.PickGaps', WHERE WHAT IT READS IS OF BULK AT MOST 1048576: true; the input reads as it did. -/
def pickGapsUptoRow : OpenClaim := { program := "ytlmncljnnpnjmaa", sum := "e0ba528852703e5f9ea4d6c48a2487a2be2f41a1b3aec1a252fac0d209f8515e", func := "seine/seinelaw23.PickGaps", spec := "pickGaps", unfollowed := true, recurses := true, apart := false, narrowed := true }
def PickGapsUptoSaid : Prop := pickGapsUptoRow.holds Try.pinned (OpenSpec.upto pickGapsSpec)

/-- 'seinelaw23.PickFirst', WHERE WHAT IT READS IS OF BULK AT MOST 1048576: true; the input reads as it did. -/
def pickFirstUptoRow : OpenClaim := { program := "ytlmncljnnpnjmaa", sum := "e0ba528852703e5f9ea4d6c48a2487a2be2f41a1b3aec1a252fac0d209f8515e", func := "seine/seinelaw23.PickFirst", spec := "pickFirst", unfollowed := true, recurses := true, apart := false, narrowed := true }
def PickFirstUptoSaid : Prop := pickFirstUptoRow.holds Try.pinned (OpenSpec.upto pickFirstSpec)

end Rows
end Go.Proofs.Ytlmncljnnpnjmaa
