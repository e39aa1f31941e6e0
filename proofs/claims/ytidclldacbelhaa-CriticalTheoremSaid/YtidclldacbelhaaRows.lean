/-
  No cell of these rows narrows 'for every input' (looked for: loops, veiled, ifaces, maps, wideKeys, modest, calm, conditions, laid).
  DERIVED. THE GIVEN ROWS OF THIS SEAT. 5 by the template 'for every input the law returns true; each argument reads behind the call as it read before'; 0 by the template 'total and deterministic' (their statements: YtidclldacbelhaaTotals.lean).
  GIVEN WITH THE SEED: the statements are not yours to turn. If you find one false, say at which input.
  Laid BY PROGRAM, IN A SANDBOX (cutbox-rows.mjs): the forced cells as the released guide's own fill.sh prints them over the translation 3d0996d74de853b5… (all of the seat's roots in one cut). By AI agents, Wed Nov 11 2026. No macro, syntax, notation, axiom, sorry.
-/
import Derived.Test.YtidclldacbelhaaChecked
import GoSem.Claim
import GoSem.ClaimJoined
import GoSem.ClaimMapViews
import Derived.JoinedTies
import Derived.KernelRfl
namespace Go.Proofs.Ytidclldacbelhaa
/- THE CELL 'sum', in the pinned program and in every row, IS THE sha256 OF THE DUMP (.gsa) THAT YtidclldacbelhaaProg.lean LOADS. Nothing in Lean hashes anything: it is a label: what it is worth is what the hold of that sum in a sandbox is worth. -/
noncomputable def Try.pinned : Pinned := { name := "ytidclldacbelhaa", sum := "3d0996d74de853b5531fa44a31d2584ef6a603afa215e4c44e17d88b2cc1a123", checked := Try.checked }
namespace Rows
def none {H : Type} : Left H := { results := [], args := [] }

/-- 'seinelaw12.CriticalFactor': WHATEVER THE INPUT: true; the input reads as it did. -/
def criticalFactorSpec : ChangeSpec := { name := "criticalFactor", fn := fun _ => fun
  | [d] => { results := [.lit (.bool true)], args := [d] }
  | _ => none }
def criticalFactorRow : OpenClaim := { program := "ytidclldacbelhaa", sum := "3d0996d74de853b5531fa44a31d2584ef6a603afa215e4c44e17d88b2cc1a123", func := "seine/seinelaw12.CriticalFactor", spec := "criticalFactor", unfollowed := true, recurses := true, apart := false }
def CriticalFactorSaid : Prop := criticalFactorRow.holds Try.pinned (OpenSpec.ofChange criticalFactorSpec)

/-- ITS FALSE NEIGHBOUR: 'it returns false'. Refute it at one input. -/
def criticalFactorWrong : ChangeSpec := { name := "criticalFactor", fn := fun _ => fun
  | [d] => { results := [.lit (.bool false)], args := [d] }
  | _ => none }
def CriticalFactorWrongFalsely : Prop := criticalFactorRow.holds Try.pinned (OpenSpec.ofChange criticalFactorWrong)

/-- 'seinelaw12.CriticalLocal': WHATEVER THE INPUT: true; the input reads as it did. -/
def criticalLocalSpec : ChangeSpec := { name := "criticalLocal", fn := fun _ => fun
  | [d1, d2] => { results := [.lit (.bool true)], args := [d1, d2] }
  | _ => none }
def criticalLocalRow : OpenClaim := { program := "ytidclldacbelhaa", sum := "3d0996d74de853b5531fa44a31d2584ef6a603afa215e4c44e17d88b2cc1a123", func := "seine/seinelaw12.CriticalLocal", spec := "criticalLocal", unfollowed := true, recurses := true, apart := false }
def CriticalLocalSaid : Prop := criticalLocalRow.holds Try.pinned (OpenSpec.ofChange criticalLocalSpec)

/-- ITS FALSE NEIGHBOUR: 'it returns false'. Refute it at one input. -/
def criticalLocalWrong : ChangeSpec := { name := "criticalLocal", fn := fun _ => fun
  | [d1, d2] => { results := [.lit (.bool false)], args := [d1, d2] }
  | _ => none }
def CriticalLocalWrongFalsely : Prop := criticalLocalRow.holds Try.pinned (OpenSpec.ofChange criticalLocalWrong)

/-- 'seinelaw12.CriticalTheorem': WHATEVER THE INPUT: true; the input reads as it did. -/
def criticalTheoremSpec : ChangeSpec := { name := "criticalTheorem", fn := fun _ => fun
  | [d] => { results := [.lit (.bool true)], args := [d] }
  | _ => none }
def criticalTheoremRow : OpenClaim := { program := "ytidclldacbelhaa", sum := "3d0996d74de853b5531fa44a31d2584ef6a603afa215e4c44e17d88b2cc1a123", func := "seine/seinelaw12.CriticalTheorem", spec := "criticalTheorem", unfollowed := true, recurses := true, apart := false }
def CriticalTheoremSaid : Prop := criticalTheoremRow.holds Try.pinned (OpenSpec.ofChange criticalTheoremSpec)

/-- ITS FALSE NEIGHBOUR: 'it returns false'. Refute it at one input. -/
def criticalTheoremWrong : ChangeSpec := { name := "criticalTheorem", fn := fun _ => fun
  | [d] => { results := [.lit (.bool false)], args := [d] }
  | _ => none }
def CriticalTheoremWrongFalsely : Prop := criticalTheoremRow.holds Try.pinned (OpenSpec.ofChange criticalTheoremWrong)

/-- 'seinelaw12.CriticalBelow': WHATEVER THE INPUT: true; the input reads as it did. -/
def criticalBelowSpec : ChangeSpec := { name := "criticalBelow", fn := fun _ => fun
  | [d1, d2] => { results := [.lit (.bool true)], args := [d1, d2] }
  | _ => none }
def criticalBelowRow : OpenClaim := { program := "ytidclldacbelhaa", sum := "3d0996d74de853b5531fa44a31d2584ef6a603afa215e4c44e17d88b2cc1a123", func := "seine/seinelaw12.CriticalBelow", spec := "criticalBelow", unfollowed := true, recurses := true, apart := false }
def CriticalBelowSaid : Prop := criticalBelowRow.holds Try.pinned (OpenSpec.ofChange criticalBelowSpec)

/-- ITS FALSE NEIGHBOUR: 'it returns false'. Refute it at one input. -/
def criticalBelowWrong : ChangeSpec := { name := "criticalBelow", fn := fun _ => fun
  | [d1, d2] => { results := [.lit (.bool false)], args := [d1, d2] }
  | _ => none }
def CriticalBelowWrongFalsely : Prop := criticalBelowRow.holds Try.pinned (OpenSpec.ofChange criticalBelowWrong)

/-- 'seinelaw12.CriticalFar': WHATEVER THE INPUT: true; the input reads as it did. -/
def criticalFarSpec : ChangeSpec := { name := "criticalFar", fn := fun _ => fun
  | [d] => { results := [.lit (.bool true)], args := [d] }
  | _ => none }
def criticalFarRow : OpenClaim := { program := "ytidclldacbelhaa", sum := "3d0996d74de853b5531fa44a31d2584ef6a603afa215e4c44e17d88b2cc1a123", func := "seine/seinelaw12.CriticalFar", spec := "criticalFar", unfollowed := true, recurses := true, apart := false }
def CriticalFarSaid : Prop := criticalFarRow.holds Try.pinned (OpenSpec.ofChange criticalFarSpec)

/-- ITS FALSE NEIGHBOUR: 'it returns false'. Refute it at one input. -/
def criticalFarWrong : ChangeSpec := { name := "criticalFar", fn := fun _ => fun
  | [d] => { results := [.lit (.bool false)], args := [d] }
  | _ => none }
def CriticalFarWrongFalsely : Prop := criticalFarRow.holds Try.pinned (OpenSpec.ofChange criticalFarWrong)

/- THE SECOND FORM. 'bulk': how many values and letters a reading holds, each counted each time it is reached (what is shared counts as often as it is met; a slice's spare places count too). A statement '..UptoSaid' is the law's where the arguments, and the package variables that the reading takes, are together of bulk at most 1048576: NARROWER than '..Said'. Prove '..Said' where nothing that the law and all that it calls make is longer than what came in: it says more and counts as full. Else prove '..UptoSaid'. A law counts once. -/
mutual
def uptoBulk {H : Type} : DataW H → Nat
  | .lit (.string bytes) => bytes.length + 1
  | .lit _ => 1
  | .nil => 1
  | .ptr d => uptoBulk d + 1
  | .slice elems spare => uptoBulkAll elems + uptoBulkAll spare + 1
  | .agg parts => uptoBulkAll parts + 1
  | .iface _ d => uptoBulk d + 1
  | .map entries => uptoBulkEntries entries + 1
  | .held _ => 1
def uptoBulkAll {H : Type} : List (DataW H) → Nat
  | [] => 0
  | d :: r => uptoBulk d + uptoBulkAll r
def uptoBulkEntries {H : Type} : List (Lit × DataW H) → Nat
  | [] => 0
  | x :: r => uptoBulkEntry x + uptoBulkEntries r
def uptoBulkEntry {H : Type} : Lit × DataW H → Nat
  | (.string bytes, d) => bytes.length + uptoBulk d + 1
  | (_, d) => uptoBulk d + 1
 end
def uptoSmall : (H : Type) → List (DataW H) → Bool := fun _ ds => decide (uptoBulkAll ds ≤ 1048576)
def OpenSpec.upto (s : _root_.Go.ChangeSpec) : _root_.Go.OpenSpec := { _root_.Go.OpenSpec.ofChange s with cond := some uptoSmall }

/-- 'seinelaw12.CriticalFactor', WHERE WHAT IT READS IS OF BULK AT MOST 1048576: true; the input reads as it did. -/
def criticalFactorUptoRow : OpenClaim := { program := "ytidclldacbelhaa", sum := "3d0996d74de853b5531fa44a31d2584ef6a603afa215e4c44e17d88b2cc1a123", func := "seine/seinelaw12.CriticalFactor", spec := "criticalFactor", unfollowed := true, recurses := true, apart := false, narrowed := true }
def CriticalFactorUptoSaid : Prop := criticalFactorUptoRow.holds Try.pinned (OpenSpec.upto criticalFactorSpec)

/-- 'seinelaw12.CriticalLocal', WHERE WHAT IT READS IS OF BULK AT MOST 1048576: true; the input reads as it did. -/
def criticalLocalUptoRow : OpenClaim := { program := "ytidclldacbelhaa", sum := "3d0996d74de853b5531fa44a31d2584ef6a603afa215e4c44e17d88b2cc1a123", func := "seine/seinelaw12.CriticalLocal", spec := "criticalLocal", unfollowed := true, recurses := true, apart := false, narrowed := true }
def CriticalLocalUptoSaid : Prop := criticalLocalUptoRow.holds Try.pinned (OpenSpec.upto criticalLocalSpec)

/-- 'seinelaw12.CriticalTheorem', WHERE WHAT IT READS IS OF BULK AT MOST 1048576: true; the input reads as it did. -/
def criticalTheoremUptoRow : OpenClaim := { program := "ytidclldacbelhaa", sum := "3d0996d74de853b5531fa44a31d2584ef6a603afa215e4c44e17d88b2cc1a123", func := "seine/seinelaw12.CriticalTheorem", spec := "criticalTheorem", unfollowed := true, recurses := true, apart := false, narrowed := true }
def CriticalTheoremUptoSaid : Prop := criticalTheoremUptoRow.holds Try.pinned (OpenSpec.upto criticalTheoremSpec)

/-- 'seinelaw12.CriticalBelow', WHERE WHAT IT READS IS OF BULK AT MOST 1048576: true; the input reads as it did. -/
def criticalBelowUptoRow : OpenClaim := { program := "ytidclldacbelhaa", sum := "3d0996d74de853b5531fa44a31d2584ef6a603afa215e4c44e17d88b2cc1a123", func := "seine/seinelaw12.CriticalBelow", spec := "criticalBelow", unfollowed := true, recurses := true, apart := false, narrowed := true }
def CriticalBelowUptoSaid : Prop := criticalBelowUptoRow.holds Try.pinned (OpenSpec.upto criticalBelowSpec)

/-- 'seinelaw12.CriticalFar', WHERE WHAT IT READS IS OF BULK AT MOST 1048576: true; the input reads as it did. -/
def criticalFarUptoRow : OpenClaim := { program := "ytidclldacbelhaa", sum := "3d0996d74de853b5531fa44a31d2584ef6a603afa215e4c44e17d88b2cc1a123", func := "seine/seinelaw12.CriticalFar", spec := "criticalFar", unfollowed := true, recurses := true, apart := false, narrowed := true }
def CriticalFarUptoSaid : Prop := criticalFarUptoRow.holds Try.pinned (OpenSpec.upto criticalFarSpec)

end Rows
end Go.Proofs.Ytidclldacbelhaa
