/-
  No cell of these rows narrows 'for every input' (looked for: loops, veiled, ifaces, maps, wideKeys, modest, calm, conditions, laid).
  DERIVED. THE GIVEN ROWS OF THIS SEAT. 5 by the template 'for every input the law returns true; each argument reads behind the call as it read before'; 0 by the template 'total and deterministic' (their statements: YticoahmiejgccaaTotals.lean).
  GIVEN WITH THE SEED: the statements are not yours to turn. If you find one false, say at which input.
  Laid BY PROGRAM, IN A SANDBOX (cutbox-rows.mjs): the forced cells as the released guide's own fill.sh prints them over the translation 987c9aff5ca92f5b… (all of the seat's roots in one cut). By AI agents, Wed Nov 11 2026. No macro, syntax, notation, axiom, sorry.
-/
import Derived.Test.YticoahmiejgccaaChecked
import GoSem.Claim
import GoSem.ClaimJoined
import GoSem.ClaimMapViews
import Derived.JoinedTies
import Derived.KernelRfl
namespace Go.Proofs.Yticoahmiejgccaa
/- THE CELL 'sum', in the pinned program and in every row, IS THE sha256 OF THE DUMP (.gsa) THAT YticoahmiejgccaaProg.lean LOADS. Nothing in Lean hashes anything: it is a label: what it is worth is what the hold of that sum in a sandbox is worth. -/
noncomputable def Try.pinned : Pinned := { name := "yticoahmiejgccaa", sum := "987c9aff5ca92f5b2cf2b4c0498a58cfc689a4998c2058eef61435d1973e68d3", checked := Try.checked }
namespace Rows
def none {H : Type} : Left H := { results := [], args := [] }

/-- 'seinelaw22.AdmitFilters': WHATEVER THE INPUT: true; the input reads as it did. -/
def admitFiltersSpec : ChangeSpec := { name := "admitFilters", fn := fun _ => fun
  | [d1, d2, d3, d4] => { results := [.lit (.bool true)], args := [d1, d2, d3, d4] }
  | _ => none }
def admitFiltersRow : OpenClaim := { program := "yticoahmiejgccaa", sum := "987c9aff5ca92f5b2cf2b4c0498a58cfc689a4998c2058eef61435d1973e68d3", func := "seine/seinelaw22.AdmitFilters", spec := "admitFilters", unfollowed := true, recurses := true, apart := false }
def AdmitFiltersSaid : Prop := admitFiltersRow.holds Try.pinned (OpenSpec.ofChange admitFiltersSpec)

/-- ITS FALSE NEIGHBOUR: 'it returns false'. Refute it at one input. -/
def admitFiltersWrong : ChangeSpec := { name := "admitFilters", fn := fun _ => fun
  | [d1, d2, d3, d4] => { results := [.lit (.bool false)], args := [d1, d2, d3, d4] }
  | _ => none }
def AdmitFiltersWrongFalsely : Prop := admitFiltersRow.holds Try.pinned (OpenSpec.ofChange admitFiltersWrong)

/-- 'seinelaw22.AdmitEmpty': WHATEVER THE INPUT: true; the input reads as it did. -/
def admitEmptySpec : ChangeSpec := { name := "admitEmpty", fn := fun _ => fun
  | [d1, d2, d3, d4] => { results := [.lit (.bool true)], args := [d1, d2, d3, d4] }
  | _ => none }
def admitEmptyRow : OpenClaim := { program := "yticoahmiejgccaa", sum := "987c9aff5ca92f5b2cf2b4c0498a58cfc689a4998c2058eef61435d1973e68d3", func := "seine/seinelaw22.AdmitEmpty", spec := "admitEmpty", unfollowed := true, recurses := true, apart := false }
def AdmitEmptySaid : Prop := admitEmptyRow.holds Try.pinned (OpenSpec.ofChange admitEmptySpec)

/-- ITS FALSE NEIGHBOUR: 'it returns false'. Refute it at one input. -/
def admitEmptyWrong : ChangeSpec := { name := "admitEmpty", fn := fun _ => fun
  | [d1, d2, d3, d4] => { results := [.lit (.bool false)], args := [d1, d2, d3, d4] }
  | _ => none }
def AdmitEmptyWrongFalsely : Prop := admitEmptyRow.holds Try.pinned (OpenSpec.ofChange admitEmptyWrong)

/-- 'seinelaw22.AdmitBoth': WHATEVER THE INPUT: true; the input reads as it did. -/
def admitBothSpec : ChangeSpec := { name := "admitBoth", fn := fun _ => fun
  | [d1, d2] => { results := [.lit (.bool true)], args := [d1, d2] }
  | _ => none }
def admitBothRow : OpenClaim := { program := "yticoahmiejgccaa", sum := "987c9aff5ca92f5b2cf2b4c0498a58cfc689a4998c2058eef61435d1973e68d3", func := "seine/seinelaw22.AdmitBoth", spec := "admitBoth", unfollowed := true, recurses := true, apart := false }
def AdmitBothSaid : Prop := admitBothRow.holds Try.pinned (OpenSpec.ofChange admitBothSpec)

/-- ITS FALSE NEIGHBOUR: 'it returns false'. Refute it at one input. -/
def admitBothWrong : ChangeSpec := { name := "admitBoth", fn := fun _ => fun
  | [d1, d2] => { results := [.lit (.bool false)], args := [d1, d2] }
  | _ => none }
def AdmitBothWrongFalsely : Prop := admitBothRow.holds Try.pinned (OpenSpec.ofChange admitBothWrong)

/-- 'seinelaw22.AdmitSides': WHATEVER THE INPUT: true; the input reads as it did. -/
def admitSidesSpec : ChangeSpec := { name := "admitSides", fn := fun _ => fun
  | [d1, d2, d3] => { results := [.lit (.bool true)], args := [d1, d2, d3] }
  | _ => none }
def admitSidesRow : OpenClaim := { program := "yticoahmiejgccaa", sum := "987c9aff5ca92f5b2cf2b4c0498a58cfc689a4998c2058eef61435d1973e68d3", func := "seine/seinelaw22.AdmitSides", spec := "admitSides", unfollowed := true, recurses := true, apart := false }
def AdmitSidesSaid : Prop := admitSidesRow.holds Try.pinned (OpenSpec.ofChange admitSidesSpec)

/-- ITS FALSE NEIGHBOUR: 'it returns false'. Refute it at one input. -/
def admitSidesWrong : ChangeSpec := { name := "admitSides", fn := fun _ => fun
  | [d1, d2, d3] => { results := [.lit (.bool false)], args := [d1, d2, d3] }
  | _ => none }
def AdmitSidesWrongFalsely : Prop := admitSidesRow.holds Try.pinned (OpenSpec.ofChange admitSidesWrong)

/-- 'seinelaw22.AdmitFold': WHATEVER THE INPUT: true; the input reads as it did. -/
def admitFoldSpec : ChangeSpec := { name := "admitFold", fn := fun _ => fun
  | [d1, d2, d3, d4] => { results := [.lit (.bool true)], args := [d1, d2, d3, d4] }
  | _ => none }
def admitFoldRow : OpenClaim := { program := "yticoahmiejgccaa", sum := "987c9aff5ca92f5b2cf2b4c0498a58cfc689a4998c2058eef61435d1973e68d3", func := "seine/seinelaw22.AdmitFold", spec := "admitFold", unfollowed := true, recurses := true, apart := false }
def AdmitFoldSaid : Prop := admitFoldRow.holds Try.pinned (OpenSpec.ofChange admitFoldSpec)

/-- ITS FALSE NEIGHBOUR: 'it returns false'. Refute it at one input. -/
def admitFoldWrong : ChangeSpec := { name := "admitFold", fn := fun _ => fun
  | [d1, d2, d3, d4] => { results := [.lit (.bool false)], args := [d1, d2, d3, d4] }
  | _ => none }
def AdmitFoldWrongFalsely : Prop := admitFoldRow.holds Try.pinned (OpenSpec.ofChange admitFoldWrong)

/- THE SECOND FORM. 'bulk': how many values and letters a reading holds, each counted each time it is reached (what is shared counts as often as it is met; a slice's spare places count too). A statement '..UptoSaid' is the law's where the arguments, and the package variables that the reading takes, are together of bulk at most 1048576: NARROWER than '..Said'. Prove '..Said' where nothing that the law and all that it calls make is longer than what came in: it says more and counts as full. Else prove '..UptoSaid'. A law counts once. -/
mutual
def uptoBulk {H : Type} : DataW H → Nat
  | .lit (.string bytes) => bytes.length + 1
  | .lit _ => 1
  | .nil => 1
  | .ptr d => uptoBulk d + 1
  | .slice elems spare => uptoBulkAll elems + uptoBulkAll spare + 1
  | .agg parts => uptoBulkAll parts + 1
  | .iface _ d => uptoBulk d + 1
  | .map entries => uptoBulkEntries entries + 1
  | .held _ => 1
def uptoBulkAll {H : Type} : List (DataW H) → Nat
  | [] => 0
  | d :: r => uptoBulk d + uptoBulkAll r
def uptoBulkEntries {H : Type} : List (Lit × DataW H) → Nat
  | [] => 0
  | x :: r => uptoBulkEntry x + uptoBulkEntries r
def uptoBulkEntry {H : Type} : Lit × DataW H → Nat
  | (.string bytes, d) => bytes.length + uptoBulk d + 1
  | (_, d) => uptoBulk d + 1
 end
def uptoSmall : (H : Type) → List (DataW H) → Bool := fun _ ds => decide (uptoBulkAll ds ≤ 1048576)
def OpenSpec.upto (s : _root_.Go.ChangeSpec) : _root_.Go.OpenSpec := { _root_.Go.OpenSpec.ofChange s with cond := some uptoSmall }

/-- 'seinelaw22.AdmitFilters', WHERE WHAT IT READS IS OF BULK AT MOST 1048576: true; the input reads as it did. -/
def admitFiltersUptoRow : OpenClaim := { program := "yticoahmiejgccaa", sum := "987c9aff5ca92f5b2cf2b4c0498a58cfc689a4998c2058eef61435d1973e68d3", func := "seine/seinelaw22.AdmitFilters", spec := "admitFilters", unfollowed := true, recurses := true, apart := false, narrowed := true }
def AdmitFiltersUptoSaid : Prop := admitFiltersUptoRow.holds Try.pinned (OpenSpec.upto admitFiltersSpec)

/-- 'seinelaw22.AdmitEmpty', WHERE WHAT IT READS IS OF BULK AT MOST 1048576: true; the input reads as it did. -/
def admitEmptyUptoRow : OpenClaim := { program := "yticoahmiejgccaa", sum := "987c9aff5ca92f5b2cf2b4c0498a58cfc689a4998c2058eef61435d1973e68d3", func := "seine/seinelaw22.AdmitEmpty", spec := "admitEmpty", unfollowed := true, recurses := true, apart := false, narrowed := true }
def AdmitEmptyUptoSaid : Prop := admitEmptyUptoRow.holds Try.pinned (OpenSpec.upto admitEmptySpec)

/-- 'seinelaw22.AdmitBoth', WHERE WHAT IT READS IS OF BULK AT MOST 1048576: true; the input reads as it did. -/
def admitBothUptoRow : OpenClaim := { program := "yticoahmiejgccaa", sum := "987c9aff5ca92f5b2cf2b4c0498a58cfc689a4998c2058eef61435d1973e68d3", func := "seine/seinelaw22.AdmitBoth", spec := "admitBoth", unfollowed := true, recurses := true, apart := false, narrowed := true }
def AdmitBothUptoSaid : Prop := admitBothUptoRow.holds Try.pinned (OpenSpec.upto admitBothSpec)

/-- 'seinelaw22.AdmitSides', WHERE WHAT IT READS IS OF BULK AT MOST 1048576: true; the input reads as it did. -/
def admitSidesUptoRow : OpenClaim := { program := "yticoahmiejgccaa", sum := "987c9aff5ca92f5b2cf2b4c0498a58cfc689a4998c2058eef61435d1973e68d3", func := "seine/seinelaw22.AdmitSides", spec := "admitSides", unfollowed := true, recurses := true, apart := false, narrowed := true }
def AdmitSidesUptoSaid : Prop := admitSidesUptoRow.holds Try.pinned (OpenSpec.upto admitSidesSpec)

/-- 'seinelaw22.AdmitFold', WHERE WHAT IT READS IS OF BULK AT MOST 1048576: true; the input reads as it did. -/
def admitFoldUptoRow : OpenClaim := { program := "yticoahmiejgccaa", sum := "987c9aff5ca92f5b2cf2b4c0498a58cfc689a4998c2058eef61435d1973e68d3", func := "seine/seinelaw22.AdmitFold", spec := "admitFold", unfollowed := true, recurses := true, apart := false, narrowed := true }
def AdmitFoldUptoSaid : Prop := admitFoldUptoRow.holds Try.pinned (OpenSpec.upto admitFoldSpec)

end Rows
end Go.Proofs.Yticoahmiejgccaa
