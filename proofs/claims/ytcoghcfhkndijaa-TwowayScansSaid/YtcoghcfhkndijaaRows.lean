/-
  No cell of these rows narrows 'for every input' (looked for: loops, veiled, ifaces, maps, wideKeys, modest, calm, conditions, laid).
  DERIVED. THE GIVEN ROWS OF THIS SEAT. 6 by the template 'for every input the law returns true; each argument reads behind the call as it read before'; 0 by the template 'total and deterministic' (their statements: YtcoghcfhkndijaaTotals.lean).
  GIVEN WITH THE SEED: the statements are not yours to turn. If you find one false, say at which input.
  Laid BY PROGRAM, IN A SANDBOX (cutbox-rows.mjs): the forced cells as the released guide's own fill.sh prints them over the translation 491799e857102251… (all of the seat's roots in one cut). By AI agents, Wed Nov 11 2026. No macro, syntax, notation, axiom, sorry.
-/
import Derived.Test.YtcoghcfhkndijaaChecked
import GoSem.Claim
import GoSem.ClaimJoined
import GoSem.ClaimMapViews
import Derived.JoinedTies
import Derived.KernelRfl
namespace Go.Proofs.Ytcoghcfhkndijaa
/- THE CELL 'sum', in the pinned program and in every row, IS THE sha256 OF THE DUMP (.gsa) THAT YtcoghcfhkndijaaProg.lean LOADS. Nothing in Lean hashes anything: it is a label: what it is worth is what the hold of that sum in a sandbox is worth. -/
noncomputable def Try.pinned : Pinned := { name := "ytcoghcfhkndijaa", sum := "491799e857102251c7dd4f436ac78bc890c4ac8921d955f62635dc3d6ae29d20", checked := Try.checked }
namespace Rows
def none {H : Type} : Left H := { results := [], args := [] }

/-- 'seinelaw13.TwowayNext': WHATEVER THE INPUT: true; the input reads as it did. -/
def twowayNextSpec : ChangeSpec := { name := "twowayNext", fn := fun _ => fun
  | [d1, d2, d3] => { results := [.lit (.bool true)], args := [d1, d2, d3] }
  | _ => none }
def twowayNextRow : OpenClaim := { program := "ytcoghcfhkndijaa", sum := "491799e857102251c7dd4f436ac78bc890c4ac8921d955f62635dc3d6ae29d20", func := "seine/seinelaw13.TwowayNext", spec := "twowayNext", unfollowed := true, recurses := true, plainKeys := false, apart := false }
def TwowayNextSaid : Prop := twowayNextRow.holds Try.pinned (OpenSpec.ofChange twowayNextSpec)

/-- ITS FALSE NEIGHBOUR: 'it returns false'. Refute it at one input. -/
def twowayNextWrong : ChangeSpec := { name := "twowayNext", fn := fun _ => fun
  | [d1, d2, d3] => { results := [.lit (.bool false)], args := [d1, d2, d3] }
  | _ => none }
def TwowayNextWrongFalsely : Prop := twowayNextRow.holds Try.pinned (OpenSpec.ofChange twowayNextWrong)

/-- 'seinelaw13.TwowayScans': WHATEVER THE INPUT: true; the input reads as it did. -/
def twowayScansSpec : ChangeSpec := { name := "twowayScans", fn := fun _ => fun
  | [d1, d2] => { results := [.lit (.bool true)], args := [d1, d2] }
  | _ => none }
def twowayScansRow : OpenClaim := { program := "ytcoghcfhkndijaa", sum := "491799e857102251c7dd4f436ac78bc890c4ac8921d955f62635dc3d6ae29d20", func := "seine/seinelaw13.TwowayScans", spec := "twowayScans", unfollowed := true, recurses := true, plainKeys := false, apart := false }
def TwowayScansSaid : Prop := twowayScansRow.holds Try.pinned (OpenSpec.ofChange twowayScansSpec)

/-- ITS FALSE NEIGHBOUR: 'it returns false'. Refute it at one input. -/
def twowayScansWrong : ChangeSpec := { name := "twowayScans", fn := fun _ => fun
  | [d1, d2] => { results := [.lit (.bool false)], args := [d1, d2] }
  | _ => none }
def TwowayScansWrongFalsely : Prop := twowayScansRow.holds Try.pinned (OpenSpec.ofChange twowayScansWrong)

/-- 'seinelaw13.TwowaySparse': WHATEVER THE INPUT: true; the input reads as it did. -/
def twowaySparseSpec : ChangeSpec := { name := "twowaySparse", fn := fun _ => fun
  | [d1, d2] => { results := [.lit (.bool true)], args := [d1, d2] }
  | _ => none }
def twowaySparseRow : OpenClaim := { program := "ytcoghcfhkndijaa", sum := "491799e857102251c7dd4f436ac78bc890c4ac8921d955f62635dc3d6ae29d20", func := "seine/seinelaw13.TwowaySparse", spec := "twowaySparse", unfollowed := true, recurses := true, plainKeys := false, apart := false }
def TwowaySparseSaid : Prop := twowaySparseRow.holds Try.pinned (OpenSpec.ofChange twowaySparseSpec)

/-- ITS FALSE NEIGHBOUR: 'it returns false'. Refute it at one input. -/
def twowaySparseWrong : ChangeSpec := { name := "twowaySparse", fn := fun _ => fun
  | [d1, d2] => { results := [.lit (.bool false)], args := [d1, d2] }
  | _ => none }
def TwowaySparseWrongFalsely : Prop := twowaySparseRow.holds Try.pinned (OpenSpec.ofChange twowaySparseWrong)

/-- 'seinelaw13.TwowayStands': WHATEVER THE INPUT: true; the input reads as it did. -/
def twowayStandsSpec : ChangeSpec := { name := "twowayStands", fn := fun _ => fun
  | [d1, d2, d3] => { results := [.lit (.bool true)], args := [d1, d2, d3] }
  | _ => none }
def twowayStandsRow : OpenClaim := { program := "ytcoghcfhkndijaa", sum := "491799e857102251c7dd4f436ac78bc890c4ac8921d955f62635dc3d6ae29d20", func := "seine/seinelaw13.TwowayStands", spec := "twowayStands", unfollowed := true, recurses := true, plainKeys := false, apart := false }
def TwowayStandsSaid : Prop := twowayStandsRow.holds Try.pinned (OpenSpec.ofChange twowayStandsSpec)

/-- ITS FALSE NEIGHBOUR: 'it returns false'. Refute it at one input. -/
def twowayStandsWrong : ChangeSpec := { name := "twowayStands", fn := fun _ => fun
  | [d1, d2, d3] => { results := [.lit (.bool false)], args := [d1, d2, d3] }
  | _ => none }
def TwowayStandsWrongFalsely : Prop := twowayStandsRow.holds Try.pinned (OpenSpec.ofChange twowayStandsWrong)

/-- 'seinelaw13.TwowayOnce': WHATEVER THE INPUT: true; the input reads as it did. -/
def twowayOnceSpec : ChangeSpec := { name := "twowayOnce", fn := fun _ => fun
  | [d1, d2] => { results := [.lit (.bool true)], args := [d1, d2] }
  | _ => none }
def twowayOnceRow : OpenClaim := { program := "ytcoghcfhkndijaa", sum := "491799e857102251c7dd4f436ac78bc890c4ac8921d955f62635dc3d6ae29d20", func := "seine/seinelaw13.TwowayOnce", spec := "twowayOnce", unfollowed := true, recurses := true, plainKeys := false, apart := false }
def TwowayOnceSaid : Prop := twowayOnceRow.holds Try.pinned (OpenSpec.ofChange twowayOnceSpec)

/-- ITS FALSE NEIGHBOUR: 'it returns false'. Refute it at one input. -/
def twowayOnceWrong : ChangeSpec := { name := "twowayOnce", fn := fun _ => fun
  | [d1, d2] => { results := [.lit (.bool false)], args := [d1, d2] }
  | _ => none }
def TwowayOnceWrongFalsely : Prop := twowayOnceRow.holds Try.pinned (OpenSpec.ofChange twowayOnceWrong)

/-- 'seinelaw13.TwowayFront': WHATEVER THE INPUT: true; the input reads as it did. -/
def twowayFrontSpec : ChangeSpec := { name := "twowayFront", fn := fun _ => fun
  | [d1, d2, d3] => { results := [.lit (.bool true)], args := [d1, d2, d3] }
  | _ => none }
def twowayFrontRow : OpenClaim := { program := "ytcoghcfhkndijaa", sum := "491799e857102251c7dd4f436ac78bc890c4ac8921d955f62635dc3d6ae29d20", func := "seine/seinelaw13.TwowayFront", spec := "twowayFront", unfollowed := true, recurses := true, plainKeys := false, apart := false }
def TwowayFrontSaid : Prop := twowayFrontRow.holds Try.pinned (OpenSpec.ofChange twowayFrontSpec)

/-- ITS FALSE NEIGHBOUR: 'it returns false'. Refute it at one input. -/
def twowayFrontWrong : ChangeSpec := { name := "twowayFront", fn := fun _ => fun
  | [d1, d2, d3] => { results := [.lit (.bool false)], args := [d1, d2, d3] }
  | _ => none }
def TwowayFrontWrongFalsely : Prop := twowayFrontRow.holds Try.pinned (OpenSpec.ofChange twowayFrontWrong)

/- THE SECOND FORM. 'bulk': how many values and letters a reading holds, each counted each time it is reached (what is shared counts as often as it is met; a slice's spare places count too). A statement '..UptoSaid' is the law's where the arguments, and the package variables that the reading takes, are together of bulk at most 1048576: NARROWER than '..Said'. Prove '..Said' where nothing that the law and all that it calls make is longer than what came in: it says more and counts as full. Else prove '..UptoSaid'. A law counts once. -/
mutual
def uptoBulk {H : Type} : DataW H → Nat
  | .lit (.string bytes) => bytes.length + 1
  | .lit _ => 1
  | .nil => 1
  | .ptr d => uptoBulk d + 1
  | .slice elems spare => uptoBulkAll elems + uptoBulkAll spare + 1
  | .agg parts => uptoBulkAll parts + 1
  | .iface _ d => uptoBulk d + 1
  | .map entries => uptoBulkEntries entries + 1
  | .held _ => 1
def uptoBulkAll {H : Type} : List (DataW H) → Nat
  | [] => 0
  | d :: r => uptoBulk d + uptoBulkAll r
def uptoBulkEntries {H : Type} : List (Lit × DataW H) → Nat
  | [] => 0
  | x :: r => uptoBulkEntry x + uptoBulkEntries r
def uptoBulkEntry {H : Type} : Lit × DataW H → Nat
  | (.string bytes, d) => bytes.length + uptoBulk d + 1
  | (_, d) => uptoBulk d + 1
 end
def uptoSmall : (H : Type) → List (DataW H) → Bool := fun _ ds => decide (uptoBulkAll ds ≤ 1048576)
def OpenSpec.upto (s : _root_.Go.ChangeSpec) : _root_.Go.OpenSpec := { _root_.Go.OpenSpec.ofChange s with cond := some uptoSmall }

/-- 'seinelaw13.TwowayNext', WHERE WHAT IT READS IS OF BULK AT MOST 1048576: true; the input reads as it did. -/
def twowayNextUptoRow : OpenClaim := { program := "ytcoghcfhkndijaa", sum := "491799e857102251c7dd4f436ac78bc890c4ac8921d955f62635dc3d6ae29d20", func := "seine/seinelaw13.TwowayNext", spec := "twowayNext", unfollowed := true, recurses := true, plainKeys := false, apart := false, narrowed := true }
def TwowayNextUptoSaid : Prop := twowayNextUptoRow.holds Try.pinned (OpenSpec.upto twowayNextSpec)

/-- 'seinelaw13.TwowayScans', WHERE WHAT IT READS IS OF BULK AT MOST 1048576: true; the input reads as it did. -/
def twowayScansUptoRow : OpenClaim := { program := "ytcoghcfhkndijaa", sum := "491799e857102251c7dd4f436ac78bc890c4ac8921d955f62635dc3d6ae29d20", func := "seine/seinelaw13.TwowayScans", spec := "twowayScans", unfollowed := true, recurses := true, plainKeys := false, apart := false, narrowed := true }
def TwowayScansUptoSaid : Prop := twowayScansUptoRow.holds Try.pinned (OpenSpec.upto twowayScansSpec)

/-- 'seinelaw13.TwowaySparse', WHERE WHAT IT READS IS OF BULK AT MOST 1048576: true; the input reads as it did. -/
def twowaySparseUptoRow : OpenClaim := { program := "ytcoghcfhkndijaa", sum := "491799e857102251c7dd4f436ac78bc890c4ac8921d955f62635dc3d6ae29d20", func := "seine/seinelaw13.TwowaySparse", spec := "twowaySparse", unfollowed := true, recurses := true, plainKeys := false, apart := false, narrowed := true }
def TwowaySparseUptoSaid : Prop := twowaySparseUptoRow.holds Try.pinned (OpenSpec.upto twowaySparseSpec)

/-- 'seinelaw13.TwowayStands', WHERE WHAT IT READS IS OF BULK AT MOST 1048576: true; the input reads as it did. -/
def twowayStandsUptoRow : OpenClaim := { program := "ytcoghcfhkndijaa", sum := "491799e857102251c7dd4f436ac78bc890c4ac8921d955f62635dc3d6ae29d20", func := "seine/seinelaw13.TwowayStands", spec := "twowayStands", unfollowed := true, recurses := true, plainKeys := false, apart := false, narrowed := true }
def TwowayStandsUptoSaid : Prop := twowayStandsUptoRow.holds Try.pinned (OpenSpec.upto twowayStandsSpec)

/-- 'seinelaw13.TwowayOnce', WHERE WHAT IT READS IS OF BULK AT MOST 1048576: true; the input reads as it did. -/
def twowayOnceUptoRow : OpenClaim := { program := "ytcoghcfhkndijaa", sum := "491799e857102251c7dd4f436ac78bc890c4ac8921d955f62635dc3d6ae29d20", func := "seine/seinelaw13.TwowayOnce", spec := "twowayOnce", unfollowed := true, recurses := true, plainKeys := false, apart := false, narrowed := true }
def TwowayOnceUptoSaid : Prop := twowayOnceUptoRow.holds Try.pinned (OpenSpec.upto twowayOnceSpec)

/-- 'seinelaw13.TwowayFront', WHERE WHAT IT READS IS OF BULK AT MOST 1048576: true; the input reads as it did. -/
def twowayFrontUptoRow : OpenClaim := { program := "ytcoghcfhkndijaa", sum := "491799e857102251c7dd4f436ac78bc890c4ac8921d955f62635dc3d6ae29d20", func := "seine/seinelaw13.TwowayFront", spec := "twowayFront", unfollowed := true, recurses := true, plainKeys := false, apart := false, narrowed := true }
def TwowayFrontUptoSaid : Prop := twowayFrontUptoRow.holds Try.pinned (OpenSpec.upto twowayFrontSpec)

end Rows
end Go.Proofs.Ytcoghcfhkndijaa
