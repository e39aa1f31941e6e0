/-
  No cell of these rows narrows 'for every input' (looked for: loops, veiled, ifaces, maps, wideKeys, modest, calm, conditions, laid).
  DERIVED. THE GIVEN ROWS OF THIS SEAT. 6 by the template 'for every input the law returns true; each argument reads behind the call as it read before'; 0 by the template 'total and deterministic' (their statements: YtmbglghpnloggaaTotals.lean).
  GIVEN WITH THE SEED: the statements are not yours to turn. If you find one false, say at which input.
  Laid BY PROGRAM, IN A SANDBOX (cutbox-rows.mjs): the forced cells as the released guide's own fill.sh prints them over the translation e76092c8b29d13b5… (all of the seat's roots in one cut). By AI agents, Wed Nov 11 2026. No macro, syntax, notation, axiom, sorry.
-/
import Derived.Test.YtmbglghpnloggaaChecked
import GoSem.Claim
import GoSem.ClaimJoined
import GoSem.ClaimMapViews
import Derived.JoinedTies
import Derived.KernelRfl
namespace Go.Proofs.Ytmbglghpnloggaa
/- THE CELL 'sum', in the pinned program and in every row, IS THE sha256 OF THE DUMP (.gsa) THAT YtmbglghpnloggaaProg.lean LOADS. Nothing in Lean hashes anything: it is a label: what it is worth is what the hold of that sum in a sandbox is worth. -/
noncomputable def Try.pinned : Pinned := { name := "ytmbglghpnloggaa", sum := "e76092c8b29d13b5868ae05e3e3efc3b41936d184555e93aaa36e925101d510d", checked := Try.checked }
namespace Rows
def none {H : Type} : Left H := { results := [], args := [] }

/-- 'seinelaw16.CwalterScans': WHATEVER THE INPUT: true; the input reads as it did. -/
def cwalterScansSpec : ChangeSpec := { name := "cwalterScans", fn := fun _ => fun
  | [d1, d2] => { results := [.lit (.bool true)], args := [d1, d2] }
  | _ => none }
def cwalterScansRow : OpenClaim := { program := "ytmbglghpnloggaa", sum := "e76092c8b29d13b5868ae05e3e3efc3b41936d184555e93aaa36e925101d510d", func := "seine/seinelaw16.CwalterScans", spec := "cwalterScans", unfollowed := true, recurses := true, plainKeys := false, apart := false }
def CwalterScansSaid : Prop := cwalterScansRow.holds Try.pinned (OpenSpec.ofChange cwalterScansSpec)

/-- ITS FALSE NEIGHBOUR: 'it returns false'. Refute it at one input. -/
def cwalterScansWrong : ChangeSpec := { name := "cwalterScans", fn := fun _ => fun
  | [d1, d2] => { results := [.lit (.bool false)], args := [d1, d2] }
  | _ => none }
def CwalterScansWrongFalsely : Prop := cwalterScansRow.holds Try.pinned (OpenSpec.ofChange cwalterScansWrong)

/-- 'seinelaw16.CwalterEnds': WHATEVER THE INPUT: true; the input reads as it did. -/
def cwalterEndsSpec : ChangeSpec := { name := "cwalterEnds", fn := fun _ => fun
  | [d1, d2] => { results := [.lit (.bool true)], args := [d1, d2] }
  | _ => none }
def cwalterEndsRow : OpenClaim := { program := "ytmbglghpnloggaa", sum := "e76092c8b29d13b5868ae05e3e3efc3b41936d184555e93aaa36e925101d510d", func := "seine/seinelaw16.CwalterEnds", spec := "cwalterEnds", unfollowed := true, recurses := true, plainKeys := false, apart := false }
def CwalterEndsSaid : Prop := cwalterEndsRow.holds Try.pinned (OpenSpec.ofChange cwalterEndsSpec)

/-- ITS FALSE NEIGHBOUR: 'it returns false'. Refute it at one input. -/
def cwalterEndsWrong : ChangeSpec := { name := "cwalterEnds", fn := fun _ => fun
  | [d1, d2] => { results := [.lit (.bool false)], args := [d1, d2] }
  | _ => none }
def CwalterEndsWrongFalsely : Prop := cwalterEndsRow.holds Try.pinned (OpenSpec.ofChange cwalterEndsWrong)

/-- 'seinelaw16.CwalterSparse': WHATEVER THE INPUT: true; the input reads as it did. -/
def cwalterSparseSpec : ChangeSpec := { name := "cwalterSparse", fn := fun _ => fun
  | [d1, d2, d3] => { results := [.lit (.bool true)], args := [d1, d2, d3] }
  | _ => none }
def cwalterSparseRow : OpenClaim := { program := "ytmbglghpnloggaa", sum := "e76092c8b29d13b5868ae05e3e3efc3b41936d184555e93aaa36e925101d510d", func := "seine/seinelaw16.CwalterSparse", spec := "cwalterSparse", unfollowed := true, recurses := true, plainKeys := false, apart := false }
def CwalterSparseSaid : Prop := cwalterSparseRow.holds Try.pinned (OpenSpec.ofChange cwalterSparseSpec)

/-- ITS FALSE NEIGHBOUR: 'it returns false'. Refute it at one input. -/
def cwalterSparseWrong : ChangeSpec := { name := "cwalterSparse", fn := fun _ => fun
  | [d1, d2, d3] => { results := [.lit (.bool false)], args := [d1, d2, d3] }
  | _ => none }
def CwalterSparseWrongFalsely : Prop := cwalterSparseRow.holds Try.pinned (OpenSpec.ofChange cwalterSparseWrong)

/-- 'seinelaw16.CwalterWindows': WHATEVER THE INPUT: true; the input reads as it did. -/
def cwalterWindowsSpec : ChangeSpec := { name := "cwalterWindows", fn := fun _ => fun
  | [d1, d2] => { results := [.lit (.bool true)], args := [d1, d2] }
  | _ => none }
def cwalterWindowsRow : OpenClaim := { program := "ytmbglghpnloggaa", sum := "e76092c8b29d13b5868ae05e3e3efc3b41936d184555e93aaa36e925101d510d", func := "seine/seinelaw16.CwalterWindows", spec := "cwalterWindows", unfollowed := true, recurses := true, plainKeys := false, apart := false }
def CwalterWindowsSaid : Prop := cwalterWindowsRow.holds Try.pinned (OpenSpec.ofChange cwalterWindowsSpec)

/-- ITS FALSE NEIGHBOUR: 'it returns false'. Refute it at one input. -/
def cwalterWindowsWrong : ChangeSpec := { name := "cwalterWindows", fn := fun _ => fun
  | [d1, d2] => { results := [.lit (.bool false)], args := [d1, d2] }
  | _ => none }
def CwalterWindowsWrongFalsely : Prop := cwalterWindowsRow.holds Try.pinned (OpenSpec.ofChange cwalterWindowsWrong)

/-- 'seinelaw16.CwalterFront': WHATEVER THE INPUT: true; the input reads as it did. -/
def cwalterFrontSpec : ChangeSpec := { name := "cwalterFront", fn := fun _ => fun
  | [d1, d2, d3] => { results := [.lit (.bool true)], args := [d1, d2, d3] }
  | _ => none }
def cwalterFrontRow : OpenClaim := { program := "ytmbglghpnloggaa", sum := "e76092c8b29d13b5868ae05e3e3efc3b41936d184555e93aaa36e925101d510d", func := "seine/seinelaw16.CwalterFront", spec := "cwalterFront", unfollowed := true, recurses := true, plainKeys := false, apart := false }
def CwalterFrontSaid : Prop := cwalterFrontRow.holds Try.pinned (OpenSpec.ofChange cwalterFrontSpec)

/-- ITS FALSE NEIGHBOUR: 'it returns false'. Refute it at one input. -/
def cwalterFrontWrong : ChangeSpec := { name := "cwalterFront", fn := fun _ => fun
  | [d1, d2, d3] => { results := [.lit (.bool false)], args := [d1, d2, d3] }
  | _ => none }
def CwalterFrontWrongFalsely : Prop := cwalterFrontRow.holds Try.pinned (OpenSpec.ofChange cwalterFrontWrong)

/-- 'seinelaw16.CwalterOne': WHATEVER THE INPUT: true; the input reads as it did. -/
def cwalterOneSpec : ChangeSpec := { name := "cwalterOne", fn := fun _ => fun
  | [d1, d2] => { results := [.lit (.bool true)], args := [d1, d2] }
  | _ => none }
def cwalterOneRow : OpenClaim := { program := "ytmbglghpnloggaa", sum := "e76092c8b29d13b5868ae05e3e3efc3b41936d184555e93aaa36e925101d510d", func := "seine/seinelaw16.CwalterOne", spec := "cwalterOne", unfollowed := true, recurses := true, plainKeys := false, apart := false }
def CwalterOneSaid : Prop := cwalterOneRow.holds Try.pinned (OpenSpec.ofChange cwalterOneSpec)

/-- ITS FALSE NEIGHBOUR: 'it returns false'. Refute it at one input. -/
def cwalterOneWrong : ChangeSpec := { name := "cwalterOne", fn := fun _ => fun
  | [d1, d2] => { results := [.lit (.bool false)], args := [d1, d2] }
  | _ => none }
def CwalterOneWrongFalsely : Prop := cwalterOneRow.holds Try.pinned (OpenSpec.ofChange cwalterOneWrong)

/- THE SECOND FORM. 'bulk': how many values and letters a reading holds, each counted each time it is reached (what is shared counts as often as it is met; a slice's spare places count too). A statement '..UptoSaid' is the law's where the arguments, and the package variables that the reading takes, are together of bulk at most 1048576: NARROWER than '..Said'. Prove '..Said' where nothing that the law and all that it calls make is longer than what came in: it says more and counts as full. Else prove '..UptoSaid'. A law counts once. -/
mutual
def uptoBulk {H : Type} : DataW H → Nat
  | .lit (.string bytes) => bytes.length + 1
  | .lit _ => 1
  | .nil => 1
  | .ptr d => uptoBulk d + 1
  | .slice elems spare => uptoBulkAll elems + uptoBulkAll spare + 1
  | .agg parts => uptoBulkAll parts + 1
  | .iface _ d => uptoBulk d + 1
  | .map entries => uptoBulkEntries entries + 1
  | .held _ => 1
def uptoBulkAll {H : Type} : List (DataW H) → Nat
  | [] => 0
  | d :: r => uptoBulk d + uptoBulkAll r
def uptoBulkEntries {H : Type} : List (Lit × DataW H) → Nat
  | [] => 0
  | x :: r => uptoBulkEntry x + uptoBulkEntries r
def uptoBulkEntry {H : Type} : Lit × DataW H → Nat
  | (.string bytes, d) => bytes.length + uptoBulk d + 1
  | (_, d) => uptoBulk d + 1
 end
def uptoSmall : (H : Type) → List (DataW H) → Bool := fun _ ds => decide (uptoBulkAll ds ≤ 1048576)
def OpenSpec.upto (s : _root_.Go.ChangeSpec) : _root_.Go.OpenSpec := { _root_.Go.OpenSpec.ofChange s with cond := some uptoSmall }

/-- 'seinelaw16.CwalterScans', WHERE WHAT IT READS IS OF BULK AT MOST 1048576: true; the input reads as it did. -/
def cwalterScansUptoRow : OpenClaim := { program := "ytmbglghpnloggaa", sum := "e76092c8b29d13b5868ae05e3e3efc3b41936d184555e93aaa36e925101d510d", func := "seine/seinelaw16.CwalterScans", spec := "cwalterScans", unfollowed := true, recurses := true, plainKeys := false, apart := false, narrowed := true }
def CwalterScansUptoSaid : Prop := cwalterScansUptoRow.holds Try.pinned (OpenSpec.upto cwalterScansSpec)

/-- 'seinelaw16.CwalterEnds', WHERE WHAT IT READS IS OF BULK AT MOST 1048576: true; the input reads as it did. -/
def cwalterEndsUptoRow : OpenClaim := { program := "ytmbglghpnloggaa", sum := "e76092c8b29d13b5868ae05e3e3efc3b41936d184555e93aaa36e925101d510d", func := "seine/seinelaw16.CwalterEnds", spec := "cwalterEnds", unfollowed := true, recurses := true, plainKeys := false, apart := false, narrowed := true }
def CwalterEndsUptoSaid : Prop := cwalterEndsUptoRow.holds Try.pinned (OpenSpec.upto cwalterEndsSpec)

/-- 'seinelaw16.CwalterSparse', WHERE WHAT IT READS IS OF BULK AT MOST 1048576: true; the input reads as it did. -/
def cwalterSparseUptoRow : OpenClaim := { program := "ytmbglghpnloggaa", sum := "e76092c8b29d13b5868ae05e3e3efc3b41936d184555e93aaa36e925101d510d", func := "seine/seinelaw16.CwalterSparse", spec := "cwalterSparse", unfollowed := true, recurses := true, plainKeys := false, apart := false, narrowed := true }
def CwalterSparseUptoSaid : Prop := cwalterSparseUptoRow.holds Try.pinned (OpenSpec.upto cwalterSparseSpec)

/-- 'seinelaw16.CwalterWindows', WHERE WHAT IT READS IS OF BULK AT MOST 1048576: true; the input reads as it did. -/
def cwalterWindowsUptoRow : OpenClaim := { program := "ytmbglghpnloggaa", sum := "e76092c8b29d13b5868ae05e3e3efc3b41936d184555e93aaa36e925101d510d", func := "seine/seinelaw16.CwalterWindows", spec := "cwalterWindows", unfollowed := true, recurses := true, plainKeys := false, apart := false, narrowed := true }
def CwalterWindowsUptoSaid : Prop := cwalterWindowsUptoRow.holds Try.pinned (OpenSpec.upto cwalterWindowsSpec)

/-- 'seinelaw16.CwalterFront', WHERE WHAT IT READS IS OF BULK AT MOST 1048576: true; the input reads as it did. -/
def cwalterFrontUptoRow : OpenClaim := { program := "ytmbglghpnloggaa", sum := "e76092c8b29d13b5868ae05e3e3efc3b41936d184555e93aaa36e925101d510d", func := "seine/seinelaw16.CwalterFront", spec := "cwalterFront", unfollowed := true, recurses := true, plainKeys := false, apart := false, narrowed := true }
def CwalterFrontUptoSaid : Prop := cwalterFrontUptoRow.holds Try.pinned (OpenSpec.upto cwalterFrontSpec)

/-- 'seinelaw16.CwalterOne', WHERE WHAT IT READS IS OF BULK AT MOST 1048576: true; the input reads as it did. -/
def cwalterOneUptoRow : OpenClaim := { program := "ytmbglghpnloggaa", sum := "e76092c8b29d13b5868ae05e3e3efc3b41936d184555e93aaa36e925101d510d", func := "seine/seinelaw16.CwalterOne", spec := "cwalterOne", unfollowed := true, recurses := true, plainKeys := false, apart := false, narrowed := true }
def CwalterOneUptoSaid : Prop := cwalterOneUptoRow.holds Try.pinned (OpenSpec.upto cwalterOneSpec)

end Rows
end Go.Proofs.Ytmbglghpnloggaa
