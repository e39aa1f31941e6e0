/-
  No cell of these rows narrows 'for every input' (looked for: loops, veiled, ifaces, maps, wideKeys, modest, calm, conditions, laid).
  DERIVED. THE GIVEN ROWS OF THIS SEAT. 4 by the template 'for every input the law returns true; each argument reads behind the call as it read before'; 0 by the template 'total and deterministic' (their statements: YtcknipokplomcaaTotals.lean).
  GIVEN WITH THE SEED: the statements are not yours to turn. If you find one false, say at which input.
  Laid BY PROGRAM, IN A SANDBOX (cutbox-rows.mjs): the forced cells as the released guide's own fill.sh prints them over the translation 0f4d46c1d2b8462c… (all of the seat's roots in one cut). By AI agents, Wed Nov 11 2026. No macro, syntax, notation, axiom, sorry.
-/
import Derived.Test.YtcknipokplomcaaChecked
import GoSem.Claim
import GoSem.ClaimJoined
import GoSem.ClaimMapViews
import Derived.JoinedTies
import Derived.KernelRfl
namespace Go.Proofs.Ytcknipokplomcaa
/- THE CELL 'sum', in the pinned program and in every row, IS THE sha256 OF THE DUMP (.gsa) THAT YtcknipokplomcaaProg.lean LOADS. Nothing in Lean hashes anything: it is a label: what it is worth is what the hold of that sum in a sandbox is worth. -/
noncomputable def Try.pinned : Pinned := { name := "ytcknipokplomcaa", sum := "0f4d46c1d2b8462c47a9acaf44465e75f642ad868ab224f1d0a135efd62e8bb7", checked := Try.checked }
namespace Rows
def none {H : Type} : Left H := { results := [], args := [] }

/-- 'seinelaw07.LinksTells': WHATEVER THE INPUT: true; the input reads as it did. -/
def linksTellsSpec : ChangeSpec := { name := "linksTells", fn := fun _ => fun
  | [d1, d2] => { results := [.lit (.bool true)], args := [d1, d2] }
  | _ => none }
def linksTellsRow : OpenClaim := { program := "ytcknipokplomcaa", sum := "0f4d46c1d2b8462c47a9acaf44465e75f642ad868ab224f1d0a135efd62e8bb7", func := "seine/seinelaw07.LinksTells", spec := "linksTells", unfollowed := true, recurses := true, plainKeys := false, apart := false }
def LinksTellsSaid : Prop := linksTellsRow.holds Try.pinned (OpenSpec.ofChange linksTellsSpec)

/-- ITS FALSE NEIGHBOUR: 'it returns false'. Refute it at one input. -/
def linksTellsWrong : ChangeSpec := { name := "linksTells", fn := fun _ => fun
  | [d1, d2] => { results := [.lit (.bool false)], args := [d1, d2] }
  | _ => none }
def LinksTellsWrongFalsely : Prop := linksTellsRow.holds Try.pinned (OpenSpec.ofChange linksTellsWrong)

/-- 'seinelaw07.LinksOrder': WHATEVER THE INPUT: true; the input reads as it did. -/
def linksOrderSpec : ChangeSpec := { name := "linksOrder", fn := fun _ => fun
  | [d] => { results := [.lit (.bool true)], args := [d] }
  | _ => none }
def linksOrderRow : OpenClaim := { program := "ytcknipokplomcaa", sum := "0f4d46c1d2b8462c47a9acaf44465e75f642ad868ab224f1d0a135efd62e8bb7", func := "seine/seinelaw07.LinksOrder", spec := "linksOrder", unfollowed := true, recurses := true, plainKeys := false, apart := false }
def LinksOrderSaid : Prop := linksOrderRow.holds Try.pinned (OpenSpec.ofChange linksOrderSpec)

/-- ITS FALSE NEIGHBOUR: 'it returns false'. Refute it at one input. -/
def linksOrderWrong : ChangeSpec := { name := "linksOrder", fn := fun _ => fun
  | [d] => { results := [.lit (.bool false)], args := [d] }
  | _ => none }
def LinksOrderWrongFalsely : Prop := linksOrderRow.holds Try.pinned (OpenSpec.ofChange linksOrderWrong)

/-- 'seinelaw07.LinksShort': WHATEVER THE INPUT: true; the input reads as it did. -/
def linksShortSpec : ChangeSpec := { name := "linksShort", fn := fun _ => fun
  | [d] => { results := [.lit (.bool true)], args := [d] }
  | _ => none }
def linksShortRow : OpenClaim := { program := "ytcknipokplomcaa", sum := "0f4d46c1d2b8462c47a9acaf44465e75f642ad868ab224f1d0a135efd62e8bb7", func := "seine/seinelaw07.LinksShort", spec := "linksShort", unfollowed := true, recurses := true, plainKeys := false, apart := false }
def LinksShortSaid : Prop := linksShortRow.holds Try.pinned (OpenSpec.ofChange linksShortSpec)

/-- ITS FALSE NEIGHBOUR: 'it returns false'. Refute it at one input. -/
def linksShortWrong : ChangeSpec := { name := "linksShort", fn := fun _ => fun
  | [d] => { results := [.lit (.bool false)], args := [d] }
  | _ => none }
def LinksShortWrongFalsely : Prop := linksShortRow.holds Try.pinned (OpenSpec.ofChange linksShortWrong)

/-- 'seinelaw07.LinksOuts': WHATEVER THE INPUT: true; the input reads as it did. -/
def linksOutsSpec : ChangeSpec := { name := "linksOuts", fn := fun _ => fun
  | [d] => { results := [.lit (.bool true)], args := [d] }
  | _ => none }
def linksOutsRow : OpenClaim := { program := "ytcknipokplomcaa", sum := "0f4d46c1d2b8462c47a9acaf44465e75f642ad868ab224f1d0a135efd62e8bb7", func := "seine/seinelaw07.LinksOuts", spec := "linksOuts", unfollowed := true, recurses := true, plainKeys := false, apart := false }
def LinksOutsSaid : Prop := linksOutsRow.holds Try.pinned (OpenSpec.ofChange linksOutsSpec)

/-- ITS FALSE NEIGHBOUR: 'it returns false'. Refute it at one input. -/
def linksOutsWrong : ChangeSpec := { name := "linksOuts", fn := fun _ => fun
  | [d] => { results := [.lit (.bool false)], args := [d] }
  | _ => none }
def LinksOutsWrongFalsely : Prop := linksOutsRow.holds Try.pinned (OpenSpec.ofChange linksOutsWrong)

/- THE SECOND FORM. 'bulk': how many values and letters a reading holds, each counted each time it is reached (what is shared counts as often as it is met; a slice's spare places count too). A statement '..UptoSaid' is the law's where the arguments, and the package variables that the reading takes, are together of bulk at most 1048576: NARROWER than '..Said'. Prove '..Said' where nothing that the law and all that it calls make is longer than what came in: it says more and counts as full. Else prove '..UptoSaid'. A law counts once. -/
mutual
def uptoBulk {H : Type} : DataW H → Nat
  | .lit (.string bytes) => bytes.length + 1
  | .lit _ => 1
  | .nil => 1
  | .ptr d => uptoBulk d + 1
  | .slice elems spare => uptoBulkAll elems + uptoBulkAll spare + 1
  | .agg parts => uptoBulkAll parts + 1
  | .iface _ d => uptoBulk d + 1
  | .map entries => uptoBulkEntries entries + 1
  | .held _ => 1
def uptoBulkAll {H : Type} : List (DataW H) → Nat
  | [] => 0
  | d :: r => uptoBulk d + uptoBulkAll r
def uptoBulkEntries {H : Type} : List (Lit × DataW H) → Nat
  | [] => 0
  | x :: r => uptoBulkEntry x + uptoBulkEntries r
def uptoBulkEntry {H : Type} : Lit × DataW H → Nat
  | (.string bytes, d) => bytes.length + uptoBulk d + 1
  | (_, d) => uptoBulk d + 1
 end
def uptoSmall : (H : Type) → List (DataW H) → Bool := fun _ ds => decide (uptoBulkAll ds ≤ 1048576)
def OpenSpec.upto (s : _root_.Go.ChangeSpec) : _root_.Go.OpenSpec := { _root_.Go.OpenSpec.ofChange s with cond := some uptoSmall }

/-- 'seinelaw07.LinksTells', WHERE WHAT IT READS IS OF BULK AT MOST 1048576: true; the input reads as it did. -/
def linksTellsUptoRow : OpenClaim := { program := "ytcknipokplomcaa", sum := "0f4d46c1d2b8462c47a9acaf44465e75f642ad868ab224f1d0a135efd62e8bb7", func := "seine/seinelaw07.LinksTells", spec := "linksTells", unfollowed := true, recurses := true, plainKeys := false, apart := false, narrowed := true }
def LinksTellsUptoSaid : Prop := linksTellsUptoRow.holds Try.pinned (OpenSpec.upto linksTellsSpec)

/-- 'seinelaw07.LinksOrder', WHERE WHAT IT READS IS OF BULK AT MOST 1048576: true; the input reads as it did. -/
def linksOrderUptoRow : OpenClaim := { program := "ytcknipokplomcaa", sum := "0f4d46c1d2b8462c47a9acaf44465e75f642ad868ab224f1d0a135efd62e8bb7", func := "seine/seinelaw07.LinksOrder", spec := "linksOrder", unfollowed := true, recurses := true, plainKeys := false, apart := false, narrowed := true }
def LinksOrderUptoSaid : Prop := linksOrderUptoRow.holds Try.pinned (OpenSpec.upto linksOrderSpec)

/-- 'seinelaw07.LinksShort', WHERE WHAT IT READS IS OF BULK AT MOST 1048576: true; the input reads as it did. -/
def linksShortUptoRow : OpenClaim := { program := "ytcknipokplomcaa", sum := "0f4d46c1d2b8462c47a9acaf44465e75f642ad868ab224f1d0a135efd62e8bb7", func := "seine/seinelaw07.LinksShort", spec := "linksShort", unfollowed := true, recurses := true, plainKeys := false, apart := false, narrowed := true }
def LinksShortUptoSaid : Prop := linksShortUptoRow.holds Try.pinned (OpenSpec.upto linksShortSpec)

/-- 'seinelaw07.LinksOuts', WHERE WHAT IT READS IS OF BULK AT MOST 1048576: true; the input reads as it did. -/
def linksOutsUptoRow : OpenClaim := { program := "ytcknipokplomcaa", sum := "0f4d46c1d2b8462c47a9acaf44465e75f642ad868ab224f1d0a135efd62e8bb7", func := "seine/seinelaw07.LinksOuts", spec := "linksOuts", unfollowed := true, recurses := true, plainKeys := false, apart := false, narrowed := true }
def LinksOutsUptoSaid : Prop := linksOutsUptoRow.holds Try.pinned (OpenSpec.upto linksOutsSpec)

end Rows
end Go.Proofs.Ytcknipokplomcaa
