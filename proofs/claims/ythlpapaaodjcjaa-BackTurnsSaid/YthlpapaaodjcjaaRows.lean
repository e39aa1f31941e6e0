/-
  No cell of these rows narrows 'for every input' (looked for: loops, veiled, ifaces, maps, wideKeys, modest, calm, conditions, laid).
  DERIVED. THE GIVEN ROWS OF THIS SEAT. 5 by the template 'for every input the law returns true; each argument reads behind the call as it read before'; 0 by the template 'total and deterministic' (their statements: YthlpapaaodjcjaaTotals.lean).
  GIVEN WITH THE SEED: the statements are not yours to turn. If you find one false, say at which input.
  Laid BY PROGRAM, IN A SANDBOX (cutbox-rows.mjs): the forced cells as the released guide's own fill.sh prints them over the translation b31238e1b15f385f… (all of the seat's roots in one cut). By AI agents, Wed Nov 11 2026. No macro, syntax, notation, axiom, sorry.
-/
import Derived.Test.YthlpapaaodjcjaaChecked
import GoSem.Claim
import GoSem.ClaimJoined
import GoSem.ClaimMapViews
import Derived.JoinedTies
import Derived.KernelRfl
namespace Go.Proofs.Ythlpapaaodjcjaa
/- THE CELL 'sum', in the pinned program and in every row, IS THE sha256 OF THE DUMP (.gsa) THAT YthlpapaaodjcjaaProg.lean LOADS. Nothing in Lean hashes anything: it is a label: what it is worth is what the hold of that sum in a sandbox is worth. -/
noncomputable def Try.pinned : Pinned := { name := "ythlpapaaodjcjaa", sum := "b31238e1b15f385f264cd09917fa083ddc2c29b4cc12c82543b69f6be9e48bd5", checked := Try.checked }
namespace Rows
def none {H : Type} : Left H := { results := [], args := [] }

/-- 'seinelaw14.BackNodes': WHATEVER THE INPUT: true; the input reads as it did. -/
def backNodesSpec : ChangeSpec := { name := "backNodes", fn := fun _ => fun
  | [d1, d2] => { results := [.lit (.bool true)], args := [d1, d2] }
  | _ => none }
def backNodesRow : OpenClaim := { program := "ythlpapaaodjcjaa", sum := "b31238e1b15f385f264cd09917fa083ddc2c29b4cc12c82543b69f6be9e48bd5", func := "seine/seinelaw14.BackNodes", spec := "backNodes", unfollowed := true, recurses := true, plainKeys := false, apart := false }
def BackNodesSaid : Prop := backNodesRow.holds Try.pinned (OpenSpec.ofChange backNodesSpec)

/-- ITS FALSE NEIGHBOUR: 'it returns false'. Refute it at one input. -/
def backNodesWrong : ChangeSpec := { name := "backNodes", fn := fun _ => fun
  | [d1, d2] => { results := [.lit (.bool false)], args := [d1, d2] }
  | _ => none }
def BackNodesWrongFalsely : Prop := backNodesRow.holds Try.pinned (OpenSpec.ofChange backNodesWrong)

/-- 'seinelaw14.BackNear': WHATEVER THE INPUT: true; the input reads as it did. -/
def backNearSpec : ChangeSpec := { name := "backNear", fn := fun _ => fun
  | [d1, d2] => { results := [.lit (.bool true)], args := [d1, d2] }
  | _ => none }
def backNearRow : OpenClaim := { program := "ythlpapaaodjcjaa", sum := "b31238e1b15f385f264cd09917fa083ddc2c29b4cc12c82543b69f6be9e48bd5", func := "seine/seinelaw14.BackNear", spec := "backNear", unfollowed := true, recurses := true, plainKeys := false, apart := false }
def BackNearSaid : Prop := backNearRow.holds Try.pinned (OpenSpec.ofChange backNearSpec)

/-- ITS FALSE NEIGHBOUR: 'it returns false'. Refute it at one input. -/
def backNearWrong : ChangeSpec := { name := "backNear", fn := fun _ => fun
  | [d1, d2] => { results := [.lit (.bool false)], args := [d1, d2] }
  | _ => none }
def BackNearWrongFalsely : Prop := backNearRow.holds Try.pinned (OpenSpec.ofChange backNearWrong)

/-- 'seinelaw14.BackTurns': WHATEVER THE INPUT: true; the input reads as it did. -/
def backTurnsSpec : ChangeSpec := { name := "backTurns", fn := fun _ => fun
  | [d1, d2] => { results := [.lit (.bool true)], args := [d1, d2] }
  | _ => none }
def backTurnsRow : OpenClaim := { program := "ythlpapaaodjcjaa", sum := "b31238e1b15f385f264cd09917fa083ddc2c29b4cc12c82543b69f6be9e48bd5", func := "seine/seinelaw14.BackTurns", spec := "backTurns", unfollowed := true, recurses := true, plainKeys := false, apart := false }
def BackTurnsSaid : Prop := backTurnsRow.holds Try.pinned (OpenSpec.ofChange backTurnsSpec)

/-- ITS FALSE NEIGHBOUR: 'it returns false'. Refute it at one input. -/
def backTurnsWrong : ChangeSpec := { name := "backTurns", fn := fun _ => fun
  | [d1, d2] => { results := [.lit (.bool false)], args := [d1, d2] }
  | _ => none }
def BackTurnsWrongFalsely : Prop := backTurnsRow.holds Try.pinned (OpenSpec.ofChange backTurnsWrong)

/-- 'seinelaw14.BackEnds': WHATEVER THE INPUT: true; the input reads as it did. -/
def backEndsSpec : ChangeSpec := { name := "backEnds", fn := fun _ => fun
  | [d1, d2, d3] => { results := [.lit (.bool true)], args := [d1, d2, d3] }
  | _ => none }
def backEndsRow : OpenClaim := { program := "ythlpapaaodjcjaa", sum := "b31238e1b15f385f264cd09917fa083ddc2c29b4cc12c82543b69f6be9e48bd5", func := "seine/seinelaw14.BackEnds", spec := "backEnds", unfollowed := true, recurses := true, plainKeys := false, apart := false }
def BackEndsSaid : Prop := backEndsRow.holds Try.pinned (OpenSpec.ofChange backEndsSpec)

/-- ITS FALSE NEIGHBOUR: 'it returns false'. Refute it at one input. -/
def backEndsWrong : ChangeSpec := { name := "backEnds", fn := fun _ => fun
  | [d1, d2, d3] => { results := [.lit (.bool false)], args := [d1, d2, d3] }
  | _ => none }
def BackEndsWrongFalsely : Prop := backEndsRow.holds Try.pinned (OpenSpec.ofChange backEndsWrong)

/-- 'seinelaw14.BackLeast': WHATEVER THE INPUT: true; the input reads as it did. -/
def backLeastSpec : ChangeSpec := { name := "backLeast", fn := fun _ => fun
  | [d1, d2] => { results := [.lit (.bool true)], args := [d1, d2] }
  | _ => none }
def backLeastRow : OpenClaim := { program := "ythlpapaaodjcjaa", sum := "b31238e1b15f385f264cd09917fa083ddc2c29b4cc12c82543b69f6be9e48bd5", func := "seine/seinelaw14.BackLeast", spec := "backLeast", unfollowed := true, recurses := true, plainKeys := false, apart := false }
def BackLeastSaid : Prop := backLeastRow.holds Try.pinned (OpenSpec.ofChange backLeastSpec)

/-- ITS FALSE NEIGHBOUR: 'it returns false'. Refute it at one input. -/
def backLeastWrong : ChangeSpec := { name := "backLeast", fn := fun _ => fun
  | [d1, d2] => { results := [.lit (.bool false)], args := [d1, d2] }
  | _ => none }
def BackLeastWrongFalsely : Prop := backLeastRow.holds Try.pinned (OpenSpec.ofChange backLeastWrong)

/- THE SECOND FORM. 'bulk': how many values and letters a reading holds, each counted each time it is reached (what is shared counts as often as it is met; a slice's spare places count too). A statement '..UptoSaid' is the law's where the arguments, and the package variables that the reading takes, are together of bulk at most 1048576: NARROWER than '..Said'. Prove '..Said' where nothing that the law and all that it calls make is longer than what came in: it says more and counts as full. Else prove '..UptoSaid'. A law counts once. -/
mutual
def uptoBulk {H : Type} : DataW H → Nat
  | .lit (.string bytes) => bytes.length + 1
  | .lit _ => 1
  | .nil => 1
  | .ptr d => uptoBulk d + 1
  | .slice elems spare => uptoBulkAll elems + uptoBulkAll spare + 1
  | .agg parts => uptoBulkAll parts + 1
  | .iface _ d => uptoBulk d + 1
  | .map entries => uptoBulkEntries entries + 1
  | .held _ => 1
def uptoBulkAll {H : Type} : List (DataW H) → Nat
  | [] => 0
  | d :: r => uptoBulk d + uptoBulkAll r
def uptoBulkEntries {H : Type} : List (Lit × DataW H) → Nat
  | [] => 0
  | x :: r => uptoBulkEntry x + uptoBulkEntries r
def uptoBulkEntry {H : Type} : Lit × DataW H → Nat
  | (.string bytes, d) => bytes.length + uptoBulk d + 1
  | (_, d) => uptoBulk d + 1
 end
def uptoSmall : (H : Type) → List (DataW H) → Bool := fun _ ds => decide (uptoBulkAll ds ≤ 1048576)
def OpenSpec.upto (s : _root_.Go.ChangeSpec) : _root_.Go.OpenSpec := { _root_.Go.OpenSpec.ofChange s with cond := some uptoSmall }

/-- 'seinelaw14.BackNodes', WHERE WHAT IT READS IS OF BULK AT MOST 1048576: true; the input reads as it did. -/
def backNodesUptoRow : OpenClaim := { program := "ythlpapaaodjcjaa", sum := "b31238e1b15f385f264cd09917fa083ddc2c29b4cc12c82543b69f6be9e48bd5", func := "seine/seinelaw14.BackNodes", spec := "backNodes", unfollowed := true, recurses := true, plainKeys := false, apart := false, narrowed := true }
def BackNodesUptoSaid : Prop := backNodesUptoRow.holds Try.pinned (OpenSpec.upto backNodesSpec)

/-- 'seinelaw14.BackNear', WHERE WHAT IT READS IS OF BULK AT MOST 1048576: true; the input reads as it did. -/
def backNearUptoRow : OpenClaim := { program := "ythlpapaaodjcjaa", sum := "b31238e1b15f385f264cd09917fa083ddc2c29b4cc12c82543b69f6be9e48bd5", func := "seine/seinelaw14.BackNear", spec := "backNear", unfollowed := true, recurses := true, plainKeys := false, apart := false, narrowed := true }
def BackNearUptoSaid : Prop := backNearUptoRow.holds Try.pinned (OpenSpec.upto backNearSpec)

/-- 'seinelaw14.BackTurns', WHERE WHAT IT READS IS OF BULK AT MOST 1048576: true; the input reads as it did. -/
def backTurnsUptoRow : OpenClaim := { program := "ythlpapaaodjcjaa", sum := "b31238e1b15f385f264cd09917fa083ddc2c29b4cc12c82543b69f6be9e48bd5", func := "seine/seinelaw14.BackTurns", spec := "backTurns", unfollowed := true, recurses := true, plainKeys := false, apart := false, narrowed := true }
def BackTurnsUptoSaid : Prop := backTurnsUptoRow.holds Try.pinned (OpenSpec.upto backTurnsSpec)

/-- 'seinelaw14.BackEnds', WHERE WHAT IT READS IS OF BULK AT MOST 1048576: true; the input reads as it did. -/
def backEndsUptoRow : OpenClaim := { program := "ythlpapaaodjcjaa", sum := "b31238e1b15f385f264cd09917fa083ddc2c29b4cc12c82543b69f6be9e48bd5", func := "seine/seinelaw14.BackEnds", spec := "backEnds", unfollowed := true, recurses := true, plainKeys := false, apart := false, narrowed := true }
def BackEndsUptoSaid : Prop := backEndsUptoRow.holds Try.pinned (OpenSpec.upto backEndsSpec)

/-- 'seinelaw14.BackLeast', WHERE WHAT IT READS IS OF BULK AT MOST 1048576: true; the input reads as it did. -/
def backLeastUptoRow : OpenClaim := { program := "ythlpapaaodjcjaa", sum := "b31238e1b15f385f264cd09917fa083ddc2c29b4cc12c82543b69f6be9e48bd5", func := "seine/seinelaw14.BackLeast", spec := "backLeast", unfollowed := true, recurses := true, plainKeys := false, apart := false, narrowed := true }
def BackLeastUptoSaid : Prop := backLeastUptoRow.holds Try.pinned (OpenSpec.upto backLeastSpec)

end Rows
end Go.Proofs.Ythlpapaaodjcjaa
