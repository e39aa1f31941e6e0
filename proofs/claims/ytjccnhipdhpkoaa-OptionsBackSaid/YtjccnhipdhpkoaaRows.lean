/-
  No cell of these rows narrows 'for every input' (looked for: loops, veiled, ifaces, maps, wideKeys, modest, calm, conditions, laid).
  DERIVED. THE GIVEN ROWS OF THIS SEAT. 5 by the template 'for every input the law returns true; each argument reads behind the call as it read before'; 0 by the template 'total and deterministic' (their statements: YtjccnhipdhpkoaaTotals.lean).
  GIVEN WITH THE SEED: the statements are not yours to turn. If you find one false, say at which input.
  Laid BY PROGRAM, IN A SANDBOX (cutbox-rows.mjs): the forced cells as the released guide's own fill.sh prints them over the translation 002266826ba6a85f… (all of the seat's roots in one cut). By AI agents, Wed Nov 11 2026. No macro, syntax, notation, axiom, sorry.
-/
import Derived.Test.YtjccnhipdhpkoaaChecked
import GoSem.Claim
import GoSem.ClaimJoined
import GoSem.ClaimMapViews
import Derived.JoinedTies
import Derived.KernelRfl
namespace Go.Proofs.Ytjccnhipdhpkoaa
/- THE CELL 'sum', in the pinned program and in every row, IS THE sha256 OF THE DUMP (.gsa) THAT YtjccnhipdhpkoaaProg.lean LOADS. Nothing in Lean hashes anything: it is a label: what it is worth is what the hold of that sum in a sandbox is worth. -/
noncomputable def Try.pinned : Pinned := { name := "ytjccnhipdhpkoaa", sum := "002266826ba6a85fbd2e05e56b9f9c095004fd1c1643173a9a34b965a983497f", checked := Try.checked }
namespace Rows
def none {H : Type} : Left H := { results := [], args := [] }

/-- 'seinelaw21.OptionsRead': WHATEVER THE INPUT: true; the input reads as it did. -/
def optionsReadSpec : ChangeSpec := { name := "optionsRead", fn := fun _ => fun
  | [d] => { results := [.lit (.bool true)], args := [d] }
  | _ => none }
def optionsReadRow : OpenClaim := { program := "ytjccnhipdhpkoaa", sum := "002266826ba6a85fbd2e05e56b9f9c095004fd1c1643173a9a34b965a983497f", func := "seine/seinelaw21.OptionsRead", spec := "optionsRead", unfollowed := true, recurses := true, apart := false }
def OptionsReadSaid : Prop := optionsReadRow.holds Try.pinned (OpenSpec.ofChange optionsReadSpec)

/-- ITS FALSE NEIGHBOUR: 'it returns false'. Refute it at one input. -/
def optionsReadWrong : ChangeSpec := { name := "optionsRead", fn := fun _ => fun
  | [d] => { results := [.lit (.bool false)], args := [d] }
  | _ => none }
def OptionsReadWrongFalsely : Prop := optionsReadRow.holds Try.pinned (OpenSpec.ofChange optionsReadWrong)

/-- 'seinelaw21.OptionsShow': WHATEVER THE INPUT: true; the input reads as it did. -/
def optionsShowSpec : ChangeSpec := { name := "optionsShow", fn := fun _ => fun
  | [d] => { results := [.lit (.bool true)], args := [d] }
  | _ => none }
def optionsShowRow : OpenClaim := { program := "ytjccnhipdhpkoaa", sum := "002266826ba6a85fbd2e05e56b9f9c095004fd1c1643173a9a34b965a983497f", func := "seine/seinelaw21.OptionsShow", spec := "optionsShow", unfollowed := true, recurses := true, apart := false }
def OptionsShowSaid : Prop := optionsShowRow.holds Try.pinned (OpenSpec.ofChange optionsShowSpec)

/-- ITS FALSE NEIGHBOUR: 'it returns false'. Refute it at one input. -/
def optionsShowWrong : ChangeSpec := { name := "optionsShow", fn := fun _ => fun
  | [d] => { results := [.lit (.bool false)], args := [d] }
  | _ => none }
def OptionsShowWrongFalsely : Prop := optionsShowRow.holds Try.pinned (OpenSpec.ofChange optionsShowWrong)

/-- 'seinelaw21.OptionsBack': WHATEVER THE INPUT: true; the input reads as it did. -/
def optionsBackSpec : ChangeSpec := { name := "optionsBack", fn := fun _ => fun
  | [d1, d2] => { results := [.lit (.bool true)], args := [d1, d2] }
  | _ => none }
def optionsBackRow : OpenClaim := { program := "ytjccnhipdhpkoaa", sum := "002266826ba6a85fbd2e05e56b9f9c095004fd1c1643173a9a34b965a983497f", func := "seine/seinelaw21.OptionsBack", spec := "optionsBack", unfollowed := true, recurses := true, apart := false }
def OptionsBackSaid : Prop := optionsBackRow.holds Try.pinned (OpenSpec.ofChange optionsBackSpec)

/-- ITS FALSE NEIGHBOUR: 'it returns false'. Refute it at one input. -/
def optionsBackWrong : ChangeSpec := { name := "optionsBack", fn := fun _ => fun
  | [d1, d2] => { results := [.lit (.bool false)], args := [d1, d2] }
  | _ => none }
def OptionsBackWrongFalsely : Prop := optionsBackRow.holds Try.pinned (OpenSpec.ofChange optionsBackWrong)

/-- 'seinelaw21.OptionsJoin': WHATEVER THE INPUT: true; the input reads as it did. -/
def optionsJoinSpec : ChangeSpec := { name := "optionsJoin", fn := fun _ => fun
  | [d1, d2] => { results := [.lit (.bool true)], args := [d1, d2] }
  | _ => none }
def optionsJoinRow : OpenClaim := { program := "ytjccnhipdhpkoaa", sum := "002266826ba6a85fbd2e05e56b9f9c095004fd1c1643173a9a34b965a983497f", func := "seine/seinelaw21.OptionsJoin", spec := "optionsJoin", unfollowed := true, recurses := true, apart := false }
def OptionsJoinSaid : Prop := optionsJoinRow.holds Try.pinned (OpenSpec.ofChange optionsJoinSpec)

/-- ITS FALSE NEIGHBOUR: 'it returns false'. Refute it at one input. -/
def optionsJoinWrong : ChangeSpec := { name := "optionsJoin", fn := fun _ => fun
  | [d1, d2] => { results := [.lit (.bool false)], args := [d1, d2] }
  | _ => none }
def OptionsJoinWrongFalsely : Prop := optionsJoinRow.holds Try.pinned (OpenSpec.ofChange optionsJoinWrong)

/-- 'seinelaw21.OptionsFewer': WHATEVER THE INPUT: true; the input reads as it did. -/
def optionsFewerSpec : ChangeSpec := { name := "optionsFewer", fn := fun _ => fun
  | [d1, d2] => { results := [.lit (.bool true)], args := [d1, d2] }
  | _ => none }
def optionsFewerRow : OpenClaim := { program := "ytjccnhipdhpkoaa", sum := "002266826ba6a85fbd2e05e56b9f9c095004fd1c1643173a9a34b965a983497f", func := "seine/seinelaw21.OptionsFewer", spec := "optionsFewer", unfollowed := true, recurses := true, apart := false }
def OptionsFewerSaid : Prop := optionsFewerRow.holds Try.pinned (OpenSpec.ofChange optionsFewerSpec)

/-- ITS FALSE NEIGHBOUR: 'it returns false'. Refute it at one input. -/
def optionsFewerWrong : ChangeSpec := { name := "optionsFewer", fn := fun _ => fun
  | [d1, d2] => { results := [.lit (.bool false)], args := [d1, d2] }
  | _ => none }
def OptionsFewerWrongFalsely : Prop := optionsFewerRow.holds Try.pinned (OpenSpec.ofChange optionsFewerWrong)

/- THE SECOND FORM. 'bulk': how many values and letters a reading holds, each counted each time it is reached (what is shared counts as often as it is met; a slice's spare places count too). A statement '..UptoSaid' is the law's where the arguments, and the package variables that the reading takes, are together of bulk at most 1048576: NARROWER than '..Said'. Prove '..Said' where nothing that the law and all that it calls make is longer than what came in: it says more and counts as full. Else prove '..UptoSaid'. A law counts once. -/
mutual
def uptoBulk {H : Type} : DataW H → Nat
  | .lit (.string bytes) => bytes.length + 1
  | .lit _ => 1
  | .nil => 1
  | .ptr d => uptoBulk d + 1
  | .slice elems spare => uptoBulkAll elems + uptoBulkAll spare + 1
  | .agg parts => uptoBulkAll parts + 1
  | .iface _ d => uptoBulk d + 1
  | .map entries => uptoBulkEntries entries + 1
  | .held _ => 1
def uptoBulkAll {H : Type} : List (DataW H) → Nat
  | [] => 0
  | d :: r => uptoBulk d + uptoBulkAll r
def uptoBulkEntries {H : Type} : List (Lit × DataW H) → Nat
  | [] => 0
  | x :: r => uptoBulkEntry x + uptoBulkEntries r
def uptoBulkEntry {H : Type} : Lit × DataW H → Nat
  | (.string bytes, d) => bytes.length + uptoBulk d + 1
  | (_, d) => uptoBulk d + 1
 end
def uptoSmall : (H : Type) → List (DataW H) → Bool := fun _ ds => decide (uptoBulkAll ds ≤ 1048576)
def OpenSpec.upto (s : _root_.Go.ChangeSpec) : _root_.Go.OpenSpec := { _root_.Go.OpenSpec.ofChange s with cond := some uptoSmall }

/-- 'seinelaw21.OptionsRead', WHERE WHAT IT READS IS OF BULK AT MOST 1048576: true; the input reads as it did. -/
def optionsReadUptoRow : OpenClaim := { program := "ytjccnhipdhpkoaa", sum := "002266826ba6a85fbd2e05e56b9f9c095004fd1c1643173a9a34b965a983497f", func := "seine/seinelaw21.OptionsRead", spec := "optionsRead", unfollowed := true, recurses := true, apart := false, narrowed := true }
def OptionsReadUptoSaid : Prop := optionsReadUptoRow.holds Try.pinned (OpenSpec.upto optionsReadSpec)

/-- 'seinelaw21.OptionsShow', WHERE WHAT IT READS IS OF BULK AT MOST 1048576: true; the input reads as it did. -/
def optionsShowUptoRow : OpenClaim := { program := "ytjccnhipdhpkoaa", sum := "002266826ba6a85fbd2e05e56b9f9c095004fd1c1643173a9a34b965a983497f", func := "seine/seinelaw21.OptionsShow", spec := "optionsShow", unfollowed := true, recurses := true, apart := false, narrowed := true }
def OptionsShowUptoSaid : Prop := optionsShowUptoRow.holds Try.pinned (OpenSpec.upto optionsShowSpec)

/-- 'seinelaw21.OptionsBack', WHERE WHAT IT READS IS OF BULK AT MOST 1048576: true; the input reads as it did. -/
def optionsBackUptoRow : OpenClaim := { program := "ytjccnhipdhpkoaa", sum := "002266826ba6a85fbd2e05e56b9f9c095004fd1c1643173a9a34b965a983497f", func := "seine/seinelaw21.OptionsBack", spec := "optionsBack", unfollowed := true, recurses := true, apart := false, narrowed := true }
def OptionsBackUptoSaid : Prop := optionsBackUptoRow.holds Try.pinned (OpenSpec.upto optionsBackSpec)

/-- 'seinelaw21.OptionsJoin', WHERE WHAT IT READS IS OF BULK AT MOST 1048576: true; the input reads as it did. -/
def optionsJoinUptoRow : OpenClaim := { program := "ytjccnhipdhpkoaa", sum := "002266826ba6a85fbd2e05e56b9f9c095004fd1c1643173a9a34b965a983497f", func := "seine/seinelaw21.OptionsJoin", spec := "optionsJoin", unfollowed := true, recurses := true, apart := false, narrowed := true }
def OptionsJoinUptoSaid : Prop := optionsJoinUptoRow.holds Try.pinned (OpenSpec.upto optionsJoinSpec)

/-- 'seinelaw21.OptionsFewer', WHERE WHAT IT READS IS OF BULK AT MOST 1048576: true; the input reads as it did. -/
def optionsFewerUptoRow : OpenClaim := { program := "ytjccnhipdhpkoaa", sum := "002266826ba6a85fbd2e05e56b9f9c095004fd1c1643173a9a34b965a983497f", func := "seine/seinelaw21.OptionsFewer", spec := "optionsFewer", unfollowed := true, recurses := true, apart := false, narrowed := true }
def OptionsFewerUptoSaid : Prop := optionsFewerUptoRow.holds Try.pinned (OpenSpec.upto optionsFewerSpec)

end Rows
end Go.Proofs.Ytjccnhipdhpkoaa
