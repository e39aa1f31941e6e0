/-
  No cell of these rows narrows 'for every input' (looked for: loops, veiled, ifaces, maps, wideKeys, modest, calm, conditions, laid).
  DERIVED. THE GIVEN ROWS OF THIS SEAT. 4 by the template 'for every input the law returns true; each argument reads behind the call as it read before'; 0 by the template 'total and deterministic' (their statements: YtlepabeibniabaaTotals.lean).
  GIVEN WITH THE SEED: the statements are not yours to turn. If you find one false, say at which input.
  Laid BY PROGRAM, IN A SANDBOX (cutbox-rows.mjs): the forced cells as the released guide's own fill.sh prints them over the translation 1f45d2d985071258… (all of the seat's roots in one cut). By AI agents, Wed Nov 11 2026. No macro, syntax, notation, axiom, sorry.
-/
import Derived.Test.YtlepabeibniabaaChecked
import GoSem.Claim
import GoSem.ClaimJoined
import GoSem.ClaimMapViews
import Derived.JoinedTies
import Derived.KernelRfl
namespace Go.Proofs.Ytlepabeibniabaa
/- THE CELL 'sum', in the pinned program and in every row, IS THE sha256 OF THE DUMP (.gsa) THAT YtlepabeibniabaaProg.lean LOADS. Nothing in Lean hashes anything: it is a label: what it is worth is what the hold of that sum in a sandbox is worth. -/
noncomputable def Try.pinned : Pinned := { name := "ytlepabeibniabaa", sum := "1f45d2d98507125872f6193516240bb40aa72c19e69b14148b32f4914f4e742e", checked := Try.checked }
namespace Rows
def none {H : Type} : Left H := { results := [], args := [] }

/-- 'seinelaw09.ClassesTell': WHATEVER THE INPUT: true; the input reads as it did. -/
def classesTellSpec : ChangeSpec := { name := "classesTell", fn := fun _ => fun
  | [d1, d2] => { results := [.lit (.bool true)], args := [d1, d2] }
  | _ => none }
def classesTellRow : OpenClaim := { program := "ytlepabeibniabaa", sum := "1f45d2d98507125872f6193516240bb40aa72c19e69b14148b32f4914f4e742e", func := "seine/seinelaw09.ClassesTell", spec := "classesTell", apart := false }
def ClassesTellSaid : Prop := classesTellRow.holds Try.pinned (OpenSpec.ofChange classesTellSpec)

/-- ITS FALSE NEIGHBOUR: 'it returns false'. Refute it at one input. -/
def classesTellWrong : ChangeSpec := { name := "classesTell", fn := fun _ => fun
  | [d1, d2] => { results := [.lit (.bool false)], args := [d1, d2] }
  | _ => none }
def ClassesTellWrongFalsely : Prop := classesTellRow.holds Try.pinned (OpenSpec.ofChange classesTellWrong)

/-- 'seinelaw09.ClassesApart': WHATEVER THE INPUT: true; the input reads as it did. -/
def classesApartSpec : ChangeSpec := { name := "classesApart", fn := fun _ => fun
  | [d1, d2, d3] => { results := [.lit (.bool true)], args := [d1, d2, d3] }
  | _ => none }
def classesApartRow : OpenClaim := { program := "ytlepabeibniabaa", sum := "1f45d2d98507125872f6193516240bb40aa72c19e69b14148b32f4914f4e742e", func := "seine/seinelaw09.ClassesApart", spec := "classesApart", apart := false }
def ClassesApartSaid : Prop := classesApartRow.holds Try.pinned (OpenSpec.ofChange classesApartSpec)

/-- ITS FALSE NEIGHBOUR: 'it returns false'. Refute it at one input. -/
def classesApartWrong : ChangeSpec := { name := "classesApart", fn := fun _ => fun
  | [d1, d2, d3] => { results := [.lit (.bool false)], args := [d1, d2, d3] }
  | _ => none }
def ClassesApartWrongFalsely : Prop := classesApartRow.holds Try.pinned (OpenSpec.ofChange classesApartWrong)

/-- 'seinelaw09.ClassesBytes': WHATEVER THE INPUT: true; the input reads as it did. -/
def classesBytesSpec : ChangeSpec := { name := "classesBytes", fn := fun _ => fun
  | [d1, d2] => { results := [.lit (.bool true)], args := [d1, d2] }
  | _ => none }
def classesBytesRow : OpenClaim := { program := "ytlepabeibniabaa", sum := "1f45d2d98507125872f6193516240bb40aa72c19e69b14148b32f4914f4e742e", func := "seine/seinelaw09.ClassesBytes", spec := "classesBytes", apart := false }
def ClassesBytesSaid : Prop := classesBytesRow.holds Try.pinned (OpenSpec.ofChange classesBytesSpec)

/-- ITS FALSE NEIGHBOUR: 'it returns false'. Refute it at one input. -/
def classesBytesWrong : ChangeSpec := { name := "classesBytes", fn := fun _ => fun
  | [d1, d2] => { results := [.lit (.bool false)], args := [d1, d2] }
  | _ => none }
def ClassesBytesWrongFalsely : Prop := classesBytesRow.holds Try.pinned (OpenSpec.ofChange classesBytesWrong)

/-- 'seinelaw09.ClassesOrder': WHATEVER THE INPUT: true; the input reads as it did. -/
def classesOrderSpec : ChangeSpec := { name := "classesOrder", fn := fun _ => fun
  | [d1, d2] => { results := [.lit (.bool true)], args := [d1, d2] }
  | _ => none }
def classesOrderRow : OpenClaim := { program := "ytlepabeibniabaa", sum := "1f45d2d98507125872f6193516240bb40aa72c19e69b14148b32f4914f4e742e", func := "seine/seinelaw09.ClassesOrder", spec := "classesOrder", apart := false }
def ClassesOrderSaid : Prop := classesOrderRow.holds Try.pinned (OpenSpec.ofChange classesOrderSpec)

/-- ITS FALSE NEIGHBOUR: 'it returns false'. Refute it at one input. -/
def classesOrderWrong : ChangeSpec := { name := "classesOrder", fn := fun _ => fun
  | [d1, d2] => { results := [.lit (.bool false)], args := [d1, d2] }
  | _ => none }
def ClassesOrderWrongFalsely : Prop := classesOrderRow.holds Try.pinned (OpenSpec.ofChange classesOrderWrong)

/- THE SECOND FORM. 'bulk': how many values and letters a reading holds, each counted each time it is reached (what is shared counts as often as it is met; a slice's spare places count too). A statement '..UptoSaid' is the law's where the arguments, and the package variables that the reading takes, are together of bulk at most 1048576: NARROWER than '..Said'. Prove '..Said' where nothing that the law and all that it calls make is longer than what came in: it says more and counts as full. Else prove '..UptoSaid'. A law counts once. -/
mutual
def uptoBulk {H : Type} : DataW H → Nat
  | .lit (.string bytes) => bytes.length + 1
  | .lit _ => 1
  | .nil => 1
  | .ptr d => uptoBulk d + 1
  | .slice elems spare => uptoBulkAll elems + uptoBulkAll spare + 1
  | .agg parts => uptoBulkAll parts + 1
  | .iface _ d => uptoBulk d + 1
  | .map entries => uptoBulkEntries entries + 1
  | .held _ => 1
def uptoBulkAll {H : Type} : List (DataW H) → Nat
  | [] => 0
  | d :: r => uptoBulk d + uptoBulkAll r
def uptoBulkEntries {H : Type} : List (Lit × DataW H) → Nat
  | [] => 0
  | x :: r => uptoBulkEntry x + uptoBulkEntries r
def uptoBulkEntry {H : Type} : Lit × DataW H → Nat
  | (.string bytes, d) => bytes.length + uptoBulk d + 1
  | (_, d) => uptoBulk d + 1
 end
def uptoSmall : (H : Type) → List (DataW H) → Bool := fun _ ds => decide (uptoBulkAll ds ≤ 1048576)
def OpenSpec.upto (s : _root_.Go.ChangeSpec) : _root_.Go.OpenSpec := { _root_.Go.OpenSpec.ofChange s with cond := some uptoSmall }

/-- 'seinelaw09.ClassesTell', WHERE WHAT IT READS IS OF BULK AT MOST 1048576: true; the input reads as it did. -/
def classesTellUptoRow : OpenClaim := { program := "ytlepabeibniabaa", sum := "1f45d2d98507125872f6193516240bb40aa72c19e69b14148b32f4914f4e742e", func := "seine/seinelaw09.ClassesTell", spec := "classesTell", apart := false, narrowed := true }
def ClassesTellUptoSaid : Prop := classesTellUptoRow.holds Try.pinned (OpenSpec.upto classesTellSpec)

/-- 'seinelaw09.ClassesApart', WHERE WHAT IT READS IS OF BULK AT MOST 1048576: true; the input reads as it did. -/
def classesApartUptoRow : OpenClaim := { program := "ytlepabeibniabaa", sum := "1f45d2d98507125872f6193516240bb40aa72c19e69b14148b32f4914f4e742e", func := "seine/seinelaw09.ClassesApart", spec := "classesApart", apart := false, narrowed := true }
def ClassesApartUptoSaid : Prop := classesApartUptoRow.holds Try.pinned (OpenSpec.upto classesApartSpec)

/-- 'seinelaw09.ClassesBytes', WHERE WHAT IT READS IS OF BULK AT MOST 1048576: true; the input reads as it did. -/
def classesBytesUptoRow : OpenClaim := { program := "ytlepabeibniabaa", sum := "1f45d2d98507125872f6193516240bb40aa72c19e69b14148b32f4914f4e742e", func := "seine/seinelaw09.ClassesBytes", spec := "classesBytes", apart := false, narrowed := true }
def ClassesBytesUptoSaid : Prop := classesBytesUptoRow.holds Try.pinned (OpenSpec.upto classesBytesSpec)

/-- 'seinelaw09.ClassesOrder', WHERE WHAT IT READS IS OF BULK AT MOST 1048576: true; the input reads as it did. -/
def classesOrderUptoRow : OpenClaim := { program := "ytlepabeibniabaa", sum := "1f45d2d98507125872f6193516240bb40aa72c19e69b14148b32f4914f4e742e", func := "seine/seinelaw09.ClassesOrder", spec := "classesOrder", apart := false, narrowed := true }
def ClassesOrderUptoSaid : Prop := classesOrderUptoRow.holds Try.pinned (OpenSpec.upto classesOrderSpec)

end Rows
end Go.Proofs.Ytlepabeibniabaa
