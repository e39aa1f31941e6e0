/-
  No cell of these rows narrows 'for every input' (looked for: loops, veiled, ifaces, maps, wideKeys, modest, calm, conditions, laid).
  DERIVED. THE GIVEN ROWS OF THIS SEAT. 5 by the template 'for every input the law returns true; each argument reads behind the call as it read before'; 0 by the template 'total and deterministic' (their statements: YtgdpelpepgpegaaTotals.lean).
  GIVEN WITH THE SEED: the statements are not yours to turn. If you find one false, say at which input.
  Laid BY PROGRAM, IN A SANDBOX (cutbox-rows.mjs): the forced cells as the released guide's own fill.sh prints them over the translation 5405f7444752b539… (all of the seat's roots in one cut). By AI agents, Wed Nov 11 2026. No macro, syntax, notation, axiom, sorry.
-/
import Derived.Test.YtgdpelpepgpegaaChecked
import GoSem.Claim
import GoSem.ClaimJoined
import GoSem.ClaimMapViews
import Derived.JoinedTies
import Derived.KernelRfl
namespace Go.Proofs.Ytgdpelpepgpegaa
/- THE CELL 'sum', in the pinned program and in every row, IS THE sha256 OF THE DUMP (.gsa) THAT YtgdpelpepgpegaaProg.lean LOADS. Nothing in Lean hashes anything: it is a label: what it is worth is what the hold of that sum in a sandbox is worth. -/
noncomputable def Try.pinned : Pinned := { name := "ytgdpelpepgpegaa", sum := "5405f7444752b53977f9f764c4d5607e1a696fe9caf763da92d5bc91e8c5e871", checked := Try.checked }
namespace Rows
def none {H : Type} : Left H := { results := [], args := [] }

/-- 'seinelaw15.ShiftsTell': WHATEVER THE INPUT: true; the input reads as it did. -/
def shiftsTellSpec : ChangeSpec := { name := "shiftsTell", fn := fun _ => fun
  | [d1, d2] => { results := [.lit (.bool true)], args := [d1, d2] }
  | _ => none }
def shiftsTellRow : OpenClaim := { program := "ytgdpelpepgpegaa", sum := "5405f7444752b53977f9f764c4d5607e1a696fe9caf763da92d5bc91e8c5e871", func := "seine/seinelaw15.ShiftsTell", spec := "shiftsTell", unfollowed := true, recurses := true, plainKeys := false, apart := false }
def ShiftsTellSaid : Prop := shiftsTellRow.holds Try.pinned (OpenSpec.ofChange shiftsTellSpec)

/-- ITS FALSE NEIGHBOUR: 'it returns false'. Refute it at one input. -/
def shiftsTellWrong : ChangeSpec := { name := "shiftsTell", fn := fun _ => fun
  | [d1, d2] => { results := [.lit (.bool false)], args := [d1, d2] }
  | _ => none }
def ShiftsTellWrongFalsely : Prop := shiftsTellRow.holds Try.pinned (OpenSpec.ofChange shiftsTellWrong)

/-- 'seinelaw15.ShiftsFar': WHATEVER THE INPUT: true; the input reads as it did. -/
def shiftsFarSpec : ChangeSpec := { name := "shiftsFar", fn := fun _ => fun
  | [d1, d2, d3] => { results := [.lit (.bool true)], args := [d1, d2, d3] }
  | _ => none }
def shiftsFarRow : OpenClaim := { program := "ytgdpelpepgpegaa", sum := "5405f7444752b53977f9f764c4d5607e1a696fe9caf763da92d5bc91e8c5e871", func := "seine/seinelaw15.ShiftsFar", spec := "shiftsFar", unfollowed := true, recurses := true, plainKeys := false, apart := false }
def ShiftsFarSaid : Prop := shiftsFarRow.holds Try.pinned (OpenSpec.ofChange shiftsFarSpec)

/-- ITS FALSE NEIGHBOUR: 'it returns false'. Refute it at one input. -/
def shiftsFarWrong : ChangeSpec := { name := "shiftsFar", fn := fun _ => fun
  | [d1, d2, d3] => { results := [.lit (.bool false)], args := [d1, d2, d3] }
  | _ => none }
def ShiftsFarWrongFalsely : Prop := shiftsFarRow.holds Try.pinned (OpenSpec.ofChange shiftsFarWrong)

/-- 'seinelaw15.ShiftsBounds': WHATEVER THE INPUT: true; the input reads as it did. -/
def shiftsBoundsSpec : ChangeSpec := { name := "shiftsBounds", fn := fun _ => fun
  | [d1, d2] => { results := [.lit (.bool true)], args := [d1, d2] }
  | _ => none }
def shiftsBoundsRow : OpenClaim := { program := "ytgdpelpepgpegaa", sum := "5405f7444752b53977f9f764c4d5607e1a696fe9caf763da92d5bc91e8c5e871", func := "seine/seinelaw15.ShiftsBounds", spec := "shiftsBounds", unfollowed := true, recurses := true, plainKeys := false, apart := false }
def ShiftsBoundsSaid : Prop := shiftsBoundsRow.holds Try.pinned (OpenSpec.ofChange shiftsBoundsSpec)

/-- ITS FALSE NEIGHBOUR: 'it returns false'. Refute it at one input. -/
def shiftsBoundsWrong : ChangeSpec := { name := "shiftsBounds", fn := fun _ => fun
  | [d1, d2] => { results := [.lit (.bool false)], args := [d1, d2] }
  | _ => none }
def ShiftsBoundsWrongFalsely : Prop := shiftsBoundsRow.holds Try.pinned (OpenSpec.ofChange shiftsBoundsWrong)

/-- 'seinelaw15.ShiftsSafe': WHATEVER THE INPUT: true; the input reads as it did. -/
def shiftsSafeSpec : ChangeSpec := { name := "shiftsSafe", fn := fun _ => fun
  | [d1, d2, d3] => { results := [.lit (.bool true)], args := [d1, d2, d3] }
  | _ => none }
def shiftsSafeRow : OpenClaim := { program := "ytgdpelpepgpegaa", sum := "5405f7444752b53977f9f764c4d5607e1a696fe9caf763da92d5bc91e8c5e871", func := "seine/seinelaw15.ShiftsSafe", spec := "shiftsSafe", unfollowed := true, recurses := true, plainKeys := false, apart := false }
def ShiftsSafeSaid : Prop := shiftsSafeRow.holds Try.pinned (OpenSpec.ofChange shiftsSafeSpec)

/-- ITS FALSE NEIGHBOUR: 'it returns false'. Refute it at one input. -/
def shiftsSafeWrong : ChangeSpec := { name := "shiftsSafe", fn := fun _ => fun
  | [d1, d2, d3] => { results := [.lit (.bool false)], args := [d1, d2, d3] }
  | _ => none }
def ShiftsSafeWrongFalsely : Prop := shiftsSafeRow.holds Try.pinned (OpenSpec.ofChange shiftsSafeWrong)

/-- 'seinelaw15.ShiftsWider': WHATEVER THE INPUT: true; the input reads as it did. -/
def shiftsWiderSpec : ChangeSpec := { name := "shiftsWider", fn := fun _ => fun
  | [d1, d2] => { results := [.lit (.bool true)], args := [d1, d2] }
  | _ => none }
def shiftsWiderRow : OpenClaim := { program := "ytgdpelpepgpegaa", sum := "5405f7444752b53977f9f764c4d5607e1a696fe9caf763da92d5bc91e8c5e871", func := "seine/seinelaw15.ShiftsWider", spec := "shiftsWider", unfollowed := true, recurses := true, plainKeys := false, apart := false }
def ShiftsWiderSaid : Prop := shiftsWiderRow.holds Try.pinned (OpenSpec.ofChange shiftsWiderSpec)

/-- ITS FALSE NEIGHBOUR: 'it returns false'. Refute it at one input. -/
def shiftsWiderWrong : ChangeSpec := { name := "shiftsWider", fn := fun _ => fun
  | [d1, d2] => { results := [.lit (.bool false)], args := [d1, d2] }
  | _ => none }
def ShiftsWiderWrongFalsely : Prop := shiftsWiderRow.holds Try.pinned (OpenSpec.ofChange shiftsWiderWrong)

/- THE SECOND FORM. 'bulk': how many values and letters a reading holds, each counted each time it is reached (what is shared counts as often as it is met; a slice's spare places count too). A statement '..UptoSaid' is the law's where the arguments, and the package variables that the reading takes, are together of bulk at most 1048576: NARROWER than '..Said'. Prove '..Said' where nothing that the law and all that it calls make is longer than what came in: it says more and counts as full. Else prove '..UptoSaid'. A law counts once. -/
mutual
def uptoBulk {H : Type} : DataW H → Nat
  | .lit (.string bytes) => bytes.length + 1
  | .lit _ => 1
  | .nil => 1
  | .ptr d => uptoBulk d + 1
  | .slice elems spare => uptoBulkAll elems + uptoBulkAll spare + 1
  | .agg parts => uptoBulkAll parts + 1
  | .iface _ d => uptoBulk d + 1
  | .map entries => uptoBulkEntries entries + 1
  | .held _ => 1
def uptoBulkAll {H : Type} : List (DataW H) → Nat
  | [] => 0
  | d :: r => uptoBulk d + uptoBulkAll r
def uptoBulkEntries {H : Type} : List (Lit × DataW H) → Nat
  | [] => 0
  | x :: r => uptoBulkEntry x + uptoBulkEntries r
def uptoBulkEntry {H : Type} : Lit × DataW H → Nat
  | (.string bytes, d) => bytes.length + uptoBulk d + 1
  | (_, d) => uptoBulk d + 1
 end
def uptoSmall : (H : Type) → List (DataW H) → Bool := fun _ ds => decide (uptoBulkAll ds ≤ 1048576)
def OpenSpec.upto (s : _root_.Go.ChangeSpec) : _root_.Go.OpenSpec := { _root_.Go.OpenSpec.ofChange s with cond := some uptoSmall }

/-- 'seinelaw15.ShiftsTell', WHERE WHAT IT READS IS OF BULK AT MOST 1048576: true; the input reads as it did. -/
def shiftsTellUptoRow : OpenClaim := { program := "ytgdpelpepgpegaa", sum := "5405f7444752b53977f9f764c4d5607e1a696fe9caf763da92d5bc91e8c5e871", func := "seine/seinelaw15.ShiftsTell", spec := "shiftsTell", unfollowed := true, recurses := true, plainKeys := false, apart := false, narrowed := true }
def ShiftsTellUptoSaid : Prop := shiftsTellUptoRow.holds Try.pinned (OpenSpec.upto shiftsTellSpec)

/-- 'seinelaw15.ShiftsFar', WHERE WHAT IT READS IS OF BULK AT MOST 1048576: true; the input reads as it did. -/
def shiftsFarUptoRow : OpenClaim := { program := "ytgdpelpepgpegaa", sum := "5405f7444752b53977f9f764c4d5607e1a696fe9caf763da92d5bc91e8c5e871", func := "seine/seinelaw15.ShiftsFar", spec := "shiftsFar", unfollowed := true, recurses := true, plainKeys := false, apart := false, narrowed := true }
def ShiftsFarUptoSaid : Prop := shiftsFarUptoRow.holds Try.pinned (OpenSpec.upto shiftsFarSpec)

/-- 'seinelaw15.ShiftsBounds', WHERE WHAT IT READS IS OF BULK AT MOST 1048576: true; the input reads as it did. -/
def shiftsBoundsUptoRow : OpenClaim := { program := "ytgdpelpepgpegaa", sum := "5405f7444752b53977f9f764c4d5607e1a696fe9caf763da92d5bc91e8c5e871", func := "seine/seinelaw15.ShiftsBounds", spec := "shiftsBounds", unfollowed := true, recurses := true, plainKeys := false, apart := false, narrowed := true }
def ShiftsBoundsUptoSaid : Prop := shiftsBoundsUptoRow.holds Try.pinned (OpenSpec.upto shiftsBoundsSpec)

/-- 'seinelaw15.ShiftsSafe', WHERE WHAT IT READS IS OF BULK AT MOST 1048576: true; the input reads as it did. -/
def shiftsSafeUptoRow : OpenClaim := { program := "ytgdpelpepgpegaa", sum := "5405f7444752b53977f9f764c4d5607e1a696fe9caf763da92d5bc91e8c5e871", func := "seine/seinelaw15.ShiftsSafe", spec := "shiftsSafe", unfollowed := true, recurses := true, plainKeys := false, apart := false, narrowed := true }
def ShiftsSafeUptoSaid : Prop := shiftsSafeUptoRow.holds Try.pinned (OpenSpec.upto shiftsSafeSpec)

/-- 'seinelaw15.ShiftsWider', WHERE WHAT IT READS IS OF BULK AT MOST 1048576: true; the input reads as it did. -/
def shiftsWiderUptoRow : OpenClaim := { program := "ytgdpelpepgpegaa", sum := "5405f7444752b53977f9f764c4d5607e1a696fe9caf763da92d5bc91e8c5e871", func := "seine/seinelaw15.ShiftsWider", spec := "shiftsWider", unfollowed := true, recurses := true, plainKeys := false, apart := false, narrowed := true }
def ShiftsWiderUptoSaid : Prop := shiftsWiderUptoRow.holds Try.pinned (OpenSpec.upto shiftsWiderSpec)

end Rows
end Go.Proofs.Ytgdpelpepgpegaa
