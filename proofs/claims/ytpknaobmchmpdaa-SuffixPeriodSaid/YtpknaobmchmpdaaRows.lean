/-
  No cell of these rows narrows 'for every input' (looked for: loops, veiled, ifaces, maps, wideKeys, modest, calm, conditions, laid).
  DERIVED. THE GIVEN ROWS OF THIS SEAT. 6 by the template 'for every input the law returns true; each argument reads behind the call as it read before'; 0 by the template 'total and deterministic' (their statements: YtpknaobmchmpdaaTotals.lean).
  GIVEN WITH THE SEED: the statements are not yours to turn. If you find one false, say at which input.
  Laid BY PROGRAM, IN A SANDBOX (cutbox-rows.mjs): the forced cells as the released guide's own fill.sh prints them over the translation c5344b94bc8e6012… (all of the seat's roots in one cut). By AI agents, Wed Nov 11 2026. No macro, syntax, notation, axiom, sorry.
-/
import Derived.Test.YtpknaobmchmpdaaChecked
import GoSem.Claim
import GoSem.ClaimJoined
import GoSem.ClaimMapViews
import Derived.JoinedTies
import Derived.KernelRfl
namespace Go.Proofs.Ytpknaobmchmpdaa
/- THE CELL 'sum', in the pinned program and in every row, IS THE sha256 OF THE DUMP (.gsa) THAT YtpknaobmchmpdaaProg.lean LOADS. Nothing in Lean hashes anything: it is a label: what it is worth is what the hold of that sum in a sandbox is worth. -/
noncomputable def Try.pinned : Pinned := { name := "ytpknaobmchmpdaa", sum := "c5344b94bc8e6012737b5edee54071b852682f5161e89521944a0a552d58da4c", checked := Try.checked }
namespace Rows
def none {H : Type} : Left H := { results := [], args := [] }

/-- 'seinelaw11.SuffixMax': WHATEVER THE INPUT: true; the input reads as it did. -/
def suffixMaxSpec : ChangeSpec := { name := "suffixMax", fn := fun _ => fun
  | [d1, d2] => { results := [.lit (.bool true)], args := [d1, d2] }
  | _ => none }
def suffixMaxRow : OpenClaim := { program := "ytpknaobmchmpdaa", sum := "c5344b94bc8e6012737b5edee54071b852682f5161e89521944a0a552d58da4c", func := "seine/seinelaw11.SuffixMax", spec := "suffixMax", unfollowed := true, recurses := true, apart := false }
def SuffixMaxSaid : Prop := suffixMaxRow.holds Try.pinned (OpenSpec.ofChange suffixMaxSpec)

/-- ITS FALSE NEIGHBOUR: 'it returns false'. Refute it at one input. -/
def suffixMaxWrong : ChangeSpec := { name := "suffixMax", fn := fun _ => fun
  | [d1, d2] => { results := [.lit (.bool false)], args := [d1, d2] }
  | _ => none }
def SuffixMaxWrongFalsely : Prop := suffixMaxRow.holds Try.pinned (OpenSpec.ofChange suffixMaxWrong)

/-- 'seinelaw11.SuffixPeriod': WHATEVER THE INPUT: true; the input reads as it did. -/
def suffixPeriodSpec : ChangeSpec := { name := "suffixPeriod", fn := fun _ => fun
  | [d] => { results := [.lit (.bool true)], args := [d] }
  | _ => none }
def suffixPeriodRow : OpenClaim := { program := "ytpknaobmchmpdaa", sum := "c5344b94bc8e6012737b5edee54071b852682f5161e89521944a0a552d58da4c", func := "seine/seinelaw11.SuffixPeriod", spec := "suffixPeriod", unfollowed := true, recurses := true, apart := false }
def SuffixPeriodSaid : Prop := suffixPeriodRow.holds Try.pinned (OpenSpec.ofChange suffixPeriodSpec)

/-- ITS FALSE NEIGHBOUR: 'it returns false'. Refute it at one input. -/
def suffixPeriodWrong : ChangeSpec := { name := "suffixPeriod", fn := fun _ => fun
  | [d] => { results := [.lit (.bool false)], args := [d] }
  | _ => none }
def SuffixPeriodWrongFalsely : Prop := suffixPeriodRow.holds Try.pinned (OpenSpec.ofChange suffixPeriodWrong)

/-- 'seinelaw11.SuffixOrder': WHATEVER THE INPUT: true; the input reads as it did. -/
def suffixOrderSpec : ChangeSpec := { name := "suffixOrder", fn := fun _ => fun
  | [d1, d2, d3] => { results := [.lit (.bool true)], args := [d1, d2, d3] }
  | _ => none }
def suffixOrderRow : OpenClaim := { program := "ytpknaobmchmpdaa", sum := "c5344b94bc8e6012737b5edee54071b852682f5161e89521944a0a552d58da4c", func := "seine/seinelaw11.SuffixOrder", spec := "suffixOrder", unfollowed := true, recurses := true, apart := false }
def SuffixOrderSaid : Prop := suffixOrderRow.holds Try.pinned (OpenSpec.ofChange suffixOrderSpec)

/-- ITS FALSE NEIGHBOUR: 'it returns false'. Refute it at one input. -/
def suffixOrderWrong : ChangeSpec := { name := "suffixOrder", fn := fun _ => fun
  | [d1, d2, d3] => { results := [.lit (.bool false)], args := [d1, d2, d3] }
  | _ => none }
def SuffixOrderWrongFalsely : Prop := suffixOrderRow.holds Try.pinned (OpenSpec.ofChange suffixOrderWrong)

/-- 'seinelaw11.SuffixGreatest': WHATEVER THE INPUT: true; the input reads as it did. -/
def suffixGreatestSpec : ChangeSpec := { name := "suffixGreatest", fn := fun _ => fun
  | [d1, d2, d3] => { results := [.lit (.bool true)], args := [d1, d2, d3] }
  | _ => none }
def suffixGreatestRow : OpenClaim := { program := "ytpknaobmchmpdaa", sum := "c5344b94bc8e6012737b5edee54071b852682f5161e89521944a0a552d58da4c", func := "seine/seinelaw11.SuffixGreatest", spec := "suffixGreatest", unfollowed := true, recurses := true, apart := false }
def SuffixGreatestSaid : Prop := suffixGreatestRow.holds Try.pinned (OpenSpec.ofChange suffixGreatestSpec)

/-- ITS FALSE NEIGHBOUR: 'it returns false'. Refute it at one input. -/
def suffixGreatestWrong : ChangeSpec := { name := "suffixGreatest", fn := fun _ => fun
  | [d1, d2, d3] => { results := [.lit (.bool false)], args := [d1, d2, d3] }
  | _ => none }
def SuffixGreatestWrongFalsely : Prop := suffixGreatestRow.holds Try.pinned (OpenSpec.ofChange suffixGreatestWrong)

/-- 'seinelaw11.SuffixPeriods': WHATEVER THE INPUT: true; the input reads as it did. -/
def suffixPeriodsSpec : ChangeSpec := { name := "suffixPeriods", fn := fun _ => fun
  | [d] => { results := [.lit (.bool true)], args := [d] }
  | _ => none }
def suffixPeriodsRow : OpenClaim := { program := "ytpknaobmchmpdaa", sum := "c5344b94bc8e6012737b5edee54071b852682f5161e89521944a0a552d58da4c", func := "seine/seinelaw11.SuffixPeriods", spec := "suffixPeriods", unfollowed := true, recurses := true, apart := false }
def SuffixPeriodsSaid : Prop := suffixPeriodsRow.holds Try.pinned (OpenSpec.ofChange suffixPeriodsSpec)

/-- ITS FALSE NEIGHBOUR: 'it returns false'. Refute it at one input. -/
def suffixPeriodsWrong : ChangeSpec := { name := "suffixPeriods", fn := fun _ => fun
  | [d] => { results := [.lit (.bool false)], args := [d] }
  | _ => none }
def SuffixPeriodsWrongFalsely : Prop := suffixPeriodsRow.holds Try.pinned (OpenSpec.ofChange suffixPeriodsWrong)

/-- 'seinelaw11.SuffixTwice': WHATEVER THE INPUT: true; the input reads as it did. -/
def suffixTwiceSpec : ChangeSpec := { name := "suffixTwice", fn := fun _ => fun
  | [d] => { results := [.lit (.bool true)], args := [d] }
  | _ => none }
def suffixTwiceRow : OpenClaim := { program := "ytpknaobmchmpdaa", sum := "c5344b94bc8e6012737b5edee54071b852682f5161e89521944a0a552d58da4c", func := "seine/seinelaw11.SuffixTwice", spec := "suffixTwice", unfollowed := true, recurses := true, apart := false }
def SuffixTwiceSaid : Prop := suffixTwiceRow.holds Try.pinned (OpenSpec.ofChange suffixTwiceSpec)

/-- ITS FALSE NEIGHBOUR: 'it returns false'. Refute it at one input. -/
def suffixTwiceWrong : ChangeSpec := { name := "suffixTwice", fn := fun _ => fun
  | [d] => { results := [.lit (.bool false)], args := [d] }
  | _ => none }
def SuffixTwiceWrongFalsely : Prop := suffixTwiceRow.holds Try.pinned (OpenSpec.ofChange suffixTwiceWrong)

/- THE SECOND FORM. 'bulk': how many values and letters a reading holds, each counted each time it is reached (what is shared counts as often as it is met; a slice's spare places count too). A statement '..UptoSaid' is the law's where the arguments, and the package variables that the reading takes, are together of bulk at most 1048576: NARROWER than '..Said'. Prove '..Said' where nothing that the law and all that it calls make is longer than what came in: it says more and counts as full. Else prove '..UptoSaid'. A law counts once. -/
mutual
def uptoBulk {H : Type} : DataW H → Nat
  | .lit (.string bytes) => bytes.length + 1
  | .lit _ => 1
  | .nil => 1
  | .ptr d => uptoBulk d + 1
  | .slice elems spare => uptoBulkAll elems + uptoBulkAll spare + 1
  | .agg parts => uptoBulkAll parts + 1
  | .iface _ d => uptoBulk d + 1
  | .map entries => uptoBulkEntries entries + 1
  | .held _ => 1
def uptoBulkAll {H : Type} : List (DataW H) → Nat
  | [] => 0
  | d :: r => uptoBulk d + uptoBulkAll r
def uptoBulkEntries {H : Type} : List (Lit × DataW H) → Nat
  | [] => 0
  | x :: r => uptoBulkEntry x + uptoBulkEntries r
def uptoBulkEntry {H : Type} : Lit × DataW H → Nat
  | (.string bytes, d) => bytes.length + uptoBulk d + 1
  | (_, d) => uptoBulk d + 1
 end
def uptoSmall : (H : Type) → List (DataW H) → Bool := fun _ ds => decide (uptoBulkAll ds ≤ 1048576)
def OpenSpec.upto (s : _root_.Go.ChangeSpec) : _root_.Go.OpenSpec := { _root_.Go.OpenSpec.ofChange s with cond := some uptoSmall }

/-- 'seinelaw11.SuffixMax', WHERE WHAT IT READS IS OF BULK AT MOST 1048576: true; the input reads as it did. -/
def suffixMaxUptoRow : OpenClaim := { program := "ytpknaobmchmpdaa", sum := "c5344b94bc8e6012737b5edee54071b852682f5161e89521944a0a552d58da4c", func := "seine/seinelaw11.SuffixMax", spec := "suffixMax", unfollowed := true, recurses := true, apart := false, narrowed := true }
def SuffixMaxUptoSaid : Prop := suffixMaxUptoRow.holds Try.pinned (OpenSpec.upto suffixMaxSpec)

/-- 'seinelaw11.SuffixPeriod', WHERE WHAT IT READS IS OF BULK AT MOST 1048576: true; the input reads as it did. -/
def suffixPeriodUptoRow : OpenClaim := { program := "ytpknaobmchmpdaa", sum := "c5344b94bc8e6012737b5edee54071b852682f5161e89521944a0a552d58da4c", func := "seine/seinelaw11.SuffixPeriod", spec := "suffixPeriod", unfollowed := true, recurses := true, apart := false, narrowed := true }
def SuffixPeriodUptoSaid : Prop := suffixPeriodUptoRow.holds Try.pinned (OpenSpec.upto suffixPeriodSpec)

/-- 'seinelaw11.SuffixOrder', WHERE WHAT IT READS IS OF BULK AT MOST 1048576: true; the input reads as it did. -/
def suffixOrderUptoRow : OpenClaim := { program := "ytpknaobmchmpdaa", sum := "c5344b94bc8e6012737b5edee54071b852682f5161e89521944a0a552d58da4c", func := "seine/seinelaw11.SuffixOrder", spec := "suffixOrder", unfollowed := true, recurses := true, apart := false, narrowed := true }
def SuffixOrderUptoSaid : Prop := suffixOrderUptoRow.holds Try.pinned (OpenSpec.upto suffixOrderSpec)

/-- 'seinelaw11.SuffixGreatest', WHERE WHAT IT READS IS OF BULK AT MOST 1048576: true; the input reads as it did. -/
def suffixGreatestUptoRow : OpenClaim := { program := "ytpknaobmchmpdaa", sum := "c5344b94bc8e6012737b5edee54071b852682f5161e89521944a0a552d58da4c", func := "seine/seinelaw11.SuffixGreatest", spec := "suffixGreatest", unfollowed := true, recurses := true, apart := false, narrowed := true }
def SuffixGreatestUptoSaid : Prop := suffixGreatestUptoRow.holds Try.pinned (OpenSpec.upto suffixGreatestSpec)

/-- 'seinelaw11.SuffixPeriods', WHERE WHAT IT READS IS OF BULK AT MOST 1048576: true; the input reads as it did. -/
def suffixPeriodsUptoRow : OpenClaim := { program := "ytpknaobmchmpdaa", sum := "c5344b94bc8e6012737b5edee54071b852682f5161e89521944a0a552d58da4c", func := "seine/seinelaw11.SuffixPeriods", spec := "suffixPeriods", unfollowed := true, recurses := true, apart := false, narrowed := true }
def SuffixPeriodsUptoSaid : Prop := suffixPeriodsUptoRow.holds Try.pinned (OpenSpec.upto suffixPeriodsSpec)

/-- 'seinelaw11.SuffixTwice', WHERE WHAT IT READS IS OF BULK AT MOST 1048576: true; the input reads as it did. -/
def suffixTwiceUptoRow : OpenClaim := { program := "ytpknaobmchmpdaa", sum := "c5344b94bc8e6012737b5edee54071b852682f5161e89521944a0a552d58da4c", func := "seine/seinelaw11.SuffixTwice", spec := "suffixTwice", unfollowed := true, recurses := true, apart := false, narrowed := true }
def SuffixTwiceUptoSaid : Prop := suffixTwiceUptoRow.holds Try.pinned (OpenSpec.upto suffixTwiceSpec)

end Rows
end Go.Proofs.Ytpknaobmchmpdaa
