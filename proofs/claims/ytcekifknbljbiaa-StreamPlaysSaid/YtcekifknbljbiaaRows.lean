/-
  No cell of these rows narrows 'for every input' (looked for: loops, veiled, ifaces, maps, wideKeys, modest, calm, conditions, laid).
  DERIVED. THE GIVEN ROWS OF THIS SEAT. 7 by the template 'for every input the law returns true; each argument reads behind the call as it read before'; 0 by the template 'total and deterministic' (their statements: YtcekifknbljbiaaTotals.lean).
  GIVEN WITH THE SEED: the statements are not yours to turn. If you find one false, say at which input.
  Laid BY PROGRAM, IN A SANDBOX (cutbox-rows.mjs): the forced cells as the released guide's own fill.sh prints them over the translation cbbfeb6970afe2d3… (all of the seat's roots in one cut). By AI agents, Wed Nov 11 2026. No macro, syntax, notation, axiom, sorry.
-/
import Derived.Test.YtcekifknbljbiaaChecked
import GoSem.Claim
import GoSem.ClaimJoined
import GoSem.ClaimMapViews
import Derived.JoinedTies
import Derived.KernelRfl
namespace Go.Proofs.Ytcekifknbljbiaa
/- THE CELL 'sum', in the pinned program and in every row, IS THE sha256 OF THE DUMP (.gsa) THAT YtcekifknbljbiaaProg.lean LOADS. Nothing in Lean hashes anything: it is a label: what it is worth is what the hold of that sum in a sandbox is worth. -/
noncomputable def Try.pinned : Pinned := { name := "ytcekifknbljbiaa", sum := "cbbfeb6970afe2d32cc7100df04949dc9267adecaf562033ee9a3041163603e1", checked := Try.checked }
namespace Rows
def none {H : Type} : Left H := { results := [], args := [] }

/-- 'seinelaw20.StreamPlays': WHATEVER THE INPUT: true; the input reads as it did. -/
def streamPlaysSpec : ChangeSpec := { name := "streamPlays", fn := fun _ => fun
  | [d1, d2, d3] => { results := [.lit (.bool true)], args := [d1, d2, d3] }
  | _ => none }
def streamPlaysRow : OpenClaim := { program := "ytcekifknbljbiaa", sum := "cbbfeb6970afe2d32cc7100df04949dc9267adecaf562033ee9a3041163603e1", func := "seine/seinelaw20.StreamPlays", spec := "streamPlays", unfollowed := true, recurses := true, apart := false }
def StreamPlaysSaid : Prop := streamPlaysRow.holds Try.pinned (OpenSpec.ofChange streamPlaysSpec)

/-- ITS FALSE NEIGHBOUR: 'it returns false'. Refute it at one input. -/
def streamPlaysWrong : ChangeSpec := { name := "streamPlays", fn := fun _ => fun
  | [d1, d2, d3] => { results := [.lit (.bool false)], args := [d1, d2, d3] }
  | _ => none }
def StreamPlaysWrongFalsely : Prop := streamPlaysRow.holds Try.pinned (OpenSpec.ofChange streamPlaysWrong)

/-- 'seinelaw20.StreamPieces': WHATEVER THE INPUT: true; the input reads as it did. -/
def streamPiecesSpec : ChangeSpec := { name := "streamPieces", fn := fun _ => fun
  | [d1, d2] => { results := [.lit (.bool true)], args := [d1, d2] }
  | _ => none }
def streamPiecesRow : OpenClaim := { program := "ytcekifknbljbiaa", sum := "cbbfeb6970afe2d32cc7100df04949dc9267adecaf562033ee9a3041163603e1", func := "seine/seinelaw20.StreamPieces", spec := "streamPieces", unfollowed := true, recurses := true, apart := false }
def StreamPiecesSaid : Prop := streamPiecesRow.holds Try.pinned (OpenSpec.ofChange streamPiecesSpec)

/-- ITS FALSE NEIGHBOUR: 'it returns false'. Refute it at one input. -/
def streamPiecesWrong : ChangeSpec := { name := "streamPieces", fn := fun _ => fun
  | [d1, d2] => { results := [.lit (.bool false)], args := [d1, d2] }
  | _ => none }
def StreamPiecesWrongFalsely : Prop := streamPiecesRow.holds Try.pinned (OpenSpec.ofChange streamPiecesWrong)

/-- 'seinelaw20.StreamLines': WHATEVER THE INPUT: true; the input reads as it did. -/
def streamLinesSpec : ChangeSpec := { name := "streamLines", fn := fun _ => fun
  | [d] => { results := [.lit (.bool true)], args := [d] }
  | _ => none }
def streamLinesRow : OpenClaim := { program := "ytcekifknbljbiaa", sum := "cbbfeb6970afe2d32cc7100df04949dc9267adecaf562033ee9a3041163603e1", func := "seine/seinelaw20.StreamLines", spec := "streamLines", inPlace := ["internal/bytealg.IndexByte"], unfollowed := true, recurses := true, apart := false }
def StreamLinesSaid : Prop := streamLinesRow.holds Try.pinned (OpenSpec.ofChange streamLinesSpec)

/-- ITS FALSE NEIGHBOUR: 'it returns false'. Refute it at one input. -/
def streamLinesWrong : ChangeSpec := { name := "streamLines", fn := fun _ => fun
  | [d] => { results := [.lit (.bool false)], args := [d] }
  | _ => none }
def StreamLinesWrongFalsely : Prop := streamLinesRow.holds Try.pinned (OpenSpec.ofChange streamLinesWrong)

/-- 'seinelaw20.StreamCap': WHATEVER THE INPUT: true; the input reads as it did. -/
def streamCapSpec : ChangeSpec := { name := "streamCap", fn := fun _ => fun
  | [d1, d2] => { results := [.lit (.bool true)], args := [d1, d2] }
  | _ => none }
def streamCapRow : OpenClaim := { program := "ytcekifknbljbiaa", sum := "cbbfeb6970afe2d32cc7100df04949dc9267adecaf562033ee9a3041163603e1", func := "seine/seinelaw20.StreamCap", spec := "streamCap", inPlace := ["internal/bytealg.IndexByte"], unfollowed := true, recurses := true, apart := false }
def StreamCapSaid : Prop := streamCapRow.holds Try.pinned (OpenSpec.ofChange streamCapSpec)

/-- ITS FALSE NEIGHBOUR: 'it returns false'. Refute it at one input. -/
def streamCapWrong : ChangeSpec := { name := "streamCap", fn := fun _ => fun
  | [d1, d2] => { results := [.lit (.bool false)], args := [d1, d2] }
  | _ => none }
def StreamCapWrongFalsely : Prop := streamCapRow.holds Try.pinned (OpenSpec.ofChange streamCapWrong)

/-- 'seinelaw20.StreamMoves': WHATEVER THE INPUT: true; the input reads as it did. -/
def streamMovesSpec : ChangeSpec := { name := "streamMoves", fn := fun _ => fun
  | [d1, d2] => { results := [.lit (.bool true)], args := [d1, d2] }
  | _ => none }
def streamMovesRow : OpenClaim := { program := "ytcekifknbljbiaa", sum := "cbbfeb6970afe2d32cc7100df04949dc9267adecaf562033ee9a3041163603e1", func := "seine/seinelaw20.StreamMoves", spec := "streamMoves", unfollowed := true, recurses := true, apart := false }
def StreamMovesSaid : Prop := streamMovesRow.holds Try.pinned (OpenSpec.ofChange streamMovesSpec)

/-- ITS FALSE NEIGHBOUR: 'it returns false'. Refute it at one input. -/
def streamMovesWrong : ChangeSpec := { name := "streamMoves", fn := fun _ => fun
  | [d1, d2] => { results := [.lit (.bool false)], args := [d1, d2] }
  | _ => none }
def StreamMovesWrongFalsely : Prop := streamMovesRow.holds Try.pinned (OpenSpec.ofChange streamMovesWrong)

/-- 'seinelaw20.StreamOver': WHATEVER THE INPUT: true; the input reads as it did. -/
def streamOverSpec : ChangeSpec := { name := "streamOver", fn := fun _ => fun
  | [d1, d2, d3] => { results := [.lit (.bool true)], args := [d1, d2, d3] }
  | _ => none }
def streamOverRow : OpenClaim := { program := "ytcekifknbljbiaa", sum := "cbbfeb6970afe2d32cc7100df04949dc9267adecaf562033ee9a3041163603e1", func := "seine/seinelaw20.StreamOver", spec := "streamOver", unfollowed := true, recurses := true, apart := false }
def StreamOverSaid : Prop := streamOverRow.holds Try.pinned (OpenSpec.ofChange streamOverSpec)

/-- ITS FALSE NEIGHBOUR: 'it returns false'. Refute it at one input. -/
def streamOverWrong : ChangeSpec := { name := "streamOver", fn := fun _ => fun
  | [d1, d2, d3] => { results := [.lit (.bool false)], args := [d1, d2, d3] }
  | _ => none }
def StreamOverWrongFalsely : Prop := streamOverRow.holds Try.pinned (OpenSpec.ofChange streamOverWrong)

/-- 'seinelaw20.StreamOffs': WHATEVER THE INPUT: true; the input reads as it did. -/
def streamOffsSpec : ChangeSpec := { name := "streamOffs", fn := fun _ => fun
  | [d1, d2] => { results := [.lit (.bool true)], args := [d1, d2] }
  | _ => none }
def streamOffsRow : OpenClaim := { program := "ytcekifknbljbiaa", sum := "cbbfeb6970afe2d32cc7100df04949dc9267adecaf562033ee9a3041163603e1", func := "seine/seinelaw20.StreamOffs", spec := "streamOffs", unfollowed := true, recurses := true, apart := false }
def StreamOffsSaid : Prop := streamOffsRow.holds Try.pinned (OpenSpec.ofChange streamOffsSpec)

/-- ITS FALSE NEIGHBOUR: 'it returns false'. Refute it at one input. -/
def streamOffsWrong : ChangeSpec := { name := "streamOffs", fn := fun _ => fun
  | [d1, d2] => { results := [.lit (.bool false)], args := [d1, d2] }
  | _ => none }
def StreamOffsWrongFalsely : Prop := streamOffsRow.holds Try.pinned (OpenSpec.ofChange streamOffsWrong)

/- THE SECOND FORM. 'bulk': how many values and letters a reading holds, each counted each time it is reached (what is shared counts as often as it is met; a slice's spare places count too). A statement '..UptoSaid' is the law's where the arguments, and the package variables that the reading takes, are together of bulk at most 1048576: NARROWER than '..Said'. Prove '..Said' where nothing that the law and all that it calls make is longer than what came in: it says more and counts as full. Else prove '..UptoSaid'. A law counts once. -/
mutual
def uptoBulk {H : Type} : DataW H → Nat
  | .lit (.string bytes) => bytes.length + 1
  | .lit _ => 1
  | .nil => 1
  | .ptr d => uptoBulk d + 1
  | .slice elems spare => uptoBulkAll elems + uptoBulkAll spare + 1
  | .agg parts => uptoBulkAll parts + 1
  | .iface _ d => uptoBulk d + 1
  | .map entries => uptoBulkEntries entries + 1
  | .held _ => 1
def uptoBulkAll {H : Type} : List (DataW H) → Nat
  | [] => 0
  | d :: r => uptoBulk d + uptoBulkAll r
def uptoBulkEntries {H : Type} : List (Lit × DataW H) → Nat
  | [] => 0
  | x :: r => uptoBulkEntry x + uptoBulkEntries r
def uptoBulkEntry {H : Type} : Lit × DataW H → Nat
  | (.string bytes, d) => bytes.length + uptoBulk d + 1
  | (_, d) => uptoBulk d + 1
 end
def uptoSmall : (H : Type) → List (DataW H) → Bool := fun _ ds => decide (uptoBulkAll ds ≤ 1048576)
def OpenSpec.upto (s : _root_.Go.ChangeSpec) : _root_.Go.OpenSpec := { _root_.Go.OpenSpec.ofChange s with cond := some uptoSmall }

/-- 'seinelaw20.StreamPlays', WHERE WHAT IT READS IS OF BULK AT MOST 1048576: true; the input reads as it did. -/
def streamPlaysUptoRow : OpenClaim := { program := "ytcekifknbljbiaa", sum := "cbbfeb6970afe2d32cc7100df04949dc9267adecaf562033ee9a3041163603e1", func := "seine/seinelaw20.StreamPlays", spec := "streamPlays", unfollowed := true, recurses := true, apart := false, narrowed := true }
def StreamPlaysUptoSaid : Prop := streamPlaysUptoRow.holds Try.pinned (OpenSpec.upto streamPlaysSpec)

/-- 'seinelaw20.StreamPieces', WHERE WHAT IT READS IS OF BULK AT MOST 1048576: true; the input reads as it did. -/
def streamPiecesUptoRow : OpenClaim := { program := "ytcekifknbljbiaa", sum := "cbbfeb6970afe2d32cc7100df04949dc9267adecaf562033ee9a3041163603e1", func := "seine/seinelaw20.StreamPieces", spec := "streamPieces", unfollowed := true, recurses := true, apart := false, narrowed := true }
def StreamPiecesUptoSaid : Prop := streamPiecesUptoRow.holds Try.pinned (OpenSpec.upto streamPiecesSpec)

/-- 'seinelaw20.StreamLines', WHERE WHAT IT READS IS OF BULK AT MOST 1048576: true; the input reads as it did. -/
def streamLinesUptoRow : OpenClaim := { program := "ytcekifknbljbiaa", sum := "cbbfeb6970afe2d32cc7100df04949dc9267adecaf562033ee9a3041163603e1", func := "seine/seinelaw20.StreamLines", spec := "streamLines", inPlace := ["internal/bytealg.IndexByte"], unfollowed := true, recurses := true, apart := false, narrowed := true }
def StreamLinesUptoSaid : Prop := streamLinesUptoRow.holds Try.pinned (OpenSpec.upto streamLinesSpec)

/-- 'seinelaw20.StreamCap', WHERE WHAT IT READS IS OF BULK AT MOST 1048576: true; the input reads as it did. -/
def streamCapUptoRow : OpenClaim := { program := "ytcekifknbljbiaa", sum := "cbbfeb6970afe2d32cc7100df04949dc9267adecaf562033ee9a3041163603e1", func := "seine/seinelaw20.StreamCap", spec := "streamCap", inPlace := ["internal/bytealg.IndexByte"], unfollowed := true, recurses := true, apart := false, narrowed := true }
def StreamCapUptoSaid : Prop := streamCapUptoRow.holds Try.pinned (OpenSpec.upto streamCapSpec)

/-- 'seinelaw20.StreamMoves', WHERE WHAT IT READS IS OF BULK AT MOST 1048576: true; the input reads as it did. -/
def streamMovesUptoRow : OpenClaim := { program := "ytcekifknbljbiaa", sum := "cbbfeb6970afe2d32cc7100df04949dc9267adecaf562033ee9a3041163603e1", func := "seine/seinelaw20.StreamMoves", spec := "streamMoves", unfollowed := true, recurses := true, apart := false, narrowed := true }
def StreamMovesUptoSaid : Prop := streamMovesUptoRow.holds Try.pinned (OpenSpec.upto streamMovesSpec)

/-- 'seinelaw20.StreamOver', WHERE WHAT IT READS IS OF BULK AT MOST 1048576: true; the input reads as it did. -/
def streamOverUptoRow : OpenClaim := { program := "ytcekifknbljbiaa", sum := "cbbfeb6970afe2d32cc7100df04949dc9267adecaf562033ee9a3041163603e1", func := "seine/seinelaw20.StreamOver", spec := "streamOver", unfollowed := true, recurses := true, apart := false, narrowed := true }
def StreamOverUptoSaid : Prop := streamOverUptoRow.holds Try.pinned (OpenSpec.upto streamOverSpec)

/-- 'seinelaw20.StreamOffs', WHERE WHAT IT READS IS OF BULK AT MOST 1048576: true; the input reads as it did. -/
def streamOffsUptoRow : OpenClaim := { program := "ytcekifknbljbiaa", sum := "cbbfeb6970afe2d32cc7100df04949dc9267adecaf562033ee9a3041163603e1", func := "seine/seinelaw20.StreamOffs", spec := "streamOffs", unfollowed := true, recurses := true, apart := false, narrowed := true }
def StreamOffsUptoSaid : Prop := streamOffsUptoRow.holds Try.pinned (OpenSpec.upto streamOffsSpec)

end Rows
end Go.Proofs.Ytcekifknbljbiaa
