/- The document's examples: true in whatever world. -/
import Derived.Test.YtlepabeibniabaaWalke
namespace Go.Proofs.Ytlepabeibniabaa
open Go.RowKit
set_option maxRecDepth 100000

theorem Blk4.made (w : World) (N : Nat) : Blk4 (w.alloc (.cells #[.int .u64 (wd N 0), .int .u64 (wd N 1), .int .u64 (wd N 2), .int .u64 (wd N 3)] 43)) w.heap.size N := heap_alloc_new w _
theorem ex_eq (w : World) : (binOp .eql 43 (setV (setOf [0, 64, 65])) (.agg #[.int .u64 1, .int .u64 3, .int .u64 0, .int .u64 0])).run Try.prog w = .ok (.bool true) w := by
  have e : Value.agg #[.int .u64 1, .int .u64 3, .int .u64 0, .int .u64 0] = setV 55340232221128654849 := by
    unfold setV
    have e0 : wd 55340232221128654849 0 = 1 := by decide
    have e1 : wd 55340232221128654849 1 = 3 := by decide
    have e2 : wd 55340232221128654849 2 = 0 := by decide
    have e3 : wd 55340232221128654849 3 = 0 := by decide
    rw [e0, e1, e2, e3]
    rfl
  rw [e, eql_sets (setOf_lt _) (by decide) w]
  have h : (setOf [0, 64, 65] == 55340232221128654849) = true := by decide
  rw [h]
theorem ex_len : pc 64 (wd (setOf [0, 64, 65]) 0) + pc 64 (wd (setOf [0, 64, 65]) 1) + pc 64 (wd (setOf [0, 64, 65]) 2) + pc 64 (wd (setOf [0, 64, 65]) 3) = 3 := by decide
theorem ex_65 : (setOf [0, 64, 65]).testBit 65 = true := by decide
theorem ex_66 : (setOf [0, 64, 65]).testBit 66 = false := by decide

theorem const_at (w : World) (g : Nat) (hg : g = w.heap.size) (C : Array Value) (n c : Nat) :
    (convert 36 36 (.slice (some ⟨g, 0, none⟩) n c)).run Try.prog (w.alloc (.cells C 5)) = .ok (.slice (some ⟨g, 0, none⟩) n c) (w.alloc (.cells C 5 (C.size, C.size + 1))) := by
  subst hg
  exact Lib.run_convert_bytes_const w 36 5 C n c und22 und5
theorem bs_lit_at (w : World) (g : Nat) (l : List UInt8) (fr : Nat × Nat) (cs : Array Value) (hg : g = w.heap.size) (hcs : cs = (l.map fun c => Value.int .u8 (c.toNat : Int)).toArray) :
    Bs (w.alloc (.cells cs 5 fr)) (w.alloc (.cells cs 5 fr)).heap.size (some ⟨g, 0, none⟩) l := by
  subst hg
  exact bs_lit w l fr cs hcs

end Go.Proofs.Ytlepabeibniabaa
