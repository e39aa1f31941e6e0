/- Contracts of fold.Set's Union and Len. -/
import Derived.Test.YtlepabeibniabaaWalks
import Derived.LoopN
import Derived.RegionTactic
namespace Go.Proofs.Ytlepabeibniabaa
open Go.RowKit
set_option maxRecDepth 100000

set_option maxHeartbeats 4000000 in
theorem union_any (N M : Nat) (w : World) :
    Calls Try.prog 22 #[setV N, setV M] w fun e w' => e = .returned (setV (N ||| M)) ∧ Below w.heap.size w w' := by
  rw [setV_eq N, setV_eq M]
  have o : ∀ i, bits BinOp.or IntKind.u64 (wd N i : Int) (wd M i : Int) = (wd (N ||| M) i : Int) := fun i => by
    rw [u64_or_nat _ _ (wd_lt N i) (wd_lt M i), wd_or]
  have o0 := o 0
  have o1 := o 1
  have o2 := o 2
  have o3 := o 3
  clear o
  go_enter Try.func22, Try.ntmps22
  go_wp2
  refine wp_loop_rounds 5 ?_
  rw [rounds_succ]
  go_wp2
  go_region
  go_wp2
  rw [rounds_succ]
  go_wp2
  go_region
  go_wp2
  rw [rounds_succ]
  go_wp2
  go_region
  go_wp2
  rw [rounds_succ]
  go_wp2
  go_region
  go_wp2
  rw [rounds_succ]
  go_wp2
  refine bodyPost_ret (v := setV (N ||| M)) (by simp [results, Try.results22, go_sem, setV]) rfl ⟨rfl, ?_⟩
  exact (((((((Below.refl _ _).alloc (Nat.le_refl _) _).alloc (by simp) _).alloc (by simp; omega) _).drew).drew).drew).drew
end Go.Proofs.Ytlepabeibniabaa
