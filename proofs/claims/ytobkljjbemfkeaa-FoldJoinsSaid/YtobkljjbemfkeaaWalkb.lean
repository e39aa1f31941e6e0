/- Contracts of fold.Set's Union and Len. -/
import Derived.Test.YtobkljjbemfkeaaWalks
import Derived.LoopN
import Derived.RegionTactic
namespace Go.Proofs.Ytobkljjbemfkeaa
open Go.RowKit

set_option maxHeartbeats 4000000 in
theorem len_any (N : Nat) (w : World) :
    Calls Try.prog 23 #[setV N] w fun e w' => e = .returned (.int .i64 ((pc 64 (wd N 0) + pc 64 (wd N 1) + pc 64 (wd N 2) + pc 64 (wd N 3) : Nat) : Int)) ∧ Below w.heap.size w w' := by
  rw [setV_eq N]
  have l0 := pc_le 64 (wd N 0)
  have l1 := pc_le 64 (wd N 1)
  have l2 := pc_le 64 (wd N 2)
  have l3 := pc_le 64 (wd N 3)
  have d0 := wd_lt N 0
  have d1 := wd_lt N 1
  have d2 := wd_lt N 2
  have d3 := wd_lt N 3
  go_enter Try.func23, Try.ntmps23
  go_wp2
  refine wp_loop_rounds 5 ?_
  rw [rounds_succ]
  go_wp2_with (go_at_call 26; refine (ones_any _ _ d0).mono ?_; rintro e w' ⟨rfl, rfl⟩)
  rw [rounds_succ]
  go_wp2_with (go_at_call 26; refine (ones_any _ _ d1).mono ?_; rintro e w' ⟨rfl, rfl⟩)
  rw [rounds_succ]
  go_wp2_with (go_at_call 26; refine (ones_any _ _ d2).mono ?_; rintro e w' ⟨rfl, rfl⟩)
  rw [rounds_succ]
  go_wp2_with (go_at_call 26; refine (ones_any _ _ d3).mono ?_; rintro e w' ⟨rfl, rfl⟩)
  rw [rounds_succ]
  go_wp2
  go_ret
  refine ⟨ret_int ?_, (Below.refl _ _).alloc (Nat.le_refl _) _⟩
  omega

set_option maxHeartbeats 4000000 in
theorem union_any (N M : Nat) (w : World) :
    Calls Try.prog 18 #[setV N, setV M] w fun e w' => e = .returned (setV (N ||| M)) ∧ Below w.heap.size w w' := by
  rw [setV_eq N, setV_eq M]
  have o : ∀ i, bits BinOp.or IntKind.u64 (wd N i : Int) (wd M i : Int) = (wd (N ||| M) i : Int) := fun i => by
    rw [u64_or_nat _ _ (wd_lt N i) (wd_lt M i), wd_or]
  have o0 := o 0
  have o1 := o 1
  have o2 := o 2
  have o3 := o 3
  clear o
  go_enter Try.func18, Try.ntmps18
  go_wp2
  refine wp_loop_rounds 5 ?_
  rw [rounds_succ]
  go_wp2
  go_region
  go_wp2
  rw [rounds_succ]
  go_wp2
  go_region
  go_wp2
  rw [rounds_succ]
  go_wp2
  go_region
  go_wp2
  rw [rounds_succ]
  go_wp2
  go_region
  go_wp2
  rw [rounds_succ]
  go_wp2
  refine bodyPost_ret (v := setV (N ||| M)) (by simp [results, Try.results18, go_sem, setV]) rfl ⟨rfl, ?_⟩
  exact (((((((Below.refl _ _).alloc (Nat.le_refl _) _).alloc (by simp) _).alloc (by simp; omega) _).drew).drew).drew).drew
end Go.Proofs.Ytobkljjbemfkeaa
