/- AdmitEmpty, walked. -/
import Derived.Test.YticoahmiejgccaaAdmC
namespace Go.Proofs.Yticoahmiejgccaa.admitEmpty
open Go.RowKit Go.Proofs.Yticoahmiejgccaa.Prs Adm
set_option maxRecDepth 100000

set_option maxHeartbeats 4000000 in
theorem walk (W : World) (line : List UInt8) (al : Option Addr) (cl : Nat) (_hm : line.length ≤ maxLen) (ht : Bs W W.heap.size al line) (n : Nat) (_hn : n < 65536) (w x : Bool) :
    Calls Try.prog 4 #[.slice al line.length cl, .int .u16 (n : Int), .bool w, .bool x] W fun r w' => r = .returned (.bool true) ∧ Below W.heap.size W w' := by
  have HA := Lib.hid (awake_any W)
  have HT := Lib.hid ht
  clear ht
  by_cases hA : line.length ≤ 400
  rotate_left
  · have hAi : ¬ (line.length : Int) ≤ 400 := by omega
    go_enter Try.func4, Try.ntmps4
    go_wp2_with (go_at_call 8; (with_reducible refine HA.out.mono ?_); rintro r w1 ⟨rfl, hb1⟩)
    go_ret
    exact ⟨rfl, hb1⟩
  have hAi : (line.length : Int) ≤ 400 := by omega
  obtain ⟨K, hK⟩ : ∃ K, n % (line.length + 1) = K := ⟨_, rfl⟩
  have hKl : K ≤ line.length := by have := Nat.mod_lt n (show 0 < line.length + 1 by omega); omega
  have hmod : ((n : Int) % ((line.length : Int) + 1)) = (K : Int) := by rw [← hK]; exact (Int.natCast_emod n (line.length + 1)).symm
  have CM : Hid (∀ X, Below W.heap.size W X → Calls Try.prog 15 #[.slice al line.length cl, .agg #[.int .i64 (K : Int), .int .i64 (K : Int)], .bool w, .bool x] X fun e w' => e = .returned (.bool (!w && (!x || decide (line.length = 0)))) ∧ Below X.heap.size X w') :=
    Lib.hid fun X h => eqv (may_empty isWd line K hKl w x) (may_any line al cl ⟨(K : Int), (K : Int)⟩ w x X (by omega) ((HT.out.keep h).more h.size))
  have CF : Hid (∀ X, Below W.heap.size W X → Calls Try.prog 13 #[.slice al line.length cl, .agg #[.int .i64 (K : Int), .int .i64 (K : Int)]] X fun e w' => e = .returned (.bool false) ∧ Below X.heap.size X w') :=
    Lib.hid fun X h => eqv (free_empty isWd line K) (free_any line al cl ⟨(K : Int), (K : Int)⟩ X (by omega) ((HT.out.keep h).more h.size))
  clear hK
  have hz1 : (decide (line.length = 0)) = ((line.length : Int) == 0) := by rw [Bool.eq_iff_iff]; simp
  rw [hz1] at CM
  clear hz1
  obtain ⟨z, hz⟩ : ∃ z, ((line.length : Int) == 0) = z := ⟨_, rfl⟩
  rw [hz] at CM
  cases w <;> cases x <;> cases z
  all_goals (
    go_enter Try.func4, Try.ntmps4
    go_wp2_with (first
      | (go_at_call 8; (with_reducible refine HA.out.mono ?_); rintro r w1 ⟨rfl, hb1⟩; have B1 := Lib.hid (hb1.alloc hb1.size (.cells #[.int .i64 (K : Int), .int .i64 (K : Int)] 31)))
      | (go_at_call 15; (with_reducible refine (CM.out _ B1.out).mono ?_); rintro r w2 ⟨rfl, hb2⟩; have B2 := Lib.hid (B1.out.trans (hb2.mono B1.out.size)); obtain ⟨c0, c1⟩ := ((pb_new w1 (K : Int) (K : Int)).keep hb2 (by simp)).cells)
      | (go_at_call 13; (with_reducible refine (CF.out _ B2.out).mono ?_); rintro r w3 ⟨rfl, hb3⟩; have B3 := Lib.hid (B2.out.trans (hb3.mono B2.out.size))))
    go_ret
    exact ⟨rfl, B3.out⟩)
end Go.Proofs.Yticoahmiejgccaa.admitEmpty
