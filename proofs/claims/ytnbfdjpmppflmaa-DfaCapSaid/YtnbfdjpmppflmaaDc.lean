/- The contracts of States, Width, Path, row and Next. -/
import Derived.Test.YtnbfdjpmppflmaaDb
namespace Go.Proofs.Ytnbfdjpmppflmaa.Dfa
open Go.RowKit Go.Maps Go.Proofs.Ytnbfdjpmppflmaa.Tri Go.Proofs.Ytnbfdjpmppflmaa.Lnk Go.Proofs.Ytnbfdjpmppflmaa.Reg
set_option maxRecDepth 100000

theorem states_any (w : World) (t tt : Nat) (ps l : List Tx) (s : Nat) (htr : Tr w s tt ps l) (h0 : w.cell? ⟨t, 0, none⟩ = some (.pointer (some ⟨tt, 0, none⟩))) : Calls Try.prog 19 #[.pointer (some ⟨t, 0, none⟩)] w fun e w' => e = .returned (.int .i64 (ps.length : Int)) ∧ w = w' := by
  have HN := Lib.hid (nodes_any w s tt ps l htr)
  clear htr
  go_enter Try.func19, Try.ntmps19
  go_wp2_with (go_at_call 30; (with_reducible refine HN.out.mono ?_); rintro e w0 ⟨rfl, rfl⟩)
  go_ret
  exact ⟨rfl, rfl⟩
theorem states_none (w : World) : Calls Try.prog 19 #[.pointer none] w fun e w' => e = .returned (.int .i64 0) ∧ w = w' := by
  go_enter Try.func19, Try.ntmps19
  go_wp2
  go_ret
  exact ⟨rfl, rfl⟩
theorem width_any (w : World) (t : Nat) (wd : Int) (h : w.cell? ⟨t, 258, none⟩ = some (.int .i64 wd)) : Calls Try.prog 20 #[.pointer (some ⟨t, 0, none⟩)] w fun e w' => e = .returned (.int .i64 wd) ∧ w = w' := by
  go_enter Try.func20, Try.ntmps20
  go_wp2
  go_ret
  exact ⟨rfl, rfl⟩
theorem width_none (w : World) : Calls Try.prog 20 #[.pointer none] w fun e w' => e = .returned (.int .i64 0) ∧ w = w' := by
  go_enter Try.func20, Try.ntmps20
  go_wp2
  go_ret
  exact ⟨rfl, rfl⟩
theorem und71 : Try.prog.underlying 71 = some (.slice 3) := by kernel_rfl
theorem size3 : ∀ w, (Go.sizeOf 3).run Try.prog w = .ok 1 w := fun w => by
  obtain ⟨i0, hi, hz0, hz1, hz2⟩ := info_parts info3
  simp [Go.sizeOf, typeInfo, hi, hz1]
theorem mul_next (i wd : Nat) : (((i : Int) + 1) * (wd : Int)) = ((i * wd + wd : Nat) : Int) := by
  rw [Int.natCast_add, Int.natCast_mul, Int.add_mul, Int.one_mul]
theorem mul_wrap {i wd : Nat} (h : i * wd ≤ 1000000000) : IntKind.i64.wrap ((i : Int) * (wd : Int)) = ((i * wd : Nat) : Int) := by
  rw [← Int.natCast_mul]
  exact IntWalk.i64_in _ (by omega)
theorem next_wrap {i wd : Nat} (h : i * wd + wd ≤ 1000000000) : IntKind.i64.wrap (((i : Int) + 1) * (wd : Int)) = ((i * wd + wd : Nat) : Int) := by
  rw [mul_next]
  exact IntWalk.i64_in _ (by omega)
set_option maxHeartbeats 2000000 in
theorem row_in (w : World) (t : Nat) (n g wd : Nat) (i : Nat) (hi : i < n) (hw : 0 < wd) (hb : n * wd ≤ 1000000)
    (hs : Calls Try.prog 19 #[.pointer (some ⟨t, 0, none⟩)] w fun e w' => e = .returned (.int .i64 (n : Int)) ∧ w = w') (h1 : w.cell? ⟨t, 258, none⟩ = some (.int .i64 (wd : Int))) (h2 : w.cell? ⟨t, 259, none⟩ = some (.slice (some ⟨g, 0, none⟩) (n * wd) (n * wd))) :
    Calls Try.prog 47 #[.pointer (some ⟨t, 0, none⟩), .int .i64 (i : Int)] w fun e w' => e = .returned (.slice (some ⟨g, i * wd, none⟩) wd (n * wd - i * wd)) ∧ ∃ q, w' = w.drewN q := by
  have HS := Lib.hid hs
  have hl : (i : Int) < (n : Int) := by omega
  have hl2 : ¬ ((n : Int) ≤ (i : Int)) := by omega
  have hle := row_le (wd := wd) hi
  have hin : i ≤ n * wd := Nat.le_trans (Nat.le_of_lt hi) (Nat.le_mul_of_pos_right n hw)
  have e1 := mul_wrap (i := i) (wd := wd) (by omega)
  have e3 : IntKind.i64.wrap ((i : Int) + 1) = (i : Int) + 1 := IntWalk.i64_in _ (by omega)
  have e2 := next_wrap (i := i) (wd := wd) (by omega)
  have hsl : ∀ W, (Instr.slice 71 (.slice (some ⟨g, 0, none⟩) (n * wd) (n * wd)) (some (.int .i64 ((i * wd : Nat) : Int))) (some (.int .i64 (((i * wd : Nat) : Int) + (wd : Int)))) none).run Try.prog W = .ok (.slice (some ⟨g, i * wd, none⟩) wd (n * wd - i * wd)) W := fun W => by
    have h := Lib.run_slice_window (P := Try.prog) W 71 3 und71 size3 g 0 (n * wd) (n * wd) (i * wd) (i * wd + wd) (by omega) hle
    rw [Nat.zero_add, show i * wd + wd - i * wd = wd by omega, Int.natCast_add] at h
    exact h
  clear hs hle hb
  generalize n * wd = NN at *
  generalize i * wd = M at *
  go_enter Try.func47, Try.ntmps47
  go_wp2_with (go_at_call 19; (with_reducible refine HS.out.mono ?_); rintro e w0 ⟨rfl, rfl⟩)
  go_quiet (fail)
  go_wp2
  go_ret
  exact ⟨rfl, nq, rfl⟩
theorem row_out (w : World) (t : Option Addr) (n : Nat) (i : Int) (hi : ¬ (0 ≤ i ∧ i < n))
    (hs : Calls Try.prog 19 #[.pointer t] w fun e w' => e = .returned (.int .i64 (n : Int)) ∧ w = w') :
    Calls Try.prog 47 #[.pointer t, .int .i64 i] w fun e w' => e = .returned (.slice none 0 0) ∧ w = w' := by
  have HS := Lib.hid hs
  clear hs
  by_cases h : i < 0
  · clear hi
    go_enter Try.func47, Try.ntmps47
    go_wp2
    go_ret
    exact ⟨rfl, rfl⟩
  · have h2 : (n : Int) ≤ i := by omega
    have h3 : 0 ≤ i := by omega
    clear hi h
    go_enter Try.func47, Try.ntmps47
    go_wp2_with (go_at_call 19; (with_reducible refine HS.out.mono ?_); rintro e w0 ⟨rfl, rfl⟩)
    go_ret
    exact ⟨rfl, rfl⟩
set_option maxHeartbeats 2000000 in
theorem dnext_in (w : World) (t : Nat) (n g wd : Nat) (i : Nat) (c : UInt8) (k : Nat) (hk : k < wd) (x : Int)
    (hr : Calls Try.prog 47 #[.pointer (some ⟨t, 0, none⟩), .int .i64 (i : Int)] w fun e w' => e = .returned (.slice (some ⟨g, i * wd, none⟩) wd (n * wd - i * wd)) ∧ ∃ q, w' = w.drewN q)
    (h1 : w.cell? ⟨t, 2 + c.toNat, none⟩ = some (.int .i64 (k : Int))) (h2 : w.cell? ⟨g, i * wd + k, none⟩ = some (.int .i64 x)) :
    Calls Try.prog 22 #[.pointer (some ⟨t, 0, none⟩), .int .i64 (i : Int), .int .u8 (c.toNat : Int)] w fun e w' => e = .returned (.int .i64 x) ∧ ∃ q, w' = w.drewN q := by
  have HR := Lib.hid hr
  have hc := c.toNat_lt
  have hc2 : (c.toNat : Int) < 256 := by omega
  have hz : ((wd : Int) == 0) = false := beq_eq_false_iff_ne.2 (by omega)
  have hkl : (k : Int) < (wd : Int) := by omega
  clear hr
  generalize n * wd = NN at *
  generalize i * wd = M at *
  go_enter Try.func22, Try.ntmps22
  go_wp2_with (go_at_call 47; (with_reducible refine HR.out.mono ?_); rintro e w0 ⟨rfl, q, rfl⟩)
  go_ret
  exact ⟨rfl, q, rfl⟩
theorem dnext_out (w : World) (t : Option Addr) (i : Int) (c : UInt8)
    (hr : Calls Try.prog 47 #[.pointer t, .int .i64 i] w fun e w' => e = .returned (.slice none 0 0) ∧ w = w') :
    Calls Try.prog 22 #[.pointer t, .int .i64 i, .int .u8 (c.toNat : Int)] w fun e w' => e = .returned (.int .i64 (-1)) ∧ w = w' := by
  have HR := Lib.hid hr
  clear hr
  go_enter Try.func22, Try.ntmps22
  go_wp2_with (go_at_call 47; (with_reducible refine HR.out.mono ?_); rintro e w0 ⟨rfl, rfl⟩)
  go_ret
  exact ⟨rfl, rfl⟩
theorem path_none (w : World) (i : Int) : Calls Try.prog 24 #[.pointer none, .int .i64 i] w fun e w' => e = .returned (.slice none 0 0) ∧ w = w' := by
  go_enter Try.func24, Try.ntmps24
  go_wp2
  go_ret
  exact ⟨rfl, rfl⟩
theorem path_some (w : World) (t tt : Nat) (i : Int) (p : Tx) (h0 : w.cell? ⟨t, 0, none⟩ = some (.pointer (some ⟨tt, 0, none⟩))) (h : Calls Try.prog 49 #[.pointer (some ⟨tt, 0, none⟩), .int .i64 i] w (GivesText w p)) :
    Calls Try.prog 24 #[.pointer (some ⟨t, 0, none⟩), .int .i64 i] w (GivesText w p) := by
  have HP := Lib.hid h
  clear h
  go_enter Try.func24, Try.ntmps24
  go_wp2_with (go_at_call 49; (with_reducible refine HP.out.mono ?_); rintro e w1 ⟨a, c, rfl, h1, h2, h3, h4⟩)
  go_ret
  exact ⟨a, c, rfl, h1, h2, h3, h4⟩
end Go.Proofs.Ytnbfdjpmppflmaa.Dfa
