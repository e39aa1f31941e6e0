/- Contracts of package fold's functions on sets. -/
import Derived.Test.YtlepabeibniabaaBase
import Derived.Test.YtlepabeibniabaaSets
import Derived.WalkKit
import Derived.ProofKit
import Derived.WalkLawsBesides
import Derived.Outline
import Derived.Laws.BitsAllLaws
import Derived.Deep.QuietTactic
import Derived.BigQuiet
import Derived.Deep.RegionWith
import Derived.Below
import Derived.Lib.Hide
namespace Go.Proofs.Ytlepabeibniabaa
open Go.RowKit
set_option maxRecDepth 100000

def setV (N : Nat) : Value := .agg #[.int .u64 (wd N 0), .int .u64 (wd N 1), .int .u64 (wd N 2), .int .u64 (wd N 3)]

theorem bit_any (c : Nat) (w : World) (hc : c < 256) :
    Calls Try.prog 26 #[.int .u8 c] w fun e w' => e = .returned (.int .u64 ((2 ^ (c % 64) : Nat) : Int)) ∧ w = w' := by
  go_enter Try.func26, Try.ntmps26
  go_wp2
  go_ret
  refine ⟨ret_int ?_, rfl⟩
  have h : 2 ^ (c % 64) < 2 ^ 64 := Nat.pow_lt_pow_right (by decide) (by omega)
  rw [IntKind.wrap_u64]
  have e : ((2 : Int) ^ (c % 64)) = ((2 ^ (c % 64) : Nat) : Int) := by simp
  rw [e]
  generalize 2 ^ (c % 64) = y at *
  omega

theorem bits_and_bit (N c i : Nat) (h : c / 64 = i) : (bits BinOp.and IntKind.u64 (wd N i : Int) (2 ^ (c % 64)) != 0) = N.testBit c := by
  have e : ((2 : Int) ^ (c % 64)) = ((2 ^ (c % 64) : Nat) : Int) := by simp
  have hp : 2 ^ (c % 64) < 2 ^ 64 := Nat.pow_lt_pow_right (by decide) (by omega)
  rw [e, u64_and_nat _ _ (wd_lt N i) hp, ← has_word N c, h]
  rw [Bool.eq_iff_iff]
  simp
theorem bits_or_bit (N c i : Nat) (h : c / 64 = i) : bits BinOp.or IntKind.u64 (wd N i : Int) (2 ^ (c % 64)) = (wd (N ||| 2 ^ c) i : Int) := by
  have e : ((2 : Int) ^ (c % 64)) = ((2 ^ (c % 64) : Nat) : Int) := by simp
  have hp : 2 ^ (c % 64) < 2 ^ 64 := Nat.pow_lt_pow_right (by decide) (by omega)
  rw [e, u64_or_nat _ _ (wd_lt N i) hp, wd_with, if_pos h]
theorem has_any (N c : Nat) (w : World) (hc : c < 256) :
    Calls Try.prog 24 #[setV N, .int .u8 c] w fun e w' => e = .returned (.bool (N.testBit c)) ∧ Below w.heap.size w w' := by
  unfold setV
  have hq : c / 64 = 0 ∨ c / 64 = 1 ∨ c / 64 = 2 ∨ c / 64 = 3 := by omega
  rcases hq with h | h | h | h
  · have hi : (c : Int) / 64 = 0 := by omega
    have hr : IntKind.u8.wrap 0 = 0 := by decide
    have H := Lib.hid (bits_and_bit N c _ h)
    clear h
    go_enter Try.func24, Try.ntmps24
    go_wp2
    go_quiet ((go_at_call 26; exact quietly (bit_any _ _ hc)))
    go_wp2
    go_ret
    exact ⟨ret_bool H.out, below_drews ((Below.refl _ _).alloc (Nat.le_refl _) _) _⟩
  · have hi : (c : Int) / 64 = 1 := by omega
    have hr : IntKind.u8.wrap 1 = 1 := by decide
    have H := Lib.hid (bits_and_bit N c _ h)
    clear h
    go_enter Try.func24, Try.ntmps24
    go_wp2
    go_quiet ((go_at_call 26; exact quietly (bit_any _ _ hc)))
    go_wp2
    go_ret
    exact ⟨ret_bool H.out, below_drews ((Below.refl _ _).alloc (Nat.le_refl _) _) _⟩
  · have hi : (c : Int) / 64 = 2 := by omega
    have hr : IntKind.u8.wrap 2 = 2 := by decide
    have H := Lib.hid (bits_and_bit N c _ h)
    clear h
    go_enter Try.func24, Try.ntmps24
    go_wp2
    go_quiet ((go_at_call 26; exact quietly (bit_any _ _ hc)))
    go_wp2
    go_ret
    exact ⟨ret_bool H.out, below_drews ((Below.refl _ _).alloc (Nat.le_refl _) _) _⟩
  · have hi : (c : Int) / 64 = 3 := by omega
    have hr : IntKind.u8.wrap 3 = 3 := by decide
    have H := Lib.hid (bits_and_bit N c _ h)
    clear h
    go_enter Try.func24, Try.ntmps24
    go_wp2
    go_quiet ((go_at_call 26; exact quietly (bit_any _ _ hc)))
    go_wp2
    go_ret
    exact ⟨ret_bool H.out, below_drews ((Below.refl _ _).alloc (Nat.le_refl _) _) _⟩

theorem with_val0 (N c : Nat) (h : c / 64 = 0) : Value.agg #[.int .u64 (bits BinOp.or IntKind.u64 (wd N 0 : Int) (2 ^ (c % 64))), .int .u64 (wd N 1), .int .u64 (wd N 2), .int .u64 (wd N 3)] = setV (N ||| 2 ^ c) := by
  have e : ∀ j, ¬ c / 64 = j → wd (N ||| 2 ^ c) j = wd N j := fun j hj => by rw [wd_with, if_neg hj]
  unfold setV
  rw [bits_or_bit N c _ h, e 1 (by omega), e 2 (by omega), e 3 (by omega)]
theorem with_val1 (N c : Nat) (h : c / 64 = 1) : Value.agg #[.int .u64 (wd N 0), .int .u64 (bits BinOp.or IntKind.u64 (wd N 1 : Int) (2 ^ (c % 64))), .int .u64 (wd N 2), .int .u64 (wd N 3)] = setV (N ||| 2 ^ c) := by
  have e : ∀ j, ¬ c / 64 = j → wd (N ||| 2 ^ c) j = wd N j := fun j hj => by rw [wd_with, if_neg hj]
  unfold setV
  rw [bits_or_bit N c _ h, e 0 (by omega), e 2 (by omega), e 3 (by omega)]
theorem with_val2 (N c : Nat) (h : c / 64 = 2) : Value.agg #[.int .u64 (wd N 0), .int .u64 (wd N 1), .int .u64 (bits BinOp.or IntKind.u64 (wd N 2 : Int) (2 ^ (c % 64))), .int .u64 (wd N 3)] = setV (N ||| 2 ^ c) := by
  have e : ∀ j, ¬ c / 64 = j → wd (N ||| 2 ^ c) j = wd N j := fun j hj => by rw [wd_with, if_neg hj]
  unfold setV
  rw [bits_or_bit N c _ h, e 0 (by omega), e 1 (by omega), e 3 (by omega)]
theorem with_val3 (N c : Nat) (h : c / 64 = 3) : Value.agg #[.int .u64 (wd N 0), .int .u64 (wd N 1), .int .u64 (wd N 2), .int .u64 (bits BinOp.or IntKind.u64 (wd N 3 : Int) (2 ^ (c % 64)))] = setV (N ||| 2 ^ c) := by
  have e : ∀ j, ¬ c / 64 = j → wd (N ||| 2 ^ c) j = wd N j := fun j hj => by rw [wd_with, if_neg hj]
  unfold setV
  rw [bits_or_bit N c _ h, e 0 (by omega), e 1 (by omega), e 2 (by omega)]

theorem setV_eq (N : Nat) : setV N = .agg #[.int .u64 (wd N 0), .int .u64 (wd N 1), .int .u64 (wd N 2), .int .u64 (wd N 3)] := rfl
set_option maxHeartbeats 1600000 in
theorem with_any (N c : Nat) (w : World) (hc : c < 256) :
    Calls Try.prog 25 #[setV N, .int .u8 c] w fun e w' => e = .returned (setV (N ||| 2 ^ c)) ∧ Below w.heap.size w w' := by
  rw [setV_eq N]
  have hq : c / 64 = 0 ∨ c / 64 = 1 ∨ c / 64 = 2 ∨ c / 64 = 3 := by omega
  rcases hq with h | h | h | h
  · have hi : (c : Int) / 64 = 0 := by omega
    have hr : IntKind.u8.wrap 0 = 0 := by decide
    have H := Lib.hid (with_val0 N c h)
    clear h
    go_enter Try.func25, Try.ntmps25
    go_wp2
    go_region_with (go_at_call 26; refine (bit_any _ _ hc).mono ?_; rintro e w' ⟨rfl, rfl⟩)
    all_goals
      go_wp2
      refine bodyPost_ret (v := .agg #[.int .u64 (bits BinOp.or IntKind.u64 (wd N 0 : Int) (2 ^ (c % 64))), .int .u64 (wd N 1), .int .u64 (wd N 2), .int .u64 (wd N 3)]) (by simp [results, Try.results25, go_sem]) rfl ⟨congrArg _ H.out, ?_⟩
      exact (((Below.refl _ _).alloc (Nat.le_refl _) _).alloc (by simp) _).drew
  · have hi : (c : Int) / 64 = 1 := by omega
    have hr : IntKind.u8.wrap 1 = 1 := by decide
    have H := Lib.hid (with_val1 N c h)
    clear h
    go_enter Try.func25, Try.ntmps25
    go_wp2
    go_region_with (go_at_call 26; refine (bit_any _ _ hc).mono ?_; rintro e w' ⟨rfl, rfl⟩)
    all_goals
      go_wp2
      refine bodyPost_ret (v := .agg #[.int .u64 (wd N 0), .int .u64 (bits BinOp.or IntKind.u64 (wd N 1 : Int) (2 ^ (c % 64))), .int .u64 (wd N 2), .int .u64 (wd N 3)]) (by simp [results, Try.results25, go_sem]) rfl ⟨congrArg _ H.out, ?_⟩
      exact (((Below.refl _ _).alloc (Nat.le_refl _) _).alloc (by simp) _).drew
  · have hi : (c : Int) / 64 = 2 := by omega
    have hr : IntKind.u8.wrap 2 = 2 := by decide
    have H := Lib.hid (with_val2 N c h)
    clear h
    go_enter Try.func25, Try.ntmps25
    go_wp2
    go_region_with (go_at_call 26; refine (bit_any _ _ hc).mono ?_; rintro e w' ⟨rfl, rfl⟩)
    all_goals
      go_wp2
      refine bodyPost_ret (v := .agg #[.int .u64 (wd N 0), .int .u64 (wd N 1), .int .u64 (bits BinOp.or IntKind.u64 (wd N 2 : Int) (2 ^ (c % 64))), .int .u64 (wd N 3)]) (by simp [results, Try.results25, go_sem]) rfl ⟨congrArg _ H.out, ?_⟩
      exact (((Below.refl _ _).alloc (Nat.le_refl _) _).alloc (by simp) _).drew
  · have hi : (c : Int) / 64 = 3 := by omega
    have hr : IntKind.u8.wrap 3 = 3 := by decide
    have H := Lib.hid (with_val3 N c h)
    clear h
    go_enter Try.func25, Try.ntmps25
    go_wp2
    go_region_with (go_at_call 26; refine (bit_any _ _ hc).mono ?_; rintro e w' ⟨rfl, rfl⟩)
    all_goals
      go_wp2
      refine bodyPost_ret (v := .agg #[.int .u64 (wd N 0), .int .u64 (wd N 1), .int .u64 (wd N 2), .int .u64 (bits BinOp.or IntKind.u64 (wd N 3 : Int) (2 ^ (c % 64)))]) (by simp [results, Try.results25, go_sem]) rfl ⟨congrArg _ H.out, ?_⟩
      exact (((Below.refl _ _).alloc (Nat.le_refl _) _).alloc (by simp) _).drew

theorem and127 (n : Nat) (h : n < 9223372036854775808) : bits BinOp.and IntKind.i64 (n : Int) 127 = ((n % 128 : Nat) : Int) := by
  show IntKind.i64.wrap ((BitVec.ofInt 64 (n : Int) &&& BitVec.ofInt 64 (127 : Int)).toNat : Int) = _
  have e1 : (BitVec.ofInt 64 (n : Int)).toNat = n := by
    rw [BitVec.ofInt_natCast, BitVec.toNat_ofNat]; exact Nat.mod_eq_of_lt (by omega)
  have e2 : (BitVec.ofInt 64 (127 : Int)).toNat = 127 := by decide
  rw [BitVec.toNat_and, e1, e2, nat_mask7, IntKind.wrap_i64]
  omega
end Go.Proofs.Ytlepabeibniabaa
