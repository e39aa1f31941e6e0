/- Contracts of package fold's functions on sets. -/
import Derived.Test.YtobkljjbemfkeaaRows
import Derived.Test.YtobkljjbemfkeaaSets
import Derived.WalkKit
import Derived.ProofKit
import Derived.WalkLawsBesides
import Derived.Outline
import Derived.Laws.BitsAllLaws
import Derived.Deep.QuietTactic
import Derived.BigQuiet
import Derived.Deep.RegionWith
import Derived.Below
import Derived.Lib.Hide
namespace Go.Proofs.Ytobkljjbemfkeaa
open Go.RowKit

theorem ret_int {k : IntKind} {a b : Int} (h : a = b) : Ending.returned (.int k a) = .returned (.int k b) := by rw [h]
/-- A callee that leaves the world alone, inside a region that only reads. -/
theorem quietly {P : Program} {f : FuncId} {args : Array Value} {w : World} {n : Nat} {v : Value}
    (h : Calls P f args (w.drewN n) fun e w' => e = .returned v ∧ w.drewN n = w') : Calls P f args (w.drewN n) fun e w'' => e = .returned v ∧ ∃ m, w'' = w.drewN m :=
  h.mono fun _ _ ⟨he, hm⟩ => ⟨he, n, hm.symm⟩
theorem ret_bool {a b : Bool} (h : a = b) : Ending.returned (.bool a) = .returned (.bool b) := by rw [h]

def setV (N : Nat) : Value := .agg #[.int .u64 (wd N 0), .int .u64 (wd N 1), .int .u64 (wd N 2), .int .u64 (wd N 3)]

theorem bit_any (c : Nat) (w : World) (hc : c < 256) :
    Calls Try.prog 25 #[.int .u8 c] w fun e w' => e = .returned (.int .u64 ((2 ^ (c % 64) : Nat) : Int)) ∧ w = w' := by
  go_enter Try.func25, Try.ntmps25
  go_wp2
  go_ret
  refine ⟨ret_int ?_, rfl⟩
  have h : 2 ^ (c % 64) < 2 ^ 64 := Nat.pow_lt_pow_right (by decide) (by omega)
  rw [IntKind.wrap_u64]
  have e : ((2 : Int) ^ (c % 64)) = ((2 ^ (c % 64) : Nat) : Int) := by simp
  rw [e]
  generalize 2 ^ (c % 64) = y at *
  omega

theorem byte_any (c : UInt8) (w : World) :
    Calls Try.prog 13 #[.int .u8 c.toNat] w fun e w' => e = .returned (.int .u8 (low c).toNat) ∧ w = w' := by
  have hl := c.toNat_lt
  rw [low_nat]
  go_enter Try.func13, Try.ntmps13
  go_wp2
  all_goals (go_ret; exact ⟨rfl, rfl⟩)

theorem bits_and_bit (N c i : Nat) (h : c / 64 = i) : (bits BinOp.and IntKind.u64 (wd N i : Int) (2 ^ (c % 64)) != 0) = N.testBit c := by
  have e : ((2 : Int) ^ (c % 64)) = ((2 ^ (c % 64) : Nat) : Int) := by simp
  have hp : 2 ^ (c % 64) < 2 ^ 64 := Nat.pow_lt_pow_right (by decide) (by omega)
  rw [e, u64_and_nat _ _ (wd_lt N i) hp, ← has_word N c, h]
  rw [Bool.eq_iff_iff]
  simp
theorem bits_or_bit (N c i : Nat) (h : c / 64 = i) : bits BinOp.or IntKind.u64 (wd N i : Int) (2 ^ (c % 64)) = (wd (N ||| 2 ^ c) i : Int) := by
  have e : ((2 : Int) ^ (c % 64)) = ((2 ^ (c % 64) : Nat) : Int) := by simp
  have hp : 2 ^ (c % 64) < 2 ^ 64 := Nat.pow_lt_pow_right (by decide) (by omega)
  rw [e, u64_or_nat _ _ (wd_lt N i) hp, wd_with, if_pos h]
theorem below_drews {B : Nat} {a w : World} (h : Below B a w) (n : Nat) : Below B a (w.drewN n) := ⟨h.os, h.tape, h.output, h.size, h.block⟩

theorem has_any (N c : Nat) (w : World) (hc : c < 256) :
    Calls Try.prog 21 #[setV N, .int .u8 c] w fun e w' => e = .returned (.bool (N.testBit c)) ∧ Below w.heap.size w w' := by
  unfold setV
  have hq : c / 64 = 0 ∨ c / 64 = 1 ∨ c / 64 = 2 ∨ c / 64 = 3 := by omega
  rcases hq with h | h | h | h
  · have hi : (c : Int) / 64 = 0 := by omega
    have hr : IntKind.u8.wrap 0 = 0 := by decide
    have H := Lib.hid (bits_and_bit N c _ h)
    clear h
    go_enter Try.func21, Try.ntmps21
    go_wp2
    go_quiet ((go_at_call 25; exact quietly (bit_any _ _ hc)))
    go_wp2
    go_ret
    exact ⟨ret_bool H.out, below_drews ((Below.refl _ _).alloc (Nat.le_refl _) _) _⟩
  · have hi : (c : Int) / 64 = 1 := by omega
    have hr : IntKind.u8.wrap 1 = 1 := by decide
    have H := Lib.hid (bits_and_bit N c _ h)
    clear h
    go_enter Try.func21, Try.ntmps21
    go_wp2
    go_quiet ((go_at_call 25; exact quietly (bit_any _ _ hc)))
    go_wp2
    go_ret
    exact ⟨ret_bool H.out, below_drews ((Below.refl _ _).alloc (Nat.le_refl _) _) _⟩
  · have hi : (c : Int) / 64 = 2 := by omega
    have hr : IntKind.u8.wrap 2 = 2 := by decide
    have H := Lib.hid (bits_and_bit N c _ h)
    clear h
    go_enter Try.func21, Try.ntmps21
    go_wp2
    go_quiet ((go_at_call 25; exact quietly (bit_any _ _ hc)))
    go_wp2
    go_ret
    exact ⟨ret_bool H.out, below_drews ((Below.refl _ _).alloc (Nat.le_refl _) _) _⟩
  · have hi : (c : Int) / 64 = 3 := by omega
    have hr : IntKind.u8.wrap 3 = 3 := by decide
    have H := Lib.hid (bits_and_bit N c _ h)
    clear h
    go_enter Try.func21, Try.ntmps21
    go_wp2
    go_quiet ((go_at_call 25; exact quietly (bit_any _ _ hc)))
    go_wp2
    go_ret
    exact ⟨ret_bool H.out, below_drews ((Below.refl _ _).alloc (Nat.le_refl _) _) _⟩

theorem with_val0 (N c : Nat) (h : c / 64 = 0) : Value.agg #[.int .u64 (bits BinOp.or IntKind.u64 (wd N 0 : Int) (2 ^ (c % 64))), .int .u64 (wd N 1), .int .u64 (wd N 2), .int .u64 (wd N 3)] = setV (N ||| 2 ^ c) := by
  have e : ∀ j, ¬ c / 64 = j → wd (N ||| 2 ^ c) j = wd N j := fun j hj => by rw [wd_with, if_neg hj]
  unfold setV
  rw [bits_or_bit N c _ h, e 1 (by omega), e 2 (by omega), e 3 (by omega)]
theorem with_val1 (N c : Nat) (h : c / 64 = 1) : Value.agg #[.int .u64 (wd N 0), .int .u64 (bits BinOp.or IntKind.u64 (wd N 1 : Int) (2 ^ (c % 64))), .int .u64 (wd N 2), .int .u64 (wd N 3)] = setV (N ||| 2 ^ c) := by
  have e : ∀ j, ¬ c / 64 = j → wd (N ||| 2 ^ c) j = wd N j := fun j hj => by rw [wd_with, if_neg hj]
  unfold setV
  rw [bits_or_bit N c _ h, e 0 (by omega), e 2 (by omega), e 3 (by omega)]
theorem with_val2 (N c : Nat) (h : c / 64 = 2) : Value.agg #[.int .u64 (wd N 0), .int .u64 (wd N 1), .int .u64 (bits BinOp.or IntKind.u64 (wd N 2 : Int) (2 ^ (c % 64))), .int .u64 (wd N 3)] = setV (N ||| 2 ^ c) := by
  have e : ∀ j, ¬ c / 64 = j → wd (N ||| 2 ^ c) j = wd N j := fun j hj => by rw [wd_with, if_neg hj]
  unfold setV
  rw [bits_or_bit N c _ h, e 0 (by omega), e 1 (by omega), e 3 (by omega)]
theorem with_val3 (N c : Nat) (h : c / 64 = 3) : Value.agg #[.int .u64 (wd N 0), .int .u64 (wd N 1), .int .u64 (wd N 2), .int .u64 (bits BinOp.or IntKind.u64 (wd N 3 : Int) (2 ^ (c % 64)))] = setV (N ||| 2 ^ c) := by
  have e : ∀ j, ¬ c / 64 = j → wd (N ||| 2 ^ c) j = wd N j := fun j hj => by rw [wd_with, if_neg hj]
  unfold setV
  rw [bits_or_bit N c _ h, e 0 (by omega), e 1 (by omega), e 2 (by omega)]

theorem setV_eq (N : Nat) : setV N = .agg #[.int .u64 (wd N 0), .int .u64 (wd N 1), .int .u64 (wd N 2), .int .u64 (wd N 3)] := rfl
set_option maxHeartbeats 1600000 in
theorem with_any (N c : Nat) (w : World) (hc : c < 256) :
    Calls Try.prog 19 #[setV N, .int .u8 c] w fun e w' => e = .returned (setV (N ||| 2 ^ c)) ∧ Below w.heap.size w w' := by
  rw [setV_eq N]
  have hq : c / 64 = 0 ∨ c / 64 = 1 ∨ c / 64 = 2 ∨ c / 64 = 3 := by omega
  rcases hq with h | h | h | h
  · have hi : (c : Int) / 64 = 0 := by omega
    have hr : IntKind.u8.wrap 0 = 0 := by decide
    have H := Lib.hid (with_val0 N c h)
    clear h
    go_enter Try.func19, Try.ntmps19
    go_wp2
    go_region_with (go_at_call 25; refine (bit_any _ _ hc).mono ?_; rintro e w' ⟨rfl, rfl⟩)
    all_goals
      go_wp2
      refine bodyPost_ret (v := .agg #[.int .u64 (bits BinOp.or IntKind.u64 (wd N 0 : Int) (2 ^ (c % 64))), .int .u64 (wd N 1), .int .u64 (wd N 2), .int .u64 (wd N 3)]) (by simp [results, Try.results19, go_sem]) rfl ⟨congrArg _ H.out, ?_⟩
      exact (((Below.refl _ _).alloc (Nat.le_refl _) _).alloc (by simp) _).drew
  · have hi : (c : Int) / 64 = 1 := by omega
    have hr : IntKind.u8.wrap 1 = 1 := by decide
    have H := Lib.hid (with_val1 N c h)
    clear h
    go_enter Try.func19, Try.ntmps19
    go_wp2
    go_region_with (go_at_call 25; refine (bit_any _ _ hc).mono ?_; rintro e w' ⟨rfl, rfl⟩)
    all_goals
      go_wp2
      refine bodyPost_ret (v := .agg #[.int .u64 (wd N 0), .int .u64 (bits BinOp.or IntKind.u64 (wd N 1 : Int) (2 ^ (c % 64))), .int .u64 (wd N 2), .int .u64 (wd N 3)]) (by simp [results, Try.results19, go_sem]) rfl ⟨congrArg _ H.out, ?_⟩
      exact (((Below.refl _ _).alloc (Nat.le_refl _) _).alloc (by simp) _).drew
  · have hi : (c : Int) / 64 = 2 := by omega
    have hr : IntKind.u8.wrap 2 = 2 := by decide
    have H := Lib.hid (with_val2 N c h)
    clear h
    go_enter Try.func19, Try.ntmps19
    go_wp2
    go_region_with (go_at_call 25; refine (bit_any _ _ hc).mono ?_; rintro e w' ⟨rfl, rfl⟩)
    all_goals
      go_wp2
      refine bodyPost_ret (v := .agg #[.int .u64 (wd N 0), .int .u64 (wd N 1), .int .u64 (bits BinOp.or IntKind.u64 (wd N 2 : Int) (2 ^ (c % 64))), .int .u64 (wd N 3)]) (by simp [results, Try.results19, go_sem]) rfl ⟨congrArg _ H.out, ?_⟩
      exact (((Below.refl _ _).alloc (Nat.le_refl _) _).alloc (by simp) _).drew
  · have hi : (c : Int) / 64 = 3 := by omega
    have hr : IntKind.u8.wrap 3 = 3 := by decide
    have H := Lib.hid (with_val3 N c h)
    clear h
    go_enter Try.func19, Try.ntmps19
    go_wp2
    go_region_with (go_at_call 25; refine (bit_any _ _ hc).mono ?_; rintro e w' ⟨rfl, rfl⟩)
    all_goals
      go_wp2
      refine bodyPost_ret (v := .agg #[.int .u64 (wd N 0), .int .u64 (wd N 1), .int .u64 (wd N 2), .int .u64 (bits BinOp.or IntKind.u64 (wd N 3 : Int) (2 ^ (c % 64)))]) (by simp [results, Try.results19, go_sem]) rfl ⟨congrArg _ H.out, ?_⟩
      exact (((Below.refl _ _).alloc (Nat.le_refl _) _).alloc (by simp) _).drew

theorem and127 (n : Nat) (h : n < 9223372036854775808) : bits BinOp.and IntKind.i64 (n : Int) 127 = ((n % 128 : Nat) : Int) := by
  show IntKind.i64.wrap ((BitVec.ofInt 64 (n : Int) &&& BitVec.ofInt 64 (127 : Int)).toNat : Int) = _
  have e1 : (BitVec.ofInt 64 (n : Int)).toNat = n := by
    rw [BitVec.ofInt_natCast, BitVec.toNat_ofNat]; exact Nat.mod_eq_of_lt (by omega)
  have e2 : (BitVec.ofInt 64 (127 : Int)).toNat = 127 := by decide
  rw [BitVec.toNat_and, e1, e2, nat_mask7, IntKind.wrap_i64]
  omega
/-- The steps of the count. -/
theorem ones_any (x : Nat) (w : World) (hx : x < 18446744073709551616) :
    Calls Try.prog 26 #[.int .u64 x] w fun e w' => e = .returned (.int .i64 (pc 64 x)) ∧ w = w' := by
  obtain ⟨y, hy⟩ : ∃ y, y = (x / 2 &&& 6148914691236517205) + (x &&& 6148914691236517205) := ⟨_, rfl⟩
  obtain ⟨z, hz⟩ : ∃ z, z = (y / 4 &&& 3689348814741910323) + (y &&& 3689348814741910323) := ⟨_, rfl⟩
  obtain ⟨u, hu⟩ : ∃ u, u = (z / 16 + z) &&& 1085102592571150095 := ⟨_, rfl⟩
  obtain ⟨r4, h4⟩ : ∃ r, r = u + u / 256 := ⟨_, rfl⟩
  obtain ⟨r5, h5⟩ : ∃ r, r = r4 + r4 / 65536 := ⟨_, rfl⟩
  obtain ⟨r6, h6⟩ : ∃ r, r = r5 + r5 / 4294967296 := ⟨_, rfl⟩
  obtain ⟨by_, bz, bzz, bu, b4, b5, b6, hr⟩ := pop_nat x y z u r4 r5 r6 hy hz hu h4 h5 h6
  have w0 : ∀ n : Nat, n < 18446744073709551616 → IntKind.u64.wrap (n : Int) = (n : Int) := fun n hn => by rw [IntKind.wrap_u64]; omega
  have a1 : bits BinOp.and IntKind.u64 ((x : Int) / 2) 6148914691236517205 = ((x / 2 &&& 6148914691236517205 : Nat) : Int) := u64_and_nat (x / 2) 6148914691236517205 (by omega) (by omega)
  have a2 : bits BinOp.and IntKind.u64 (x : Int) 6148914691236517205 = ((x &&& 6148914691236517205 : Nat) : Int) := u64_and_nat x 6148914691236517205 (by omega) (by omega)
  have a3 : bits BinOp.and IntKind.u64 ((y : Int) / 4) 3689348814741910323 = ((y / 4 &&& 3689348814741910323 : Nat) : Int) := u64_and_nat (y / 4) 3689348814741910323 (by omega) (by omega)
  have a4 : bits BinOp.and IntKind.u64 (y : Int) 3689348814741910323 = ((y &&& 3689348814741910323 : Nat) : Int) := u64_and_nat y 3689348814741910323 (by omega) (by omega)
  have a5 : bits BinOp.and IntKind.u64 ((z / 16 + z : Nat) : Int) 1085102592571150095 = ((z / 16 + z &&& 1085102592571150095 : Nat) : Int) := u64_and_nat (z / 16 + z) 1085102592571150095 bzz (by omega)
  have e1 : IntKind.u64.wrap (bits BinOp.and IntKind.u64 ((x : Int) / 2) 6148914691236517205 + bits BinOp.and IntKind.u64 (x : Int) 6148914691236517205) = (y : Int) := by
    rw [a1, a2, ← Int.natCast_add, ← hy, w0 y by_]
  have e2 : IntKind.u64.wrap (bits BinOp.and IntKind.u64 ((y : Int) / 4) 3689348814741910323 + bits BinOp.and IntKind.u64 (y : Int) 3689348814741910323) = (z : Int) := by
    rw [a3, a4, ← Int.natCast_add, ← hz, w0 z bz]
  have e3 : bits BinOp.and IntKind.u64 (IntKind.u64.wrap ((z : Int) / 16 + (z : Int))) 1085102592571150095 = (u : Int) := by
    have e : (z : Int) / 16 + (z : Int) = ((z / 16 + z : Nat) : Int) := by omega
    rw [e, w0 _ bzz, a5, ← hu]
  have e4 : IntKind.u64.wrap ((u : Int) + (u : Int) / 256) = (r4 : Int) := by
    have e : (u : Int) + (u : Int) / 256 = ((u + u / 256 : Nat) : Int) := by omega
    rw [e, ← h4, w0 _ b4]
  have e5 : IntKind.u64.wrap ((r4 : Int) + (r4 : Int) / 65536) = (r5 : Int) := by
    have e : (r4 : Int) + (r4 : Int) / 65536 = ((r4 + r4 / 65536 : Nat) : Int) := by omega
    rw [e, ← h5, w0 _ b5]
  have e6 : IntKind.u64.wrap ((r5 : Int) + (r5 : Int) / 4294967296) = (r6 : Int) := by
    have e : (r5 : Int) + (r5 : Int) / 4294967296 = ((r5 + r5 / 4294967296 : Nat) : Int) := by omega
    rw [e, ← h6, w0 _ (by omega)]
  have HR := Lib.hid hr
  clear hy hz hu h4 h5 h6 a1 a2 a3 a4 a5 w0 hr bzz
  go_enter Try.func26, Try.ntmps26
  go_wp2
  go_ret
  refine ⟨ret_int ?_, rfl⟩
  rw [and127 r6 b6, HR.out]
end Go.Proofs.Ytobkljjbemfkeaa
