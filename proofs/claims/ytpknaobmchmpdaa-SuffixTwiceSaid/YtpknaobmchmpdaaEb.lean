/- The reference's Less and Period. -/
import Derived.Test.YtpknaobmchmpdaaEa
namespace Go.Proofs.Ytpknaobmchmpdaa.Suf
open Go.RowKit Go.Maps Go.Proofs.Ytpknaobmchmpdaa.Crt
set_option maxRecDepth 100000
set_option linter.unusedVariables false

theorem lt_u8 (t : Bool) (x y : UInt8) : (if t then decide (y.toNat < x.toNat) else decide (x.toNat < y.toNat)) = ltB t x y := by
  unfold ltB
  cases t
  · simp only [Bool.false_eq_true, if_false]; rw [decide_eq_decide, u8_lt]
  · simp only [if_true]; rw [decide_eq_decide, u8_lt]
set_option maxHeartbeats 1000000 in
theorem rless_any (w : World) (l m : Tx) (hl : l.length ≤ 1000000) (hm : m.length ≤ 1000000) (t : Bool) :
    Calls Try.prog 18 #[.string (str l), .string (str m), .bool t] w fun e w' => e = .returned (.bool (less t l m)) ∧ ∃ q, w' = w.drewN q := by
  have hz := str_size l
  have hz2 := str_size m
  go_enter Try.func18, Try.ntmps18
  go_wp2
  go_loopw [7] (fun i wr => ∃ (k q : Nat), k ≤ l.length ∧ k ≤ m.length ∧ i = .int .i64 (k : Int) ∧ less t (l.drop k) (m.drop k) = less t l m ∧ wr = w.drewN q) (fun i _ => l.length - (intOf i).toNat)
  case atStart => exact ⟨0, 0, Nat.zero_le _, Nat.zero_le _, rfl, rfl, rfl⟩
  case round =>
    obtain ⟨k, q, hk, hk2, rfl, hee, rfl⟩ := hrel
    by_cases hlt : k < l.length ∧ k < m.length
    · obtain ⟨hlt, hlt2⟩ := hlt
      rw [less_step t l m k hlt hlt2] at hee
      have hix := str_at l k hlt
      have hix2 := str_at m k hlt2
      have hd := u8_bne l[k] m[k]
      have hlu := lt_u8 t l[k] m[k]
      have hkl1 : (k : Int) < (l.length : Int) := by omega
      have hkl2 : (k : Int) < (m.length : Int) := by omega
      by_cases he : l[k] = m[k]
      · rw [if_pos he] at hee
        rw [decide_eq_false (fun h => h he)] at hd
        have HEE := Lib.hid hee
        clear hee he hlu
        go_wp2
        go_quiet (fail)
        go_wp2
        exact ⟨⟨k + 1, q + nq, by omega, by omega, by go_num, HEE.out, rfl⟩, by simp [intOf]; omega⟩
      · rw [if_neg he] at hee
        rw [decide_eq_true he] at hd
        have HEE := Lib.hid hee
        clear hee he
        cases t
        · simp only [Bool.false_eq_true, if_false] at hlu
          have HLU := Lib.hid hlu
          clear hlu
          go_wp2
          go_quiet (fail)
          go_wp2
          go_quiet (fail)
          go_wp2
          go_ret
          exact ⟨ret_bool (HLU.out.trans HEE.out), _, (by simp only [World.drewN_drewN]; rfl)⟩
        · simp only [if_true] at hlu
          have HLU := Lib.hid hlu
          clear hlu
          go_wp2
          go_quiet (fail)
          go_wp2
          go_quiet (fail)
          go_wp2
          go_ret
          exact ⟨ret_bool (HLU.out.trans HEE.out), _, (by simp only [World.drewN_drewN]; rfl)⟩
    · rw [less_end t l m k (by omega)] at hee
      have HEE := Lib.hid hee
      clear hee
      by_cases hlt2 : k < l.length
      · have hkl1 : (k : Int) < (l.length : Int) := by omega
        have hkl2 : ¬ (k : Int) < (m.length : Int) := by omega
        go_wp2
        go_ret
        exact ⟨ret_bool HEE.out, q, rfl⟩
      · have hkl1 : ¬ (k : Int) < (l.length : Int) := by omega
        go_wp2
        go_ret
        exact ⟨ret_bool HEE.out, q, rfl⟩
theorem str_at' (l : Tx) (k : Nat) (h : k < l.length) : (str l)[k]'(by rw [str_size]; exact h) = at' l k := by rw [str_at l k h, at_eq h]
theorem alike_step (s : Tx) (p j : Nat) : alike s p (j + 1) = (alike s p j && at' s j == at' s (j + p)) := rfl
theorem beq_dec (a b : UInt8) : (a == b) = decide (a = b) := by rw [Bool.eq_iff_iff]; simp
set_option maxHeartbeats 1000000 in
theorem rperiod_any (w : World) (s : Tx) (hl : s.length ≤ 1000000) :
    Calls Try.prog 13 #[.string (str s)] w fun e w' => e = .returned (.int .i64 (per s : Int)) ∧ ∃ q, w' = w.drewN q := by
  have hz := str_size s
  go_enter Try.func13, Try.ntmps13
  go_wp2
  go_loopw [3] (fun v wr => ∃ (k q : Nat), k ≤ s.length ∧ v = .int .i64 ((k : Int) + 1) ∧ (∀ r, 1 ≤ r → r < k + 1 → ¬ Per s r) ∧ wr = w.drewN q) (fun v _ => s.length + 1 - (intOf v).toNat)
  case atStart => exact ⟨0, 0, Nat.zero_le _, rfl, fun r h1 h2 => by omega, rfl⟩
  case round =>
    obtain ⟨k, q, hk, rfl, hno, rfl⟩ := hrel
    have HNO := Lib.hid hno
    clear hno
    by_cases hlt : k < s.length
    · have hkl : (k : Int) + 1 ≤ (s.length : Int) := by omega
      go_wp2
      go_loopw [4, 5] (fun b i wr => ∃ (j q : Nat), j + (k + 1) ≤ s.length ∧ b = .bool (alike s (k + 1) j) ∧ i = .int .i64 (j : Int) ∧ wr = w.drewN q) (fun _ i _ => s.length - (intOf i).toNat)
      case atStart => exact ⟨0, q, by omega, rfl, rfl, rfl⟩
      case round =>
        obtain ⟨j, q, hj, rfl, rfl, rfl⟩ := hrel
        have hst := alike_step s (k + 1) j
        by_cases hlt2 : j + (k + 1) < s.length
        · have hkl2 : (j : Int) + ((k : Int) + 1) < (s.length : Int) := by omega
          obtain ⟨M, hM⟩ : ∃ M, M = j + (k + 1) := ⟨_, rfl⟩
          rw [← hM] at hst hlt2
          have hj1 : j < s.length := by omega
          have hj2 : (j : Int) < (s.length : Int) := by omega
          have hml : (M : Int) < (s.length : Int) := by omega
          have hwr : IntKind.i64.wrap ((j : Int) + ((k : Int) + 1)) = (M : Int) := by rw [IntWalk.i64_in _ (by omega)]; omega
          have HM := Lib.hid hM
          clear hM
          have hix := str_at' s j hj1
          have hix2 := str_at' s M hlt2
          have hbe := u8_beq (at' s j) (at' s M)
          cases hal : alike s (k + 1) j
          · rw [hal, Bool.false_and] at hst
            have HST := Lib.hid hst
            clear hst hal
            go_wp2
            go_quiet (fail)
            go_wp2
            have hM := HM.out
            exact ⟨⟨j + 1, q + nq, by omega, by rw [HST.out], by go_num, rfl⟩, by simp [intOf]; omega⟩
          · rw [hal, Bool.true_and] at hst
            have HST := Lib.hid hst
            clear hst hal
            go_wp2
            clear hkl2
            go_quiet (fail)
            go_wp2
            have hM := HM.out
            exact ⟨⟨j + 1, q + nq, by omega, by rw [HST.out, beq_dec], by go_num, rfl⟩, by simp [intOf]; omega⟩
        · have hkl2 : ¬ (j : Int) + ((k : Int) + 1) < (s.length : Int) := by omega
          obtain rfl : j = s.length - (k + 1) := by omega
          have hap := alike_per (s := s) (p := k + 1) (by omega) hlt
          cases hal : alike s (k + 1) (s.length - (k + 1))
          · rw [hal] at hap
            have HAP := Lib.hid hap
            clear hap hal
            go_wp2
            exact ⟨⟨k + 1, q, hlt, by go_num, fun r h1 h2 => by
              by_cases hr : r = k + 1
              · rw [hr]; intro h; have := HAP.out.2 h; cases this
              · exact HNO.out r h1 (by omega), rfl⟩, by simp [intOf]; omega⟩
          · rw [hal] at hap
            have HE : Hid (per s = k + 1) := Lib.hid (per_first (fun e => by rw [e] at hlt; simp at hlt) (hap.1 rfl) (fun r h1 h2 => HNO.out r h1 (by omega)))
            clear hap hal
            go_wp2
            go_ret
            exact ⟨ret_int (by rw [HE.out]; rfl), q, rfl⟩
    · have hkl : ¬ (k : Int) + 1 ≤ (s.length : Int) := by omega
      have HE : Hid (per s = 0) := Lib.hid (by
        by_cases e : s = []
        · rw [e]; rfl
        · exfalso
          have h1 := (per_least e).1
          exact HNO.out (per s) h1.1 (by have := per_le e; omega) h1)
      go_wp2
      go_ret
      exact ⟨ret_int (by rw [HE.out]; rfl), q, rfl⟩
theorem bestTo_lt (t : Bool) (s : Tx) : ∀ k, 0 < k → bestTo t s k < k
  | 0, h => absurd h (by omega)
  | k + 1, _ => by
    rw [bestTo]
    split
    · omega
    · rcases Nat.eq_zero_or_pos k with rfl | h
      · show 0 < 0 + 1; omega
      · have := bestTo_lt t s k h; omega
end Go.Proofs.Ytpknaobmchmpdaa.Suf
