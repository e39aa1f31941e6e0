/- Package by package: Pop Sets Walks Walkb Walkc Walkd Walke Walkf Walkg Walkh. -/
import Derived.Test.YtcbhjhhajeeimaaGreatGB
import Derived.Below
import Derived.BigQuiet
import Derived.ChangeKeysEq
import Derived.Deep.QuietTactic
import Derived.Deep.RegionWith
import Derived.Laws.BitsAllLaws
import Derived.Laws.IdiomStrings
import Derived.Laws.MakeOwn
import Derived.Lib.Hide
import Derived.Lib.SlBytesConst
import Derived.LoopN
import Derived.LoopTactic
import Derived.Outline
import Derived.OwnWalk
import Derived.ProofKit
import Derived.RegionTactic
import Derived.WalkKit
import Derived.WalkLawsBesides
/- Plain mathematics: the sum by halves, quarters and nibbles of a number below 2^64 is the number of its bits that are set. No condition but the bound. -/
namespace Go.Proofs.YtcbhjhhajeeimaaGreat
set_option maxRecDepth 100000

/-- How many of the lowest n bits of x are set. -/
def pc : Nat → Nat → Nat
  | 0, _ => 0
  | n + 1, x => x % 2 + pc n (x / 2)

theorem pc_le (n x : Nat) : pc n x ≤ n := by
  induction n generalizing x with
  | zero => simp [pc]
  | succ n ih => have := ih (x / 2); simp only [pc]; omega

theorem pc_filter (n x : Nat) : pc n x = ((List.range n).filter (fun i => x.testBit i)).length := by
  induction n generalizing x with
  | zero => rfl
  | succ n ih =>
    rw [List.range_succ_eq_map, List.filter_cons, List.filter_map, pc, ih]
    have e : ((fun i => x.testBit i) ∘ Nat.succ) = (fun i => (x / 2).testBit i) := by
      funext i; simp [Nat.testBit_succ]
    rw [e]
    by_cases h : x % 2 = 1
    · simp [h, Nat.testBit_zero]; omega
    · have h0 : x % 2 = 0 := by omega
      simp [h0, Nat.testBit_zero]

theorem pc_eight (n x : Nat) : pc (n + 8) x = pc 8 (x % 256) + pc n (x / 256) := by
  have e : x / 2 / 2 / 2 / 2 / 2 / 2 / 2 / 2 = x / 256 := by omega
  simp only [pc, e]
  omega

def mask : Nat → Nat → Nat
  | 0, _ => 0
  | k + 1, b => b + 256 * mask k b

theorem and_split (a A b B : Nat) (ha : a < 256) (hb : b < 256) : (a + 256 * A) &&& (b + 256 * B) = (a &&& b) + 256 * (A &&& B) := by
  have h1 : ((a + 256 * A) &&& (b + 256 * B)) % 2 ^ 8 = a &&& b := by
    rw [Nat.and_mod_two_pow]
    congr 1 <;> omega
  have h2 : ((a + 256 * A) &&& (b + 256 * B)) / 2 ^ 8 = A &&& B := by
    rw [Nat.and_div_two_pow]
    congr 1 <;> omega
  omega

def f1 (k x : Nat) : Nat := (x / 2 &&& mask k 85) + (x &&& mask k 85)
def f2 (k x : Nat) : Nat := (x / 4 &&& mask k 51) + (x &&& mask k 51)
def f3 (k x : Nat) : Nat := (x / 16 + x) &&& mask k 15

theorem low1 : ∀ a, a < 256 → ∀ t, t < 2 → (a / 2 + 128 * t) &&& 85 = a / 2 &&& 85 := by decide +kernel
theorem low2 : ∀ a, a < 256 → ∀ t, t < 4 → (a / 4 + 64 * t) &&& 51 = a / 4 &&& 51 := by decide +kernel
def g1 (a : Nat) : Nat := (a / 2 &&& 85) + (a &&& 85)
def g2 (a : Nat) : Nat := (a / 4 &&& 51) + (a &&& 51)
theorem g1_lt : ∀ a, a < 256 → g1 a < 256 := by decide +kernel
theorem g21_lt : ∀ a, a < 256 → g2 (g1 a) ≤ 68 ∧ g2 (g1 a) % 16 ≤ 4 := by decide +kernel
theorem low3 : ∀ a, a < 69 → ∀ t, t < 5 → (a / 16 + a + 16 * t) &&& 15 = (a / 16 + a) % 16 := by decide +kernel
theorem g321 : ∀ a, a < 256 → (g2 (g1 a) / 16 + g2 (g1 a)) % 16 = pc 8 a := by decide +kernel

theorem f1_succ (k x : Nat) : f1 (k + 1) x = g1 (x % 256) + 256 * f1 k (x / 256) := by
  have ex : x = x % 256 + 256 * (x / 256) := by omega
  have e1 : x / 2 = (x % 256 / 2 + 128 * (x / 256 % 2)) + 256 * (x / 256 / 2) := by omega
  have s1 : x / 2 &&& mask (k + 1) 85 = (x % 256 / 2 &&& 85) + 256 * (x / 256 / 2 &&& mask k 85) := by
    rw [e1, mask, and_split _ _ _ _ (by omega) (by omega), low1 _ (by omega) _ (by omega)]
  have s2 : x &&& mask (k + 1) 85 = (x % 256 &&& 85) + 256 * (x / 256 &&& mask k 85) := by
    conv => lhs; rw [ex, mask, and_split _ _ _ _ (by omega) (by omega)]
  unfold f1 g1
  rw [s1, s2]
  omega

theorem f2_succ (k a A : Nat) (ha : a < 256) : f2 (k + 1) (a + 256 * A) = g2 a + 256 * f2 k A := by
  have e1 : (a + 256 * A) / 4 = (a / 4 + 64 * (A % 4)) + 256 * (A / 4) := by omega
  unfold f2 g2
  rw [e1, mask, and_split _ _ _ _ (by omega) (by omega), low2 _ (by omega) _ (by omega), and_split _ _ _ _ (by omega) (by omega)]
  omega

theorem f3_succ (k a A : Nat) (ha : a ≤ 68) (hA : A % 16 ≤ 4) : f3 (k + 1) (a + 256 * A) = (a / 16 + a) % 16 + 256 * f3 k A := by
  have e1 : (a + 256 * A) / 16 + (a + 256 * A) = (a / 16 + a + 16 * (A % 16)) + 256 * (A / 16 + A) := by omega
  unfold f3
  rw [e1, mask, and_split _ _ _ _ (by omega) (by omega), low3 _ (by omega) _ (by omega)]

theorem f21_low (k x : Nat) : f2 k (f1 k x) % 16 ≤ 4 := by
  cases k with
  | zero => simp [f2, f1, mask]
  | succ k =>
    have h := g21_lt (x % 256) (by omega)
    rw [f1_succ, f2_succ _ _ _ (g1_lt _ (by omega))]
    omega

theorem f321_succ (k x : Nat) : f3 (k + 1) (f2 (k + 1) (f1 (k + 1) x)) = pc 8 (x % 256) + 256 * f3 k (f2 k (f1 k (x / 256))) := by
  have h := g21_lt (x % 256) (by omega)
  rw [f1_succ, f2_succ _ _ _ (g1_lt _ (by omega)), f3_succ _ _ _ h.1 (f21_low _ _), g321 _ (by omega)]

theorem div_of (d a b : Nat) (hd : 0 < d) (ha : a < d) : (a + d * b) / d = b := by
  rw [Nat.add_mul_div_left _ _ hd, Nat.div_eq_of_lt ha, Nat.zero_add]

theorem mask55 : mask 8 85 = 6148914691236517205 := by decide
theorem mask33 : mask 8 51 = 3689348814741910323 := by decide
theorem mask0f : mask 8 15 = 1085102592571150095 := by decide

theorem tail4 (q0 q1 q2 q3 q4 q5 q6 q7 : Nat) (p0 : q0 ≤ 8) :
    (q0 + 256 * (q1 + 256 * (q2 + 256 * (q3 + 256 * (q4 + 256 * (q5 + 256 * (q6 + 256 * q7))))))) + (q0 + 256 * (q1 + 256 * (q2 + 256 * (q3 + 256 * (q4 + 256 * (q5 + 256 * (q6 + 256 * q7))))))) / 256
      = ((q0 + q1) + 256 * (q1 + q2)) + 65536 * ((q2 + q3) + 256 * (q3 + q4) + 65536 * ((q4 + q5) + 256 * (q5 + q6) + 65536 * ((q6 + q7) + 256 * q7))) := by
  rw [div_of 256 _ _ (by omega) (by omega)]; omega
theorem tail5 (a b A B C : Nat) (h : a + 256 * b < 65536) :
    (a + 256 * b) + 65536 * (A + 65536 * (B + 65536 * C)) + ((a + 256 * b) + 65536 * (A + 65536 * (B + 65536 * C))) / 65536
      = (a + 256 * b + A) + 65536 * ((A + B) + 65536 * ((B + C) + 65536 * C)) := by
  rw [div_of 65536 _ _ (by omega) (by omega)]; omega
theorem tail6 (a A B C : Nat) (h : a + 65536 * A < 4294967296) :
    (a + 65536 * (A + 65536 * (B + 65536 * C))) + (a + 65536 * (A + 65536 * (B + 65536 * C))) / 4294967296
      = (a + 65536 * A + (B + 65536 * C)) + 4294967296 * (B + 65536 * C) := by
  have e : a + 65536 * (A + 65536 * (B + 65536 * C)) = (a + 65536 * A) + 4294967296 * (B + 65536 * C) := by omega
  rw [e, div_of 4294967296 _ _ (by omega) h]; omega
theorem tailMod (q0 q1 q2 q3 q4 q5 q6 q7 X : Nat) (p0 : q0 ≤ 8) (p1 : q1 ≤ 8) (p2 : q2 ≤ 8) (p3 : q3 ≤ 8) (p4 : q4 ≤ 8) (p5 : q5 ≤ 8) (p6 : q6 ≤ 8) (p7 : q7 ≤ 8) :
    ((q0 + (q1 + (q2 + (q3 + (q4 + (q5 + (q6 + q7))))))) + 128 * X) % 128 = q0 + (q1 + (q2 + (q3 + (q4 + (q5 + (q6 + q7)))))) := by
  rw [Nat.add_mul_mod_self_left, Nat.mod_eq_of_lt (by omega)]

/-- The steps of the count, on natural numbers below 2^64, as the machine adds. -/
theorem pop_nat (x : Nat) (y z u r4 r5 r6 : Nat)
    (hy : y = (x / 2 &&& 6148914691236517205) + (x &&& 6148914691236517205))
    (hz : z = (y / 4 &&& 3689348814741910323) + (y &&& 3689348814741910323))
    (hu : u = (z / 16 + z) &&& 1085102592571150095)
    (h4 : r4 = u + u / 256) (h5 : r5 = r4 + r4 / 65536) (h6 : r6 = r5 + r5 / 4294967296) :
    y < 18446744073709551616 ∧ z < 18446744073709551616 ∧ z / 16 + z < 18446744073709551616 ∧ u < 18446744073709551616 ∧ r4 < 18446744073709551616 ∧ r5 < 18446744073709551616 ∧ r6 < 9223372036854775808 ∧ r6 % 128 = pc 64 x := by
  have hu' : u = f3 8 (f2 8 (f1 8 x)) := by
    unfold f3 f2 f1
    rw [mask55, mask33, mask0f, hu, hz, hy]
  have b1 : x / 2 &&& 6148914691236517205 ≤ 6148914691236517205 := Nat.and_le_right
  have b2 : x &&& 6148914691236517205 ≤ 6148914691236517205 := Nat.and_le_right
  have b3 : y / 4 &&& 3689348814741910323 ≤ 3689348814741910323 := Nat.and_le_right
  have b4 : y &&& 3689348814741910323 ≤ 3689348814741910323 := Nat.and_le_right
  have p0 := pc_le 8 (x % 256)
  have p1 := pc_le 8 (x / 256 % 256)
  have p2 := pc_le 8 (x / 256 / 256 % 256)
  have p3 := pc_le 8 (x / 256 / 256 / 256 % 256)
  have p4 := pc_le 8 (x / 256 / 256 / 256 / 256 % 256)
  have p5 := pc_le 8 (x / 256 / 256 / 256 / 256 / 256 % 256)
  have p6 := pc_le 8 (x / 256 / 256 / 256 / 256 / 256 / 256 % 256)
  have p7 := pc_le 8 (x / 256 / 256 / 256 / 256 / 256 / 256 / 256 % 256)
  have hz0 : f3 0 (f2 0 (f1 0 (x / 256 / 256 / 256 / 256 / 256 / 256 / 256 / 256))) = 0 := by simp [f3, f2, f1, mask]
  have hpc : pc 64 x = pc 8 (x % 256) + (pc 8 (x / 256 % 256) + (pc 8 (x / 256 / 256 % 256) + (pc 8 (x / 256 / 256 / 256 % 256) + (pc 8 (x / 256 / 256 / 256 / 256 % 256) + (pc 8 (x / 256 / 256 / 256 / 256 / 256 % 256) + (pc 8 (x / 256 / 256 / 256 / 256 / 256 / 256 % 256) + pc 8 (x / 256 / 256 / 256 / 256 / 256 / 256 / 256 % 256))))))) := by
    have h7 : pc 8 (x / 256 / 256 / 256 / 256 / 256 / 256 / 256) = pc 8 (x / 256 / 256 / 256 / 256 / 256 / 256 / 256 % 256) := pc_eight 0 _
    rw [pc_eight 56, pc_eight 48, pc_eight 40, pc_eight 32, pc_eight 24, pc_eight 16, pc_eight 8, h7]
  rw [f321_succ, f321_succ, f321_succ, f321_succ, f321_succ, f321_succ, f321_succ, f321_succ, hz0, Nat.mul_zero, Nat.add_zero] at hu'
  rw [hpc]
  clear hpc hz0 hu
  generalize pc 8 (x % 256) = q0 at *
  generalize pc 8 (x / 256 % 256) = q1 at *
  generalize pc 8 (x / 256 / 256 % 256) = q2 at *
  generalize pc 8 (x / 256 / 256 / 256 % 256) = q3 at *
  generalize pc 8 (x / 256 / 256 / 256 / 256 % 256) = q4 at *
  generalize pc 8 (x / 256 / 256 / 256 / 256 / 256 % 256) = q5 at *
  generalize pc 8 (x / 256 / 256 / 256 / 256 / 256 / 256 % 256) = q6 at *
  generalize pc 8 (x / 256 / 256 / 256 / 256 / 256 / 256 / 256 % 256) = q7 at *
  have u4 : u < 18446744073709551616 := by rw [hu']; omega
  have y4 : y < 18446744073709551616 := by rw [hy]; omega
  have z4 : z < 18446744073709551616 ∧ z / 16 + z < 18446744073709551616 := by rw [hz]; omega
  have e4 := tail4 q0 q1 q2 q3 q4 q5 q6 q7 p0
  rw [← hu', ← h4] at e4
  clear hu' h4 hy hz b1 b2 b3 b4
  have l4 : r4 < 18446744073709551616 := by rw [e4]; omega
  have e5 := tail5 (q0 + q1) (q1 + q2) ((q2 + q3) + 256 * (q3 + q4)) ((q4 + q5) + 256 * (q5 + q6)) ((q6 + q7) + 256 * q7) (by omega)
  rw [← e4, ← h5] at e5
  clear e4 h5
  have l5 : r5 < 18446744073709551616 := by rw [e5]; omega
  have e6 := tail6 (q0 + q1 + 256 * (q1 + q2) + (q2 + q3 + 256 * (q3 + q4))) (q2 + q3 + 256 * (q3 + q4) + (q4 + q5 + 256 * (q5 + q6))) (q4 + q5 + 256 * (q5 + q6) + (q6 + q7 + 256 * q7)) (q6 + q7 + 256 * q7) (by omega)
  rw [← e5, ← h6] at e6
  clear e5 h6
  have l6 : r6 < 9223372036854775808 := by rw [e6]; omega
  have e7 : r6 = (q0 + (q1 + (q2 + (q3 + (q4 + (q5 + (q6 + q7))))))) + 128 * (2 * ((q1 + q2 + q3 + q4 + q5 + q6 + q7) + 256 * ((q2 + q3 + q4 + q5 + q6 + q7) + 256 * (q3 + q4 + q5 + q6 + q7)) + 16777216 * ((q4 + q5 + q6 + q7) + 256 * (q5 + q6 + q7) + 65536 * ((q6 + q7) + 256 * q7)))) := by
    rw [e6]; clear e6 l6 l5 l4 z4 y4 u4 p0 p1 p2 p3 p4 p5 p6 p7; omega
  have m6 : r6 % 128 = q0 + (q1 + (q2 + (q3 + (q4 + (q5 + (q6 + q7)))))) := by
    rw [e7]; exact tailMod q0 q1 q2 q3 q4 q5 q6 q7 _ p0 p1 p2 p3 p4 p5 p6 p7
  exact ⟨y4, z4.1, z4.2, u4, l4, l5, l6, m6⟩
end Go.Proofs.YtcbhjhhajeeimaaGreat
/- Plain mathematics: a set of bytes as a number below 2^256, and its four words; bytes without case. No conditions. -/
namespace Go.Proofs.YtcbhjhhajeeimaaGreat
set_option maxRecDepth 100000

/-- The i-th word of 64 bits of a set. -/
def wd (N i : Nat) : Nat := N / 2 ^ (64 * i) % 2 ^ 64
theorem wd_lt (N i : Nat) : wd N i < 18446744073709551616 := Nat.mod_lt _ (by decide)
theorem wd_bit (N i j : Nat) : (wd N i).testBit j = (decide (j < 64) && N.testBit (64 * i + j)) := by
  unfold wd
  rw [Nat.testBit_mod_two_pow, Nat.testBit_div_two_pow, Nat.add_comm j]
theorem wd_or (N M i : Nat) : wd (N ||| M) i = wd N i ||| wd M i := by
  apply Nat.eq_of_testBit_eq
  intro j
  simp only [wd_bit, Nat.testBit_or]
  cases decide (j < 64) <;> simp
theorem wd_pow (c i : Nat) : wd (2 ^ c) i = if c / 64 = i then 2 ^ (c % 64) else 0 := by
  apply Nat.eq_of_testBit_eq
  intro j
  rw [wd_bit, Nat.testBit_two_pow]
  by_cases h : c / 64 = i
  · rw [if_pos h, Nat.testBit_two_pow]
    by_cases h1 : c % 64 = j
    · have : c = 64 * i + j := by omega
      have h2 : j < 64 := by omega
      simp [this, h2]
    · have : ¬ (j < 64 ∧ c = 64 * i + j) := by omega
      simp [h1]; intro hj hc; exact absurd ⟨hj, hc⟩ this
  · rw [if_neg h]
    simp only [Nat.zero_testBit, Bool.and_eq_false_iff, decide_eq_false_iff_not]
    omega
theorem wd_with (N c i : Nat) : wd (N ||| 2 ^ c) i = if c / 64 = i then wd N i ||| 2 ^ (c % 64) else wd N i := by
  rw [wd_or, wd_pow]
  split <;> simp
theorem and_pow_ne (a j : Nat) : (a &&& 2 ^ j != 0) = a.testBit j := by
  rw [Bool.eq_iff_iff]
  constructor
  · intro h
    cases hb : a.testBit j with
    | true => rfl
    | false =>
      have : a &&& 2 ^ j = 0 := by
        apply Nat.eq_of_testBit_eq
        intro i
        rw [Nat.testBit_and, Nat.testBit_two_pow, Nat.zero_testBit]
        by_cases e : j = i
        · subst e; simp [hb]
        · simp [e]
      rw [this] at h; simp at h
  · intro h
    have h1 : (a &&& 2 ^ j).testBit j = true := by rw [Nat.testBit_and, Nat.testBit_two_pow]; simp [h]
    simp only [bne_iff_ne, ne_eq]
    intro h0
    rw [h0] at h1
    simp at h1
theorem has_word (N c : Nat) : (wd N (c / 64) &&& 2 ^ (c % 64) != 0) = N.testBit c := by
  rw [and_pow_ne, wd_bit]
  have : 64 * (c / 64) + c % 64 = c := by omega
  rw [this]
  have h : c % 64 < 64 := by omega
  simp [h]
theorem wd_inj {N M : Nat} (hN : N < 2 ^ 256) (hM : M < 2 ^ 256) (h0 : wd N 0 = wd M 0) (h1 : wd N 1 = wd M 1) (h2 : wd N 2 = wd M 2) (h3 : wd N 3 = wd M 3) : N = M := by
  apply Nat.eq_of_testBit_eq
  intro c
  by_cases hc : c < 256
  · have hq : c / 64 = 0 ∨ c / 64 = 1 ∨ c / 64 = 2 ∨ c / 64 = 3 := by omega
    have e : ∀ K : Nat, K.testBit c = (wd K (c / 64)).testBit (c % 64) := by
      intro K
      rw [wd_bit]
      have : 64 * (c / 64) + c % 64 = c := by omega
      rw [this]
      have h : c % 64 < 64 := by omega
      simp [h]
    rw [e, e]
    rcases hq with h | h | h | h <;> rw [h]
    · rw [h0]
    · rw [h1]
    · rw [h2]
    · rw [h3]
  · have h : ∀ K, K < 2 ^ 256 → K.testBit c = false := fun K hK => Nat.testBit_lt_two_pow (Nat.lt_of_lt_of_le hK (Nat.pow_le_pow_right (by decide) (by omega)))
    rw [h N hN, h M hM]
/-- Four words are the words of a set. -/
theorem words_of (a b c d : Nat) (ha : a < 18446744073709551616) (hb : b < 18446744073709551616) (hc : c < 18446744073709551616) (hd : d < 18446744073709551616) :
    ∃ N, N < 2 ^ 256 ∧ wd N 0 = a ∧ wd N 1 = b ∧ wd N 2 = c ∧ wd N 3 = d := by
  refine ⟨a + 2 ^ 64 * (b + 2 ^ 64 * (c + 2 ^ 64 * d)), ?_, ?_, ?_, ?_, ?_⟩
  · omega
  · unfold wd; simp only [Nat.mul_zero, Nat.pow_zero, Nat.div_one]; omega
  · unfold wd; omega
  · unfold wd; omega
  · unfold wd; omega

/-- The set of some bytes. -/
def setOf (l : List UInt8) : Nat := l.foldl (fun N c => N ||| 2 ^ c.toNat) 0
theorem setOf_snoc (l : List UInt8) (c : UInt8) : setOf (l ++ [c]) = setOf l ||| 2 ^ c.toNat := by simp [setOf]
theorem foldl_bit (l : List UInt8) (N k : Nat) : (l.foldl (fun N c => N ||| 2 ^ c.toNat) N).testBit k = (N.testBit k || l.any (fun c => c.toNat == k)) := by
  induction l generalizing N with
  | nil => simp
  | cons c l ih => rw [List.foldl_cons, ih, Nat.testBit_or, Nat.testBit_two_pow, List.any_cons, Bool.or_assoc]; rfl
theorem setOf_bit (l : List UInt8) (k : Nat) : (setOf l).testBit k = l.any (fun c => c.toNat == k) := by simp [setOf, foldl_bit]
theorem with_lt {N c : Nat} (hN : N < 2 ^ 256) (hc : c < 256) : N ||| 2 ^ c < 2 ^ 256 := Nat.or_lt_two_pow hN (Nat.pow_lt_pow_right (by decide) hc)
theorem setOf_lt (l : List UInt8) : setOf l < 2 ^ 256 := by
  have h : ∀ (l : List UInt8) (N : Nat), N < 2 ^ 256 → l.foldl (fun N c => N ||| 2 ^ c.toNat) N < 2 ^ 256 := by
    intro l
    induction l with
    | nil => intro N h; exact h
    | cons c l ih => intro N h; exact ih _ (with_lt h c.toNat_lt)
  exact h l 0 (by decide)

/-- A byte without case. -/
def low (c : UInt8) : UInt8 := if 65 ≤ c.toNat ∧ c.toNat ≤ 90 then UInt8.ofNat (c.toNat + 32) else c
theorem low_nat (c : UInt8) : (low c).toNat = if 65 ≤ c.toNat ∧ c.toNat ≤ 90 then c.toNat + 32 else c.toNat := by
  unfold low
  split
  · rw [UInt8.toNat_ofNat']; omega
  · rfl
def lows (l : List UInt8) : List UInt8 := l.map low
/-- Is a byte one of words? -/
def isWord (n : Nat) : Bool := decide (65 ≤ n ∧ n ≤ 90 ∨ 97 ≤ n ∧ n ≤ 122 ∨ 48 ≤ n ∧ n ≤ 57 ∨ n = 95)
/-- Without case just if the sets are one. -/
theorem fixed_iff (l : List UInt8) : setOf (lows l) = setOf l ↔ lows l = l := by
  constructor
  · intro h
    have key : ∀ c ∈ l, low c = c := by
      intro c hc
      have h1 : (setOf l).testBit c.toNat = true := by
        rw [setOf_bit, List.any_eq_true]; exact ⟨c, hc, by simp⟩
      rw [← h, setOf_bit, List.any_eq_true] at h1
      obtain ⟨d, hd, he⟩ := h1
      simp only [lows, List.mem_map] at hd
      obtain ⟨b, _, rfl⟩ := hd
      have hb := low_nat b
      have e : (low b).toNat = c.toNat := by simpa using he
      have hn : ¬ (65 ≤ c.toNat ∧ c.toNat ≤ 90) := by
        rw [← e, hb]
        split <;> omega
      unfold low
      rw [if_neg hn]
    unfold lows
    exact (List.map_congr_left key).trans (List.map_id _)
  · intro h; rw [h]
end Go.Proofs.YtcbhjhhajeeimaaGreat
/- Contracts of package fold's functions on sets. -/
namespace Go.Proofs.YtcbhjhhajeeimaaGreat
open Go.RowKit
set_option maxRecDepth 100000

def setV (N : Nat) : Value := .agg #[.int .u64 (wd N 0), .int .u64 (wd N 1), .int .u64 (wd N 2), .int .u64 (wd N 3)]

theorem bit_any (c : Nat) (w : World) (hc : c < 256) :
    Calls Tryz.prog 103 #[.int .u8 c] w fun e w' => e = .returned (.int .u64 ((2 ^ (c % 64) : Nat) : Int)) ∧ w = w' := by
  go_enter Tryz.func103, Tryz.ntmps103
  go_wp2
  go_ret
  refine ⟨ret_int ?_, rfl⟩
  have h : 2 ^ (c % 64) < 2 ^ 64 := Nat.pow_lt_pow_right (by decide) (by omega)
  rw [IntKind.wrap_u64]
  have e : ((2 : Int) ^ (c % 64)) = ((2 ^ (c % 64) : Nat) : Int) := by simp
  rw [e]
  generalize 2 ^ (c % 64) = y at *
  omega

theorem bits_and_bit (N c i : Nat) (h : c / 64 = i) : (bits BinOp.and IntKind.u64 (wd N i : Int) (2 ^ (c % 64)) != 0) = N.testBit c := by
  have e : ((2 : Int) ^ (c % 64)) = ((2 ^ (c % 64) : Nat) : Int) := by simp
  have hp : 2 ^ (c % 64) < 2 ^ 64 := Nat.pow_lt_pow_right (by decide) (by omega)
  rw [e, u64_and_nat _ _ (wd_lt N i) hp, ← has_word N c, h]
  rw [Bool.eq_iff_iff]
  simp
theorem bits_or_bit (N c i : Nat) (h : c / 64 = i) : bits BinOp.or IntKind.u64 (wd N i : Int) (2 ^ (c % 64)) = (wd (N ||| 2 ^ c) i : Int) := by
  have e : ((2 : Int) ^ (c % 64)) = ((2 ^ (c % 64) : Nat) : Int) := by simp
  have hp : 2 ^ (c % 64) < 2 ^ 64 := Nat.pow_lt_pow_right (by decide) (by omega)
  rw [e, u64_or_nat _ _ (wd_lt N i) hp, wd_with, if_pos h]
theorem has_any (N c : Nat) (w : World) (hc : c < 256) :
    Calls Tryz.prog 90 #[setV N, .int .u8 c] w fun e w' => e = .returned (.bool (N.testBit c)) ∧ Below w.heap.size w w' := by
  unfold setV
  have hq : c / 64 = 0 ∨ c / 64 = 1 ∨ c / 64 = 2 ∨ c / 64 = 3 := by omega
  rcases hq with h | h | h | h
  · have hi : (c : Int) / 64 = 0 := by omega
    have hr : IntKind.u8.wrap 0 = 0 := by decide
    have H := Lib.hid (bits_and_bit N c _ h)
    clear h
    go_enter Tryz.func90, Tryz.ntmps90
    go_wp2
    go_quiet ((go_at_call 103; exact quietly (bit_any _ _ hc)))
    go_wp2
    go_ret
    exact ⟨ret_bool H.out, below_drews ((Below.refl _ _).alloc (Nat.le_refl _) _) _⟩
  · have hi : (c : Int) / 64 = 1 := by omega
    have hr : IntKind.u8.wrap 1 = 1 := by decide
    have H := Lib.hid (bits_and_bit N c _ h)
    clear h
    go_enter Tryz.func90, Tryz.ntmps90
    go_wp2
    go_quiet ((go_at_call 103; exact quietly (bit_any _ _ hc)))
    go_wp2
    go_ret
    exact ⟨ret_bool H.out, below_drews ((Below.refl _ _).alloc (Nat.le_refl _) _) _⟩
  · have hi : (c : Int) / 64 = 2 := by omega
    have hr : IntKind.u8.wrap 2 = 2 := by decide
    have H := Lib.hid (bits_and_bit N c _ h)
    clear h
    go_enter Tryz.func90, Tryz.ntmps90
    go_wp2
    go_quiet ((go_at_call 103; exact quietly (bit_any _ _ hc)))
    go_wp2
    go_ret
    exact ⟨ret_bool H.out, below_drews ((Below.refl _ _).alloc (Nat.le_refl _) _) _⟩
  · have hi : (c : Int) / 64 = 3 := by omega
    have hr : IntKind.u8.wrap 3 = 3 := by decide
    have H := Lib.hid (bits_and_bit N c _ h)
    clear h
    go_enter Tryz.func90, Tryz.ntmps90
    go_wp2
    go_quiet ((go_at_call 103; exact quietly (bit_any _ _ hc)))
    go_wp2
    go_ret
    exact ⟨ret_bool H.out, below_drews ((Below.refl _ _).alloc (Nat.le_refl _) _) _⟩

theorem with_val0 (N c : Nat) (h : c / 64 = 0) : Value.agg #[.int .u64 (bits BinOp.or IntKind.u64 (wd N 0 : Int) (2 ^ (c % 64))), .int .u64 (wd N 1), .int .u64 (wd N 2), .int .u64 (wd N 3)] = setV (N ||| 2 ^ c) := by
  have e : ∀ j, ¬ c / 64 = j → wd (N ||| 2 ^ c) j = wd N j := fun j hj => by rw [wd_with, if_neg hj]
  unfold setV
  rw [bits_or_bit N c _ h, e 1 (by omega), e 2 (by omega), e 3 (by omega)]
theorem with_val1 (N c : Nat) (h : c / 64 = 1) : Value.agg #[.int .u64 (wd N 0), .int .u64 (bits BinOp.or IntKind.u64 (wd N 1 : Int) (2 ^ (c % 64))), .int .u64 (wd N 2), .int .u64 (wd N 3)] = setV (N ||| 2 ^ c) := by
  have e : ∀ j, ¬ c / 64 = j → wd (N ||| 2 ^ c) j = wd N j := fun j hj => by rw [wd_with, if_neg hj]
  unfold setV
  rw [bits_or_bit N c _ h, e 0 (by omega), e 2 (by omega), e 3 (by omega)]
theorem with_val2 (N c : Nat) (h : c / 64 = 2) : Value.agg #[.int .u64 (wd N 0), .int .u64 (wd N 1), .int .u64 (bits BinOp.or IntKind.u64 (wd N 2 : Int) (2 ^ (c % 64))), .int .u64 (wd N 3)] = setV (N ||| 2 ^ c) := by
  have e : ∀ j, ¬ c / 64 = j → wd (N ||| 2 ^ c) j = wd N j := fun j hj => by rw [wd_with, if_neg hj]
  unfold setV
  rw [bits_or_bit N c _ h, e 0 (by omega), e 1 (by omega), e 3 (by omega)]
theorem with_val3 (N c : Nat) (h : c / 64 = 3) : Value.agg #[.int .u64 (wd N 0), .int .u64 (wd N 1), .int .u64 (wd N 2), .int .u64 (bits BinOp.or IntKind.u64 (wd N 3 : Int) (2 ^ (c % 64)))] = setV (N ||| 2 ^ c) := by
  have e : ∀ j, ¬ c / 64 = j → wd (N ||| 2 ^ c) j = wd N j := fun j hj => by rw [wd_with, if_neg hj]
  unfold setV
  rw [bits_or_bit N c _ h, e 0 (by omega), e 1 (by omega), e 2 (by omega)]

theorem setV_eq (N : Nat) : setV N = .agg #[.int .u64 (wd N 0), .int .u64 (wd N 1), .int .u64 (wd N 2), .int .u64 (wd N 3)] := rfl
set_option maxHeartbeats 1600000 in
theorem with_any (N c : Nat) (w : World) (hc : c < 256) :
    Calls Tryz.prog 102 #[setV N, .int .u8 c] w fun e w' => e = .returned (setV (N ||| 2 ^ c)) ∧ Below w.heap.size w w' := by
  rw [setV_eq N]
  have hq : c / 64 = 0 ∨ c / 64 = 1 ∨ c / 64 = 2 ∨ c / 64 = 3 := by omega
  rcases hq with h | h | h | h
  · have hi : (c : Int) / 64 = 0 := by omega
    have hr : IntKind.u8.wrap 0 = 0 := by decide
    have H := Lib.hid (with_val0 N c h)
    clear h
    go_enter Tryz.func102, Tryz.ntmps102
    go_wp2
    go_region_with (go_at_call 103; refine (bit_any _ _ hc).mono ?_; rintro e w' ⟨rfl, rfl⟩)
    all_goals
      go_wp2
      refine bodyPost_ret (v := .agg #[.int .u64 (bits BinOp.or IntKind.u64 (wd N 0 : Int) (2 ^ (c % 64))), .int .u64 (wd N 1), .int .u64 (wd N 2), .int .u64 (wd N 3)]) (by simp [results, Tryz.results102, go_sem]) rfl ⟨congrArg _ H.out, ?_⟩
      exact (((Below.refl _ _).alloc (Nat.le_refl _) _).alloc (by simp) _).drew
  · have hi : (c : Int) / 64 = 1 := by omega
    have hr : IntKind.u8.wrap 1 = 1 := by decide
    have H := Lib.hid (with_val1 N c h)
    clear h
    go_enter Tryz.func102, Tryz.ntmps102
    go_wp2
    go_region_with (go_at_call 103; refine (bit_any _ _ hc).mono ?_; rintro e w' ⟨rfl, rfl⟩)
    all_goals
      go_wp2
      refine bodyPost_ret (v := .agg #[.int .u64 (wd N 0), .int .u64 (bits BinOp.or IntKind.u64 (wd N 1 : Int) (2 ^ (c % 64))), .int .u64 (wd N 2), .int .u64 (wd N 3)]) (by simp [results, Tryz.results102, go_sem]) rfl ⟨congrArg _ H.out, ?_⟩
      exact (((Below.refl _ _).alloc (Nat.le_refl _) _).alloc (by simp) _).drew
  · have hi : (c : Int) / 64 = 2 := by omega
    have hr : IntKind.u8.wrap 2 = 2 := by decide
    have H := Lib.hid (with_val2 N c h)
    clear h
    go_enter Tryz.func102, Tryz.ntmps102
    go_wp2
    go_region_with (go_at_call 103; refine (bit_any _ _ hc).mono ?_; rintro e w' ⟨rfl, rfl⟩)
    all_goals
      go_wp2
      refine bodyPost_ret (v := .agg #[.int .u64 (wd N 0), .int .u64 (wd N 1), .int .u64 (bits BinOp.or IntKind.u64 (wd N 2 : Int) (2 ^ (c % 64))), .int .u64 (wd N 3)]) (by simp [results, Tryz.results102, go_sem]) rfl ⟨congrArg _ H.out, ?_⟩
      exact (((Below.refl _ _).alloc (Nat.le_refl _) _).alloc (by simp) _).drew
  · have hi : (c : Int) / 64 = 3 := by omega
    have hr : IntKind.u8.wrap 3 = 3 := by decide
    have H := Lib.hid (with_val3 N c h)
    clear h
    go_enter Tryz.func102, Tryz.ntmps102
    go_wp2
    go_region_with (go_at_call 103; refine (bit_any _ _ hc).mono ?_; rintro e w' ⟨rfl, rfl⟩)
    all_goals
      go_wp2
      refine bodyPost_ret (v := .agg #[.int .u64 (wd N 0), .int .u64 (wd N 1), .int .u64 (wd N 2), .int .u64 (bits BinOp.or IntKind.u64 (wd N 3 : Int) (2 ^ (c % 64)))]) (by simp [results, Tryz.results102, go_sem]) rfl ⟨congrArg _ H.out, ?_⟩
      exact (((Below.refl _ _).alloc (Nat.le_refl _) _).alloc (by simp) _).drew

theorem and127 (n : Nat) (h : n < 9223372036854775808) : bits BinOp.and IntKind.i64 (n : Int) 127 = ((n % 128 : Nat) : Int) := by
  show IntKind.i64.wrap ((BitVec.ofInt 64 (n : Int) &&& BitVec.ofInt 64 (127 : Int)).toNat : Int) = _
  have e1 : (BitVec.ofInt 64 (n : Int)).toNat = n := by
    rw [BitVec.ofInt_natCast, BitVec.toNat_ofNat]; exact Nat.mod_eq_of_lt (by omega)
  have e2 : (BitVec.ofInt 64 (127 : Int)).toNat = 127 := by decide
  rw [BitVec.toNat_and, e1, e2, nat_mask7, IntKind.wrap_i64]
  omega
end Go.Proofs.YtcbhjhhajeeimaaGreat
/- Contracts of fold.Set's Union and Len. -/
namespace Go.Proofs.YtcbhjhhajeeimaaGreat
open Go.RowKit
set_option maxRecDepth 100000

set_option maxHeartbeats 4000000 in
theorem union_any (N M : Nat) (w : World) :
    Calls Tryz.prog 88 #[setV N, setV M] w fun e w' => e = .returned (setV (N ||| M)) ∧ Below w.heap.size w w' := by
  rw [setV_eq N, setV_eq M]
  have o : ∀ i, bits BinOp.or IntKind.u64 (wd N i : Int) (wd M i : Int) = (wd (N ||| M) i : Int) := fun i => by
    rw [u64_or_nat _ _ (wd_lt N i) (wd_lt M i), wd_or]
  have o0 := o 0
  have o1 := o 1
  have o2 := o 2
  have o3 := o 3
  clear o
  go_enter Tryz.func88, Tryz.ntmps88
  go_wp2
  refine wp_loop_rounds 5 ?_
  rw [rounds_succ]
  go_wp2
  go_region
  go_wp2
  rw [rounds_succ]
  go_wp2
  go_region
  go_wp2
  rw [rounds_succ]
  go_wp2
  go_region
  go_wp2
  rw [rounds_succ]
  go_wp2
  go_region
  go_wp2
  rw [rounds_succ]
  go_wp2
  refine bodyPost_ret (v := setV (N ||| M)) (by simp [results, Tryz.results88, go_sem, setV]) rfl ⟨rfl, ?_⟩
  exact (((((((Below.refl _ _).alloc (Nat.le_refl _) _).alloc (by simp) _).alloc (by simp; omega) _).drew).drew).drew).drew
end Go.Proofs.YtcbhjhhajeeimaaGreat
/- Contracts of fold.Of, Bytes, Fixed, List. -/
namespace Go.Proofs.YtcbhjhhajeeimaaGreat
open Go.RowKit
set_option maxRecDepth 100000

theorem Bs.drew {w : World} {B : Nat} {a : Option Addr} {l : List UInt8} (h : Bs w B a l) : Bs w.drew B a l := h
/-- A block of four words that is known whole. -/
def Blk4 (w : World) (g N : Nat) : Prop := w.heap[g]? = some (.cells #[.int .u64 (wd N 0), .int .u64 (wd N 1), .int .u64 (wd N 2), .int .u64 (wd N 3)] 150 (0, 0))
theorem Blk4.lt {w : World} {g N : Nat} (h : Blk4 w g N) : g < w.heap.size := by
  rcases Nat.lt_or_ge g w.heap.size with hlt | hge
  · exact hlt
  · unfold Blk4 at h; rw [Array.getElem?_eq_none hge] at h; cases h
theorem Blk4.keep {w w' : World} {B g N : Nat} (h : Blk4 w g N) (hb : Below B w w') (hg : g < B) : Blk4 w' g N := (hb.block g hg).trans h
theorem Blk4.cells {w : World} {g N : Nat} (h : Blk4 w g N) : w.cell? ⟨g, 0, none⟩ = some (.int .u64 (wd N 0)) ∧ w.cell? ⟨g, 1, none⟩ = some (.int .u64 (wd N 1)) ∧ w.cell? ⟨g, 2, none⟩ = some (.int .u64 (wd N 2)) ∧ w.cell? ⟨g, 3, none⟩ = some (.int .u64 (wd N 3)) := by
  unfold Blk4 at h
  refine ⟨?_, ?_, ?_, ?_⟩ <;> (rw [cell_of_row w g _ _ 150 (0, 0) h]; rfl)
theorem Blk4.free {w : World} {g N : Nat} (h : Blk4 w g N) : w.frozen? ⟨g, 0, none⟩ = false ∧ w.frozen? ⟨g, 1, none⟩ = false ∧ w.frozen? ⟨g, 2, none⟩ = false ∧ w.frozen? ⟨g, 3, none⟩ = false := by
  unfold Blk4 at h
  refine ⟨?_, ?_, ?_, ?_⟩ <;> simp [World.frozen?, h]

/-- Four words stored. -/
def put4 (w : World) (g M : Nat) : World :=
  (((w.setCell ⟨g, 0, none⟩ (.int .u64 (wd M 0))).setCell ⟨g, 1, none⟩ (.int .u64 (wd M 1))).setCell ⟨g, 2, none⟩ (.int .u64 (wd M 2))).setCell ⟨g, 3, none⟩ (.int .u64 (wd M 3))
theorem Blk4.put {w : World} {g N : Nat} (h : Blk4 w g N) (M : Nat) : Blk4 (put4 w g M) g M := by
  unfold Blk4 at h ⊢
  unfold put4
  rw [heap_set_same (heap_set_same (heap_set_same (heap_set_same h)))]
  rfl
theorem below_put4 {B : Nat} {a w : World} (h : Below B a w) {g : Nat} (hg : B ≤ g) (M : Nat) : Below B a (put4 w g M) :=
  (((h.setCell (p := ⟨g, 0, none⟩) hg _).setCell (p := ⟨g, 1, none⟩) hg _).setCell (p := ⟨g, 2, none⟩) hg _).setCell (p := ⟨g, 3, none⟩) hg _
theorem Blk4.far {w : World} {g g' N : Nat} (h : Blk4 w g N) (hne : g < g') (M : Nat) : Blk4 (put4 w g' M) g N :=
  h.keep (B := g') (below_put4 (Below.refl _ _) (Nat.le_refl _) M) hne
theorem Blk4.new (w : World) : Blk4 (w.alloc (.cells #[.int .u64 0, .int .u64 0, .int .u64 0, .int .u64 0] 150)) w.heap.size 0 := heap_alloc_new w _

set_option maxHeartbeats 4000000 in
theorem of_any (l : List UInt8) (a : Option Addr) (cap : Nat) (w : World) (hl : l.length ≤ 1000000000000) (hb : Bs w w.heap.size a l) :
    Calls Tryz.prog 89 #[.slice a l.length cap] w fun e w' => e = .returned (setV (setOf l)) ∧ Below w.heap.size w w' := by
  go_enter Tryz.func89, Tryz.ntmps89
  go_wp2
  go_loopw [8] (fun i wr => ∃ k : Nat, k ≤ l.length ∧ i = .int .i64 k ∧ Blk4 wr w.heap.size 0 ∧ Blk4 wr (w.heap.size + 1) (setOf (l.take k)) ∧ Below w.heap.size w wr)
    (fun i _ => l.length - (intOf i).toNat)
  case atStart => 
    refine ⟨0, Nat.zero_le _, rfl, ?_, ?_, ?_⟩
    · exact (Blk4.new w).keep (B := w.heap.size + 1) ((Below.refl _ _).alloc (by simp) _) (by omega)
    · have h := Blk4.new (w.alloc (.cells #[.int .u64 0, .int .u64 0, .int .u64 0, .int .u64 0] 150))
      have h0 : setOf (l.take 0) = 0 := by simp [setOf]
      rw [h0]
      simpa using h
    · exact ((Below.refl _ _).alloc (Nat.le_refl _) _).alloc (by simp) _
  case round =>
    obtain ⟨k, hk, rfl, hr, hs, hbel⟩ := hrel
    obtain ⟨c0, c1, c2, c3⟩ := hs.cells
    by_cases hlt : k < l.length
    · obtain ⟨b, off, rfl, hbl, hc⟩ := hb (by omega)
      have hck : wr.cell? ⟨b, off + k, none⟩ = some (.int .u8 (l[k].toNat : Int)) := (hbel.cell (p := ⟨b, off + k, none⟩) hbl).trans (hc k hlt)
      have HC := Lib.hid hc
      clear hc
      go_wp2_with (go_at_call 102; refine (with_any _ _ _ (UInt8.toNat_lt _)).mono ?_; rintro e w1 ⟨rfl, hw1⟩; rw [setV_eq]; obtain ⟨f0, f1, f2, f3⟩ := (hs.keep hw1 hs.lt).free; obtain ⟨d0, d1, d2, d3⟩ := (hs.keep hw1 hs.lt).cells)
      go_roundw
      case rel =>
        have hz := hs.lt
        have e : setOf (l.take (k + 1)) = setOf (l.take k) ||| 2 ^ l[k].toNat := by rw [take_snoc l k hlt, setOf_snoc]
        refine ⟨k + 1, by omega, by go_num, ?_, ?_, ?_⟩
        · exact (hr.keep hw1 hr.lt).far (by omega) _
        · rw [e]; exact (hs.keep hw1 hs.lt).put _
        · exact below_put4 (hbel.trans (hw1.mono hbel.size)) (by omega) _
      case measure => simp [intOf]; omega
    · obtain ⟨f0, f1, f2, f3⟩ := hr.free
      obtain ⟨d0, d1, d2, d3⟩ := hr.cells
      go_wp2
      refine bodyPost_ret (v := setV (setOf (l.take k))) ?_ rfl ⟨?_, below_put4 hbel (Nat.le_refl _) _⟩
      · obtain ⟨e0, e1, e2, e3⟩ := (hr.put (setOf (l.take k))).cells
        unfold put4 at e0 e1 e2 e3
        simp [results, Tryz.results89, go_sem, setV, e0, e1, e2, e3]
      · rw [List.take_of_length_le (by omega)]
end Go.Proofs.YtcbhjhhajeeimaaGreat
/- Contracts of fold.Bytes and Fixed. -/
namespace Go.Proofs.YtcbhjhhajeeimaaGreat
open Go.RowKit
set_option maxRecDepth 100000

/-- A call that hands out a slice of bytes that reads as l, and leaves what was there as it was. -/
def GivesBytes (w : World) (l : List UInt8) (e : Ending) (w' : World) : Prop :=
  ∃ a cap, e = .returned (.slice a l.length cap) ∧ Bs w' w'.heap.size a l ∧ Below w.heap.size w w'

/-- A block of bytes whose first k cells are those of l. -/
def RowTo (w : World) (g n k : Nat) (l : List UInt8) : Prop :=
  ∃ cs : Array Value, w.heap[g]? = some (.cells cs 5 (0, 0)) ∧ cs.size = n ∧ ∀ i, i < k → ∀ h : i < l.length, cs[i]? = some (.int .u8 (l[i].toNat : Int))
theorem RowTo.at_ {w : World} {g n k i : Nat} {l : List UInt8} (h : RowTo w g n k l) (hi : i < n) : (∃ v, w.cell? ⟨g, i, none⟩ = some v) ∧ w.frozen? ⟨g, i, none⟩ = false := by
  obtain ⟨cs, hh, hs, _⟩ := h
  refine ⟨⟨cs[i]'(by omega), ?_⟩, ?_⟩
  · rw [cell_of_row w g _ _ 5 (0, 0) hh]
    exact Array.getElem?_eq_getElem _
  · simp [World.frozen?, hh]
theorem RowTo.put {w : World} {g n k : Nat} {l : List UInt8} (h : RowTo w g n k l) (hk : k < l.length) (hn : k < n) : RowTo (w.setCell ⟨g, k, none⟩ (.int .u8 (l[k].toNat : Int))) g n (k + 1) l := by
  obtain ⟨cs, hh, hs, hc⟩ := h
  refine ⟨_, heap_set_same hh, by simpa using hs, fun i hi hl => ?_⟩
  by_cases e : i = k
  · subst e; rw [Array.getElem?_setIfInBounds_self_of_lt (by omega)]
  · rw [Array.getElem?_setIfInBounds_ne (by omega)]; exact hc i (by omega) hl
theorem RowTo.keep {w w' : World} {B g n k : Nat} {l : List UInt8} (h : RowTo w g n k l) (hb : Below B w w') (hg : g < B) : RowTo w' g n k l := by
  obtain ⟨cs, hh, hs, hc⟩ := h
  exact ⟨cs, (hb.block g hg).trans hh, hs, hc⟩
theorem RowTo.lt {w : World} {g n k : Nat} {l : List UInt8} (h : RowTo w g n k l) : g < w.heap.size := by
  obtain ⟨cs, hh, _⟩ := h
  rcases Nat.lt_or_ge g w.heap.size with hlt | hge
  · exact hlt
  · rw [Array.getElem?_eq_none hge] at hh; cases hh
theorem RowTo.bs {w : World} {g n : Nat} {l : List UInt8} (h : RowTo w g n l.length l) : Bs w w.heap.size (some ⟨g, 0, none⟩) l := fun _ => by
  refine ⟨g, 0, rfl, h.lt, fun i hi => ?_⟩
  obtain ⟨cs, hh, _, hc⟩ := h
  rw [Nat.zero_add, cell_of_row w g _ _ 5 (0, 0) hh]
  exact hc i hi hi

theorem und31 : Tryz.prog.underlying 150 = some (.array 4 148) := by kernel_rfl
theorem und29 : Tryz.prog.underlying 148 = some (.int .u64) := by kernel_rfl
theorem plain29 : Tryz.prog.plainKey 148 = true := by kernel_rfl
theorem cells29 : Tryz.prog.cellsOf 148 = 1 := by kernel_rfl
theorem some29 : (Tryz.prog.info? 148).isSome = true := by kernel_rfl
theorem info29 : ∃ i, Tryz.prog.info? 148 = some i := Option.isSome_iff_exists.1 some29
theorem beq_sets {N M : Nat} (hN : N < 2 ^ 256) (hM : M < 2 ^ 256) :
    (N == M) = (((wd N 0 : Int) == (wd M 0 : Int)) && (((wd N 1 : Int) == (wd M 1 : Int)) && (((wd N 2 : Int) == (wd M 2 : Int)) && ((wd N 3 : Int) == (wd M 3 : Int))))) := by
  rw [Bool.eq_iff_iff]
  simp only [beq_iff_eq, Bool.and_eq_true]
  constructor
  · rintro rfl; exact ⟨rfl, rfl, rfl, rfl⟩
  · rintro ⟨h0, h1, h2, h3⟩
    exact wd_inj hN hM (by omega) (by omega) (by omega) (by omega)
theorem equal_sets {N M : Nat} (hN : N < 2 ^ 256) (hM : M < 2 ^ 256) (w : World) (d : Nat) :
    (Op.equalIn (d + 2) 150 (setV N) (setV M)).run Tryz.prog w = .ok (N == M) w := by
  obtain ⟨i, hi⟩ := info29
  unfold setV
  rw [run_equalIn_array w (d + 1) _ _ und31 hi, beq_sets hN hM, cells29]
  have e : List.range 4 = [0, 1, 2, 3] := rfl
  rw [e]
  have q : ∀ a b : Int, (Op.equalIn (d + 1) 148 (.int .u64 a) (.int .u64 b)).run Tryz.prog w = .ok (a == b) w := fun a b => run_equalIn_int w d 148 .u64 .u64 a b und29
  have p : ∀ (xs : Array Value) (j : Nat) (v : Value), xs[j]? = some v → (part 148 xs j).run Tryz.prog w = .ok v w := fun xs j v h => run_part_plain w plain29 h
  simp only [Op.eqItems, Sem.run_bind, Nat.mul_one]
  rw [p _ 0 (.int .u64 (wd N 0)) rfl, Result.andThen_ok, p _ 0 (.int .u64 (wd M 0)) rfl, Result.andThen_ok, q, Result.andThen_ok]
  cases h0 : ((wd N 0 : Int) == (wd M 0 : Int))
  · simp
  simp only [Bool.not_true, Bool.false_eq_true, if_false, Sem.run_bind, Bool.true_and]
  rw [p _ 1 (.int .u64 (wd N 1)) rfl, Result.andThen_ok, p _ 1 (.int .u64 (wd M 1)) rfl, Result.andThen_ok, q, Result.andThen_ok]
  cases h1 : ((wd N 1 : Int) == (wd M 1 : Int))
  · simp
  simp only [Bool.not_true, Bool.false_eq_true, if_false, Sem.run_bind, Bool.true_and]
  rw [p _ 2 (.int .u64 (wd N 2)) rfl, Result.andThen_ok, p _ 2 (.int .u64 (wd M 2)) rfl, Result.andThen_ok, q, Result.andThen_ok]
  cases h2 : ((wd N 2 : Int) == (wd M 2 : Int))
  · simp
  simp only [Bool.not_true, Bool.false_eq_true, if_false, Sem.run_bind, Bool.true_and]
  rw [p _ 3 (.int .u64 (wd N 3)) rfl, Result.andThen_ok, p _ 3 (.int .u64 (wd M 3)) rfl, Result.andThen_ok, q, Result.andThen_ok]
  cases h3 : ((wd N 3 : Int) == (wd M 3 : Int)) <;> simp
theorem eql_sets {N M : Nat} (hN : N < 2 ^ 256) (hM : M < 2 ^ 256) (w : World) :
    (binOp .eql 150 (setV N) (setV M)).run Tryz.prog w = .ok (.bool (N == M)) w := by
  have h := equal_sets hN hM w 9998
  unfold setV at h ⊢
  rw [run_eql_struct, h]; rfl
theorem neq_sets {N M : Nat} (hN : N < 2 ^ 256) (hM : M < 2 ^ 256) (w : World) :
    (binOp .neq 150 (setV N) (setV M)).run Tryz.prog w = .ok (.bool (!(N == M))) w := by
  have h := equal_sets hN hM w 9998
  unfold setV at h ⊢
  rw [run_neq_struct, h]; rfl

theorem guard_sets (op : BinOp) (x y : Operand) (N M : Nat) (w : World) : (eqGuard op 150 x y (setV N) (setV M)).run Tryz.prog w = .ok () w :=
  run_eqGuard_agg w op 150 x y _ _ Tryz.eqGuardType150
theorem fixed_beq (l : List UInt8) : (setOf (lows l) == setOf l) = (lows l == l) := by
  rw [Bool.eq_iff_iff, beq_iff_eq, beq_iff_eq]; exact fixed_iff l
end Go.Proofs.YtcbhjhhajeeimaaGreat
/- Contracts of fold.Word, the reference's Byte and Word, and the examples of the document. -/
namespace Go.Proofs.YtcbhjhhajeeimaaGreat
open Go.RowKit
set_option maxRecDepth 100000

theorem word_of (n m : Nat) (hl : n < 256) (h : m = if 65 ≤ n ∧ n ≤ 90 then n + 32 else n) :
    isWord n = (decide (97 ≤ (m : Int) ∧ (m : Int) ≤ 122) || (decide (48 ≤ (n : Int) ∧ (n : Int) ≤ 57) || decide ((n : Int) = 95))) := by
  unfold isWord
  rw [Bool.eq_iff_iff]
  simp only [decide_eq_true_eq, Bool.or_eq_true]
  split at h <;> omega
theorem rword_of (n : Nat) : isWord n = ((decide (65 ≤ (n : Int) ∧ (n : Int) ≤ 90)) || (decide (97 ≤ (n : Int) ∧ (n : Int) ≤ 122)) || (decide (48 ≤ (n : Int) ∧ (n : Int) ≤ 57) || decide ((n : Int) = 95))) := by
  unfold isWord
  rw [Bool.eq_iff_iff]
  simp only [decide_eq_true_eq, Bool.or_eq_true]
  omega
end Go.Proofs.YtcbhjhhajeeimaaGreat
/- The document's examples: true in whatever world. -/
namespace Go.Proofs.YtcbhjhhajeeimaaGreat
open Go.RowKit
set_option maxRecDepth 100000

theorem Blk4.made (w : World) (N : Nat) : Blk4 (w.alloc (.cells #[.int .u64 (wd N 0), .int .u64 (wd N 1), .int .u64 (wd N 2), .int .u64 (wd N 3)] 150)) w.heap.size N := heap_alloc_new w _
theorem ex_eq (w : World) : (binOp .eql 150 (setV (setOf [0, 64, 65])) (.agg #[.int .u64 1, .int .u64 3, .int .u64 0, .int .u64 0])).run Tryz.prog w = .ok (.bool true) w := by
  have e : Value.agg #[.int .u64 1, .int .u64 3, .int .u64 0, .int .u64 0] = setV 55340232221128654849 := by
    unfold setV
    have e0 : wd 55340232221128654849 0 = 1 := by decide
    have e1 : wd 55340232221128654849 1 = 3 := by decide
    have e2 : wd 55340232221128654849 2 = 0 := by decide
    have e3 : wd 55340232221128654849 3 = 0 := by decide
    rw [e0, e1, e2, e3]
    rfl
  rw [e, eql_sets (setOf_lt _) (by decide) w]
  have h : (setOf [0, 64, 65] == 55340232221128654849) = true := by decide
  rw [h]
theorem ex_len : pc 64 (wd (setOf [0, 64, 65]) 0) + pc 64 (wd (setOf [0, 64, 65]) 1) + pc 64 (wd (setOf [0, 64, 65]) 2) + pc 64 (wd (setOf [0, 64, 65]) 3) = 3 := by decide
theorem ex_65 : (setOf [0, 64, 65]).testBit 65 = true := by decide
theorem ex_66 : (setOf [0, 64, 65]).testBit 66 = false := by decide

theorem const_at (w : World) (g : Nat) (hg : g = w.heap.size) (C : Array Value) (n c : Nat) :
    (convert 23 23 (.slice (some ⟨g, 0, none⟩) n c)).run Tryz.prog (w.alloc (.cells C 5)) = .ok (.slice (some ⟨g, 0, none⟩) n c) (w.alloc (.cells C 5 (C.size, C.size + 1))) := by
  subst hg
  exact Lib.run_convert_bytes_const w 23 5 C n c und22 und5
theorem bs_lit_at (w : World) (g : Nat) (l : List UInt8) (fr : Nat × Nat) (cs : Array Value) (hg : g = w.heap.size) (hcs : cs = (l.map fun c => Value.int .u8 (c.toNat : Int)).toArray) :
    Bs (w.alloc (.cells cs 5 fr)) (w.alloc (.cells cs 5 fr)).heap.size (some ⟨g, 0, none⟩) l := by
  subst hg
  exact bs_lit w l fr cs hcs

end Go.Proofs.YtcbhjhhajeeimaaGreat
/- Contracts of the reference's Bytes, In and List. -/
namespace Go.Proofs.YtcbhjhhajeeimaaGreat
open Go.RowKit
set_option maxRecDepth 100000

theorem str_list (l : List UInt8) : (str l).toList = l := by rw [ByteArray.toList_eq]; rfl
theorem str_add (a b : List UInt8) : str a ++ str b = str (a ++ b) := by
  apply ByteArray.ext
  simp [str]
theorem lows_snoc (l : List UInt8) (k : Nat) (h : k < l.length) : lows (l.take (k + 1)) = lows (l.take k) ++ [low l[k]] := by
  unfold lows
  rw [take_snoc l k h, List.map_append]
  rfl

theorem any_take_succ (l : List UInt8) (k c : Nat) (h : k < l.length) : (l.take (k + 1)).any (fun x => x.toNat == c) = ((l.take k).any (fun x => x.toNat == c) || l[k].toNat == c) := by
  rw [take_snoc l k h, List.any_append]
  simp only [List.any_cons, List.any_nil, Bool.or_false]
theorem any_of_at (l : List UInt8) (k c : Nat) (h : k < l.length) (e : l[k].toNat = c) : l.any (fun x => x.toNat == c) = true := by
  rw [List.any_eq_true]; exact ⟨l[k], List.getElem_mem h, by simp [e]⟩
/-- A set's bytes below k, rising. -/
def listTo (N k : Nat) : List UInt8 := ((List.range k).filter (fun i => N.testBit i)).map UInt8.ofNat
theorem listTo_yes (N k : Nat) (h : N.testBit k = true) : listTo N (k + 1) = listTo N k ++ [UInt8.ofNat k] := by
  unfold listTo; rw [List.range_succ, List.filter_append]; simp [h]
theorem listTo_no (N k : Nat) (h : N.testBit k = false) : listTo N (k + 1) = listTo N k := by
  unfold listTo; rw [List.range_succ, List.filter_append]; simp [h]
theorem listTo_le (N k : Nat) : (listTo N k).length ≤ k := by
  unfold listTo; rw [List.length_map]; exact Nat.le_trans (List.length_filter_le _ _) (by simp)
theorem nat_u8 (k : Nat) (h : k < 256) : (UInt8.ofNat k).toNat = k := by rw [UInt8.toNat_ofNat']; omega

end Go.Proofs.YtcbhjhhajeeimaaGreat
/- The contract of fold.Set's List. -/
namespace Go.Proofs.YtcbhjhhajeeimaaGreat
open Go.RowKit
set_option maxRecDepth 100000

/-- What a slice of the call's own reads as. -/
theorem own_bs {w : World} {base n : Nat} {v : Value} {l : List UInt8} (h : w.ownsRow base 5 1 v n (vals l)) : ∃ a cap, v = .slice a l.length cap ∧ Bs w w.heap.size a l := by
  have hn : l.length = n := by have := h.1; simpa [vals] using this
  rcases h.2 with ⟨rfl, h0⟩ | ⟨g, cap, cur, rfl, _, hh, _, _, hs, ht⟩
  · refine ⟨none, 0, by rw [hn, h0], fun h1 => by omega⟩
  · refine ⟨some ⟨g, 0, none⟩, cap, by rw [hn], fun _ => ⟨g, 0, rfl, ?_, fun i hi => ?_⟩⟩
    · rcases Nat.lt_or_ge g w.heap.size with hlt | hge
      · exact hlt
      · rw [Array.getElem?_eq_none hge] at hh; cases hh
    · rw [Nat.zero_add, cell_of_row w g _ _ 5 (0, 0) hh]
      have e : (cur.toList.take (n * 1))[i]? = (vals l)[i]? := by rw [ht]
      rw [List.getElem?_take_of_lt (by omega)] at e
      rw [← Array.getElem?_toList, e]
      simp [vals, hi]

set_option maxRecDepth 100000 in
set_option maxHeartbeats 4000000 in
theorem list_any (N : Nat) (w : World) :
    Calls Tryz.prog 68 #[setV N] w (GivesBytes w (listTo N 256)) := by
  rw [setV_eq N]
  obtain ⟨i0, hi, hz0, hz1, hz2⟩ := info_parts info5
  go_enter Tryz.func68, Tryz.ntmps68
  go_wp2
  go_loopw [3, 5] (fun v i wr => ∃ k : Nat, k ≤ 256 ∧ i = .int .i64 k ∧ wr.ownsRow (w.heap.size + 1) 5 1 v (listTo N k).length (vals (listTo N k)) ∧ Blk4 wr w.heap.size N ∧ Below w.heap.size w wr)
    (fun _ i _ => 256 - (intOf i).toNat)
  case atStart => exact ⟨0, Nat.zero_le _, rfl, World.ownsRow_nil _ _ _ _, Blk4.made w N, (Below.refl _ _).alloc (Nat.le_refl _) _⟩
  case round =>
    obtain ⟨k, hk, rfl, hown, hs, hbel⟩ := hrel
    obtain ⟨c0, c1, c2, c3⟩ := hs.cells
    by_cases hlt : k < 256
    · have hle := listTo_le N k
      cases hb : N.testBit k with
      | true =>
        have HB := Lib.hid hb
        go_wp2_with (first
          | (go_at_call 90; refine (has_any N k _ hlt).mono ?_; rintro e w1 ⟨rfl, hw1⟩)
          | (at_builtin; refine wpList_append_own _ rfl _ _ 23 rfl (w.heap.size + 1) 5 i0 (.int .u8 0) 1 1 Tryz.underlying23 hi hz0 hz1 hz2 rfl (by decide) _ _ _ rfl ((own_keep hown hw1).alloc _) ⟨w1.heap.size, 0, none⟩ 1 1 [.int .u8 (k : Int)] rfl rfl ?c1 ?c2 ?c3 ?c4 ?c5 ?_))
        case c1 =>
          intro j u hj
          match j, hj with
          | 0, hj => simp at hj; subst hj; simp [Addr.add]
        case c2 => intro u hu; simp at hu; subst hu; rfl
        case c3 => unfold maxLen; omega
        case c4 => omega
        case c5 => have := hs.lt; have := hw1.size; simp; omega
        intro v2 w2 hown2 hgrow _
        have hz := hs.lt
        have hz1 := hw1.size
        have hge := fun g => own_ge hown (g := g)
        have R1 : w2.ownsRow (w.heap.size + 1) 5 1 v2 (listTo N (k + 1)).length (vals (listTo N (k + 1))) := by
          rw [listTo_yes _ _ HB.out, List.length_append]
          have e : vals (listTo N k ++ [UInt8.ofNat k]) = vals (listTo N k) ++ [.int .u8 (k : Int)] := by simp [vals, nat_u8 k hlt]
          rw [e]
          exact hown2
        have R2 : Blk4 w2 w.heap.size N := by
          have h1 : Blk4 (w1.alloc (.cells #[.int .u8 (k : Int)] 5)) w.heap.size N := (hs.keep hw1 hs.lt).keep (B := w1.heap.size) ((Below.refl _ _).alloc (Nat.le_refl _) _) (by omega)
          exact (hgrow.block w.heap.size h1.lt (fun e => by have := hge _ e.symm; omega)).trans h1
        have R3 : Below w.heap.size w w2 := ((hbel.trans (hw1.mono hbel.size)).alloc (by omega) _).grown hgrow (by simp; omega) (fun g e => by have := hge g e; omega)
        clear hown2 hgrow hown hge
        go_wp2
        go_roundw
        case rel => exact ⟨k + 1, by omega, by go_num, R1, R2, R3⟩
        case measure => simp [intOf]; omega
      | false =>
        have HB := Lib.hid hb
        go_wp2_with (go_at_call 90; refine (has_any N k _ hlt).mono ?_; rintro e w1 ⟨rfl, hw1⟩)
        go_roundw
        case rel => exact ⟨k + 1, by omega, by go_num, by rw [listTo_no _ _ HB.out]; exact own_keep hown hw1, hs.keep hw1 hs.lt, hbel.trans (hw1.mono hbel.size)⟩
        case measure => simp [intOf]; omega
    · have e : k = 256 := by omega
      subst e
      go_wp2
      go_ret
      obtain ⟨a, cap, rfl, hbs⟩ := own_bs hown
      exact ⟨a, cap, rfl, hbs, hbel⟩
end Go.Proofs.YtcbhjhhajeeimaaGreat
