/- Plain mathematics: a set of bytes as a number below 2^256, and its four words; bytes without case. No conditions. -/
import Derived.Test.YtlepabeibniabaaPop
namespace Go.Proofs.Ytlepabeibniabaa
set_option maxRecDepth 100000

/-- The i-th word of 64 bits of a set. -/
def wd (N i : Nat) : Nat := N / 2 ^ (64 * i) % 2 ^ 64
theorem wd_lt (N i : Nat) : wd N i < 18446744073709551616 := Nat.mod_lt _ (by decide)
theorem wd_bit (N i j : Nat) : (wd N i).testBit j = (decide (j < 64) && N.testBit (64 * i + j)) := by
  unfold wd
  rw [Nat.testBit_mod_two_pow, Nat.testBit_div_two_pow, Nat.add_comm j]
theorem wd_or (N M i : Nat) : wd (N ||| M) i = wd N i ||| wd M i := by
  apply Nat.eq_of_testBit_eq
  intro j
  simp only [wd_bit, Nat.testBit_or]
  cases decide (j < 64) <;> simp
theorem wd_pow (c i : Nat) : wd (2 ^ c) i = if c / 64 = i then 2 ^ (c % 64) else 0 := by
  apply Nat.eq_of_testBit_eq
  intro j
  rw [wd_bit, Nat.testBit_two_pow]
  by_cases h : c / 64 = i
  · rw [if_pos h, Nat.testBit_two_pow]
    by_cases h1 : c % 64 = j
    · have : c = 64 * i + j := by omega
      have h2 : j < 64 := by omega
      simp [this, h2]
    · have : ¬ (j < 64 ∧ c = 64 * i + j) := by omega
      simp [h1]; intro hj hc; exact absurd ⟨hj, hc⟩ this
  · rw [if_neg h]
    simp only [Nat.zero_testBit, Bool.and_eq_false_iff, decide_eq_false_iff_not]
    omega
theorem wd_with (N c i : Nat) : wd (N ||| 2 ^ c) i = if c / 64 = i then wd N i ||| 2 ^ (c % 64) else wd N i := by
  rw [wd_or, wd_pow]
  split <;> simp
theorem and_pow_ne (a j : Nat) : (a &&& 2 ^ j != 0) = a.testBit j := by
  rw [Bool.eq_iff_iff]
  constructor
  · intro h
    cases hb : a.testBit j with
    | true => rfl
    | false =>
      have : a &&& 2 ^ j = 0 := by
        apply Nat.eq_of_testBit_eq
        intro i
        rw [Nat.testBit_and, Nat.testBit_two_pow, Nat.zero_testBit]
        by_cases e : j = i
        · subst e; simp [hb]
        · simp [e]
      rw [this] at h; simp at h
  · intro h
    have h1 : (a &&& 2 ^ j).testBit j = true := by rw [Nat.testBit_and, Nat.testBit_two_pow]; simp [h]
    simp only [bne_iff_ne, ne_eq]
    intro h0
    rw [h0] at h1
    simp at h1
theorem has_word (N c : Nat) : (wd N (c / 64) &&& 2 ^ (c % 64) != 0) = N.testBit c := by
  rw [and_pow_ne, wd_bit]
  have : 64 * (c / 64) + c % 64 = c := by omega
  rw [this]
  have h : c % 64 < 64 := by omega
  simp [h]
theorem wd_inj {N M : Nat} (hN : N < 2 ^ 256) (hM : M < 2 ^ 256) (h0 : wd N 0 = wd M 0) (h1 : wd N 1 = wd M 1) (h2 : wd N 2 = wd M 2) (h3 : wd N 3 = wd M 3) : N = M := by
  apply Nat.eq_of_testBit_eq
  intro c
  by_cases hc : c < 256
  · have hq : c / 64 = 0 ∨ c / 64 = 1 ∨ c / 64 = 2 ∨ c / 64 = 3 := by omega
    have e : ∀ K : Nat, K.testBit c = (wd K (c / 64)).testBit (c % 64) := by
      intro K
      rw [wd_bit]
      have : 64 * (c / 64) + c % 64 = c := by omega
      rw [this]
      have h : c % 64 < 64 := by omega
      simp [h]
    rw [e, e]
    rcases hq with h | h | h | h <;> rw [h]
    · rw [h0]
    · rw [h1]
    · rw [h2]
    · rw [h3]
  · have h : ∀ K, K < 2 ^ 256 → K.testBit c = false := fun K hK => Nat.testBit_lt_two_pow (Nat.lt_of_lt_of_le hK (Nat.pow_le_pow_right (by decide) (by omega)))
    rw [h N hN, h M hM]
/-- Four words are the words of a set. -/
theorem words_of (a b c d : Nat) (ha : a < 18446744073709551616) (hb : b < 18446744073709551616) (hc : c < 18446744073709551616) (hd : d < 18446744073709551616) :
    ∃ N, N < 2 ^ 256 ∧ wd N 0 = a ∧ wd N 1 = b ∧ wd N 2 = c ∧ wd N 3 = d := by
  refine ⟨a + 2 ^ 64 * (b + 2 ^ 64 * (c + 2 ^ 64 * d)), ?_, ?_, ?_, ?_, ?_⟩
  · omega
  · unfold wd; simp only [Nat.mul_zero, Nat.pow_zero, Nat.div_one]; omega
  · unfold wd; omega
  · unfold wd; omega
  · unfold wd; omega

/-- The set of some bytes. -/
def setOf (l : List UInt8) : Nat := l.foldl (fun N c => N ||| 2 ^ c.toNat) 0
theorem setOf_snoc (l : List UInt8) (c : UInt8) : setOf (l ++ [c]) = setOf l ||| 2 ^ c.toNat := by simp [setOf]
theorem foldl_bit (l : List UInt8) (N k : Nat) : (l.foldl (fun N c => N ||| 2 ^ c.toNat) N).testBit k = (N.testBit k || l.any (fun c => c.toNat == k)) := by
  induction l generalizing N with
  | nil => simp
  | cons c l ih => rw [List.foldl_cons, ih, Nat.testBit_or, Nat.testBit_two_pow, List.any_cons, Bool.or_assoc]; rfl
theorem setOf_bit (l : List UInt8) (k : Nat) : (setOf l).testBit k = l.any (fun c => c.toNat == k) := by simp [setOf, foldl_bit]
theorem with_lt {N c : Nat} (hN : N < 2 ^ 256) (hc : c < 256) : N ||| 2 ^ c < 2 ^ 256 := Nat.or_lt_two_pow hN (Nat.pow_lt_pow_right (by decide) hc)
theorem setOf_lt (l : List UInt8) : setOf l < 2 ^ 256 := by
  have h : ∀ (l : List UInt8) (N : Nat), N < 2 ^ 256 → l.foldl (fun N c => N ||| 2 ^ c.toNat) N < 2 ^ 256 := by
    intro l
    induction l with
    | nil => intro N h; exact h
    | cons c l ih => intro N h; exact ih _ (with_lt h c.toNat_lt)
  exact h l 0 (by decide)

/-- A byte without case. -/
def low (c : UInt8) : UInt8 := if 65 ≤ c.toNat ∧ c.toNat ≤ 90 then UInt8.ofNat (c.toNat + 32) else c
theorem low_nat (c : UInt8) : (low c).toNat = if 65 ≤ c.toNat ∧ c.toNat ≤ 90 then c.toNat + 32 else c.toNat := by
  unfold low
  split
  · rw [UInt8.toNat_ofNat']; omega
  · rfl
def lows (l : List UInt8) : List UInt8 := l.map low
/-- Is a byte one of words? -/
def isWord (n : Nat) : Bool := decide (65 ≤ n ∧ n ≤ 90 ∨ 97 ≤ n ∧ n ≤ 122 ∨ 48 ≤ n ∧ n ≤ 57 ∨ n = 95)
/-- Without case just if the sets are one. -/
theorem fixed_iff (l : List UInt8) : setOf (lows l) = setOf l ↔ lows l = l := by
  constructor
  · intro h
    have key : ∀ c ∈ l, low c = c := by
      intro c hc
      have h1 : (setOf l).testBit c.toNat = true := by
        rw [setOf_bit, List.any_eq_true]; exact ⟨c, hc, by simp⟩
      rw [← h, setOf_bit, List.any_eq_true] at h1
      obtain ⟨d, hd, he⟩ := h1
      simp only [lows, List.mem_map] at hd
      obtain ⟨b, _, rfl⟩ := hd
      have hb := low_nat b
      have e : (low b).toNat = c.toNat := by simpa using he
      have hn : ¬ (65 ≤ c.toNat ∧ c.toNat ≤ 90) := by
        rw [← e, hb]
        split <;> omega
      unfold low
      rw [if_neg hn]
    unfold lows
    exact (List.map_congr_left key).trans (List.map_id _)
  · intro h; rw [h]
end Go.Proofs.Ytlepabeibniabaa
