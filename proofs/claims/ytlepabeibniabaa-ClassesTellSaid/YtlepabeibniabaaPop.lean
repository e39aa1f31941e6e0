/- Plain mathematics: the sum by halves, quarters and nibbles of a number below 2^64 is the number of its bits that are set. No condition but the bound. -/
namespace Go.Proofs.Ytlepabeibniabaa
set_option maxRecDepth 100000

/-- How many of the lowest n bits of x are set. -/
def pc : Nat → Nat → Nat
  | 0, _ => 0
  | n + 1, x => x % 2 + pc n (x / 2)

theorem pc_le (n x : Nat) : pc n x ≤ n := by
  induction n generalizing x with
  | zero => simp [pc]
  | succ n ih => have := ih (x / 2); simp only [pc]; omega

theorem pc_filter (n x : Nat) : pc n x = ((List.range n).filter (fun i => x.testBit i)).length := by
  induction n generalizing x with
  | zero => rfl
  | succ n ih =>
    rw [List.range_succ_eq_map, List.filter_cons, List.filter_map, pc, ih]
    have e : ((fun i => x.testBit i) ∘ Nat.succ) = (fun i => (x / 2).testBit i) := by
      funext i; simp [Nat.testBit_succ]
    rw [e]
    by_cases h : x % 2 = 1
    · simp [h, Nat.testBit_zero]; omega
    · have h0 : x % 2 = 0 := by omega
      simp [h0, Nat.testBit_zero]

theorem pc_eight (n x : Nat) : pc (n + 8) x = pc 8 (x % 256) + pc n (x / 256) := by
  have e : x / 2 / 2 / 2 / 2 / 2 / 2 / 2 / 2 = x / 256 := by omega
  simp only [pc, e]
  omega

def mask : Nat → Nat → Nat
  | 0, _ => 0
  | k + 1, b => b + 256 * mask k b

theorem and_split (a A b B : Nat) (ha : a < 256) (hb : b < 256) : (a + 256 * A) &&& (b + 256 * B) = (a &&& b) + 256 * (A &&& B) := by
  have h1 : ((a + 256 * A) &&& (b + 256 * B)) % 2 ^ 8 = a &&& b := by
    rw [Nat.and_mod_two_pow]
    congr 1 <;> omega
  have h2 : ((a + 256 * A) &&& (b + 256 * B)) / 2 ^ 8 = A &&& B := by
    rw [Nat.and_div_two_pow]
    congr 1 <;> omega
  omega

def f1 (k x : Nat) : Nat := (x / 2 &&& mask k 85) + (x &&& mask k 85)
def f2 (k x : Nat) : Nat := (x / 4 &&& mask k 51) + (x &&& mask k 51)
def f3 (k x : Nat) : Nat := (x / 16 + x) &&& mask k 15

theorem low1 : ∀ a, a < 256 → ∀ t, t < 2 → (a / 2 + 128 * t) &&& 85 = a / 2 &&& 85 := by decide +kernel
theorem low2 : ∀ a, a < 256 → ∀ t, t < 4 → (a / 4 + 64 * t) &&& 51 = a / 4 &&& 51 := by decide +kernel
def g1 (a : Nat) : Nat := (a / 2 &&& 85) + (a &&& 85)
def g2 (a : Nat) : Nat := (a / 4 &&& 51) + (a &&& 51)
theorem g1_lt : ∀ a, a < 256 → g1 a < 256 := by decide +kernel
theorem g21_lt : ∀ a, a < 256 → g2 (g1 a) ≤ 68 ∧ g2 (g1 a) % 16 ≤ 4 := by decide +kernel
theorem low3 : ∀ a, a < 69 → ∀ t, t < 5 → (a / 16 + a + 16 * t) &&& 15 = (a / 16 + a) % 16 := by decide +kernel
theorem g321 : ∀ a, a < 256 → (g2 (g1 a) / 16 + g2 (g1 a)) % 16 = pc 8 a := by decide +kernel

theorem f1_succ (k x : Nat) : f1 (k + 1) x = g1 (x % 256) + 256 * f1 k (x / 256) := by
  have ex : x = x % 256 + 256 * (x / 256) := by omega
  have e1 : x / 2 = (x % 256 / 2 + 128 * (x / 256 % 2)) + 256 * (x / 256 / 2) := by omega
  have s1 : x / 2 &&& mask (k + 1) 85 = (x % 256 / 2 &&& 85) + 256 * (x / 256 / 2 &&& mask k 85) := by
    rw [e1, mask, and_split _ _ _ _ (by omega) (by omega), low1 _ (by omega) _ (by omega)]
  have s2 : x &&& mask (k + 1) 85 = (x % 256 &&& 85) + 256 * (x / 256 &&& mask k 85) := by
    conv => lhs; rw [ex, mask, and_split _ _ _ _ (by omega) (by omega)]
  unfold f1 g1
  rw [s1, s2]
  omega

theorem f2_succ (k a A : Nat) (ha : a < 256) : f2 (k + 1) (a + 256 * A) = g2 a + 256 * f2 k A := by
  have e1 : (a + 256 * A) / 4 = (a / 4 + 64 * (A % 4)) + 256 * (A / 4) := by omega
  unfold f2 g2
  rw [e1, mask, and_split _ _ _ _ (by omega) (by omega), low2 _ (by omega) _ (by omega), and_split _ _ _ _ (by omega) (by omega)]
  omega

theorem f3_succ (k a A : Nat) (ha : a ≤ 68) (hA : A % 16 ≤ 4) : f3 (k + 1) (a + 256 * A) = (a / 16 + a) % 16 + 256 * f3 k A := by
  have e1 : (a + 256 * A) / 16 + (a + 256 * A) = (a / 16 + a + 16 * (A % 16)) + 256 * (A / 16 + A) := by omega
  unfold f3
  rw [e1, mask, and_split _ _ _ _ (by omega) (by omega), low3 _ (by omega) _ (by omega)]

theorem f21_low (k x : Nat) : f2 k (f1 k x) % 16 ≤ 4 := by
  cases k with
  | zero => simp [f2, f1, mask]
  | succ k =>
    have h := g21_lt (x % 256) (by omega)
    rw [f1_succ, f2_succ _ _ _ (g1_lt _ (by omega))]
    omega

theorem f321_succ (k x : Nat) : f3 (k + 1) (f2 (k + 1) (f1 (k + 1) x)) = pc 8 (x % 256) + 256 * f3 k (f2 k (f1 k (x / 256))) := by
  have h := g21_lt (x % 256) (by omega)
  rw [f1_succ, f2_succ _ _ _ (g1_lt _ (by omega)), f3_succ _ _ _ h.1 (f21_low _ _), g321 _ (by omega)]

theorem div_of (d a b : Nat) (hd : 0 < d) (ha : a < d) : (a + d * b) / d = b := by
  rw [Nat.add_mul_div_left _ _ hd, Nat.div_eq_of_lt ha, Nat.zero_add]

theorem mask55 : mask 8 85 = 6148914691236517205 := by decide
theorem mask33 : mask 8 51 = 3689348814741910323 := by decide
theorem mask0f : mask 8 15 = 1085102592571150095 := by decide

theorem tail4 (q0 q1 q2 q3 q4 q5 q6 q7 : Nat) (p0 : q0 ≤ 8) :
    (q0 + 256 * (q1 + 256 * (q2 + 256 * (q3 + 256 * (q4 + 256 * (q5 + 256 * (q6 + 256 * q7))))))) + (q0 + 256 * (q1 + 256 * (q2 + 256 * (q3 + 256 * (q4 + 256 * (q5 + 256 * (q6 + 256 * q7))))))) / 256
      = ((q0 + q1) + 256 * (q1 + q2)) + 65536 * ((q2 + q3) + 256 * (q3 + q4) + 65536 * ((q4 + q5) + 256 * (q5 + q6) + 65536 * ((q6 + q7) + 256 * q7))) := by
  rw [div_of 256 _ _ (by omega) (by omega)]; omega
theorem tail5 (a b A B C : Nat) (h : a + 256 * b < 65536) :
    (a + 256 * b) + 65536 * (A + 65536 * (B + 65536 * C)) + ((a + 256 * b) + 65536 * (A + 65536 * (B + 65536 * C))) / 65536
      = (a + 256 * b + A) + 65536 * ((A + B) + 65536 * ((B + C) + 65536 * C)) := by
  rw [div_of 65536 _ _ (by omega) (by omega)]; omega
theorem tail6 (a A B C : Nat) (h : a + 65536 * A < 4294967296) :
    (a + 65536 * (A + 65536 * (B + 65536 * C))) + (a + 65536 * (A + 65536 * (B + 65536 * C))) / 4294967296
      = (a + 65536 * A + (B + 65536 * C)) + 4294967296 * (B + 65536 * C) := by
  have e : a + 65536 * (A + 65536 * (B + 65536 * C)) = (a + 65536 * A) + 4294967296 * (B + 65536 * C) := by omega
  rw [e, div_of 4294967296 _ _ (by omega) h]; omega
theorem tailMod (q0 q1 q2 q3 q4 q5 q6 q7 X : Nat) (p0 : q0 ≤ 8) (p1 : q1 ≤ 8) (p2 : q2 ≤ 8) (p3 : q3 ≤ 8) (p4 : q4 ≤ 8) (p5 : q5 ≤ 8) (p6 : q6 ≤ 8) (p7 : q7 ≤ 8) :
    ((q0 + (q1 + (q2 + (q3 + (q4 + (q5 + (q6 + q7))))))) + 128 * X) % 128 = q0 + (q1 + (q2 + (q3 + (q4 + (q5 + (q6 + q7)))))) := by
  rw [Nat.add_mul_mod_self_left, Nat.mod_eq_of_lt (by omega)]

/-- The steps of the count, on natural numbers below 2^64, as the machine adds. -/
theorem pop_nat (x : Nat) (y z u r4 r5 r6 : Nat)
    (hy : y = (x / 2 &&& 6148914691236517205) + (x &&& 6148914691236517205))
    (hz : z = (y / 4 &&& 3689348814741910323) + (y &&& 3689348814741910323))
    (hu : u = (z / 16 + z) &&& 1085102592571150095)
    (h4 : r4 = u + u / 256) (h5 : r5 = r4 + r4 / 65536) (h6 : r6 = r5 + r5 / 4294967296) :
    y < 18446744073709551616 ∧ z < 18446744073709551616 ∧ z / 16 + z < 18446744073709551616 ∧ u < 18446744073709551616 ∧ r4 < 18446744073709551616 ∧ r5 < 18446744073709551616 ∧ r6 < 9223372036854775808 ∧ r6 % 128 = pc 64 x := by
  have hu' : u = f3 8 (f2 8 (f1 8 x)) := by
    unfold f3 f2 f1
    rw [mask55, mask33, mask0f, hu, hz, hy]
  have b1 : x / 2 &&& 6148914691236517205 ≤ 6148914691236517205 := Nat.and_le_right
  have b2 : x &&& 6148914691236517205 ≤ 6148914691236517205 := Nat.and_le_right
  have b3 : y / 4 &&& 3689348814741910323 ≤ 3689348814741910323 := Nat.and_le_right
  have b4 : y &&& 3689348814741910323 ≤ 3689348814741910323 := Nat.and_le_right
  have p0 := pc_le 8 (x % 256)
  have p1 := pc_le 8 (x / 256 % 256)
  have p2 := pc_le 8 (x / 256 / 256 % 256)
  have p3 := pc_le 8 (x / 256 / 256 / 256 % 256)
  have p4 := pc_le 8 (x / 256 / 256 / 256 / 256 % 256)
  have p5 := pc_le 8 (x / 256 / 256 / 256 / 256 / 256 % 256)
  have p6 := pc_le 8 (x / 256 / 256 / 256 / 256 / 256 / 256 % 256)
  have p7 := pc_le 8 (x / 256 / 256 / 256 / 256 / 256 / 256 / 256 % 256)
  have hz0 : f3 0 (f2 0 (f1 0 (x / 256 / 256 / 256 / 256 / 256 / 256 / 256 / 256))) = 0 := by simp [f3, f2, f1, mask]
  have hpc : pc 64 x = pc 8 (x % 256) + (pc 8 (x / 256 % 256) + (pc 8 (x / 256 / 256 % 256) + (pc 8 (x / 256 / 256 / 256 % 256) + (pc 8 (x / 256 / 256 / 256 / 256 % 256) + (pc 8 (x / 256 / 256 / 256 / 256 / 256 % 256) + (pc 8 (x / 256 / 256 / 256 / 256 / 256 / 256 % 256) + pc 8 (x / 256 / 256 / 256 / 256 / 256 / 256 / 256 % 256))))))) := by
    have h7 : pc 8 (x / 256 / 256 / 256 / 256 / 256 / 256 / 256) = pc 8 (x / 256 / 256 / 256 / 256 / 256 / 256 / 256 % 256) := pc_eight 0 _
    rw [pc_eight 56, pc_eight 48, pc_eight 40, pc_eight 32, pc_eight 24, pc_eight 16, pc_eight 8, h7]
  rw [f321_succ, f321_succ, f321_succ, f321_succ, f321_succ, f321_succ, f321_succ, f321_succ, hz0, Nat.mul_zero, Nat.add_zero] at hu'
  rw [hpc]
  clear hpc hz0 hu
  generalize pc 8 (x % 256) = q0 at *
  generalize pc 8 (x / 256 % 256) = q1 at *
  generalize pc 8 (x / 256 / 256 % 256) = q2 at *
  generalize pc 8 (x / 256 / 256 / 256 % 256) = q3 at *
  generalize pc 8 (x / 256 / 256 / 256 / 256 % 256) = q4 at *
  generalize pc 8 (x / 256 / 256 / 256 / 256 / 256 % 256) = q5 at *
  generalize pc 8 (x / 256 / 256 / 256 / 256 / 256 / 256 % 256) = q6 at *
  generalize pc 8 (x / 256 / 256 / 256 / 256 / 256 / 256 / 256 % 256) = q7 at *
  have u4 : u < 18446744073709551616 := by rw [hu']; omega
  have y4 : y < 18446744073709551616 := by rw [hy]; omega
  have z4 : z < 18446744073709551616 ∧ z / 16 + z < 18446744073709551616 := by rw [hz]; omega
  have e4 := tail4 q0 q1 q2 q3 q4 q5 q6 q7 p0
  rw [← hu', ← h4] at e4
  clear hu' h4 hy hz b1 b2 b3 b4
  have l4 : r4 < 18446744073709551616 := by rw [e4]; omega
  have e5 := tail5 (q0 + q1) (q1 + q2) ((q2 + q3) + 256 * (q3 + q4)) ((q4 + q5) + 256 * (q5 + q6)) ((q6 + q7) + 256 * q7) (by omega)
  rw [← e4, ← h5] at e5
  clear e4 h5
  have l5 : r5 < 18446744073709551616 := by rw [e5]; omega
  have e6 := tail6 (q0 + q1 + 256 * (q1 + q2) + (q2 + q3 + 256 * (q3 + q4))) (q2 + q3 + 256 * (q3 + q4) + (q4 + q5 + 256 * (q5 + q6))) (q4 + q5 + 256 * (q5 + q6) + (q6 + q7 + 256 * q7)) (q6 + q7 + 256 * q7) (by omega)
  rw [← e5, ← h6] at e6
  clear e5 h6
  have l6 : r6 < 9223372036854775808 := by rw [e6]; omega
  have e7 : r6 = (q0 + (q1 + (q2 + (q3 + (q4 + (q5 + (q6 + q7))))))) + 128 * (2 * ((q1 + q2 + q3 + q4 + q5 + q6 + q7) + 256 * ((q2 + q3 + q4 + q5 + q6 + q7) + 256 * (q3 + q4 + q5 + q6 + q7)) + 16777216 * ((q4 + q5 + q6 + q7) + 256 * (q5 + q6 + q7) + 65536 * ((q6 + q7) + 256 * q7)))) := by
    rw [e6]; clear e6 l6 l5 l4 z4 y4 u4 p0 p1 p2 p3 p4 p5 p6 p7; omega
  have m6 : r6 % 128 = q0 + (q1 + (q2 + (q3 + (q4 + (q5 + (q6 + q7)))))) := by
    rw [e7]; exact tailMod q0 q1 q2 q3 q4 q5 q6 q7 _ p0 p1 p2 p3 p4 p5 p6 p7
  exact ⟨y4, z4.1, z4.2, u4, l4, l5, l6, m6⟩
end Go.Proofs.Ytlepabeibniabaa
