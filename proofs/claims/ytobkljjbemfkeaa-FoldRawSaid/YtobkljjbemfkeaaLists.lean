/- Plain mathematics of a set's bytes, rising: how many, which, and the set of them. -/
import Derived.Test.YtobkljjbemfkeaaWalkh
namespace Go.Proofs.Ytobkljjbemfkeaa

def lenOf (N : Nat) : Nat := pc 64 (wd N 0) + pc 64 (wd N 1) + pc 64 (wd N 2) + pc 64 (wd N 3)

theorem pc_word (N i : Nat) : pc 64 (wd N i) = ((List.range 64).filter (fun j => N.testBit (64 * i + j))).length := by
  rw [pc_filter]
  congr 1
  apply List.filter_congr
  intro j hj
  rw [wd_bit]
  simp [List.mem_range.1 hj]

theorem filter_shift (N i : Nat) : ((List.range (64 * i + 64)).filter (fun j => N.testBit j)).length = ((List.range (64 * i)).filter (fun j => N.testBit j)).length + pc 64 (wd N i) := by
  rw [List.range_add, List.filter_append, List.length_append, pc_word, List.filter_map, List.length_map]
  rfl

theorem len_list (N : Nat) : lenOf N = (listTo N 256).length := by
  have h0 := filter_shift N 0
  have h1 := filter_shift N 1
  have h2 := filter_shift N 2
  have h3 := filter_shift N 3
  unfold listTo lenOf
  rw [List.length_map]
  simp only [Nat.mul_zero, Nat.zero_add, Nat.mul_one, List.range_zero, List.filter_nil, List.length_nil] at h0 h1 h2 h3
  have e1 : (64 : Nat) + 64 = 64 * 2 := rfl
  have e2 : (64 : Nat) * 2 + 64 = 64 * 3 := rfl
  have e3 : (64 : Nat) * 3 + 64 = 256 := rfl
  rw [e1] at h1
  rw [e2] at h2
  rw [e3] at h3
  omega

theorem mem_listTo (N k : Nat) (hk : k ≤ 256) (c : UInt8) : c ∈ listTo N k ↔ c.toNat < k ∧ N.testBit c.toNat = true := by
  unfold listTo
  simp only [List.mem_map, List.mem_filter, List.mem_range]
  constructor
  · rintro ⟨i, ⟨hi, hb⟩, rfl⟩
    rw [nat_u8 i (by omega)]
    exact ⟨hi, hb⟩
  · rintro ⟨h1, h2⟩
    exact ⟨c.toNat, ⟨h1, h2⟩, by simp⟩

theorem set_list (N : Nat) (hN : N < 2 ^ 256) : setOf (listTo N 256) = N := by
  apply Nat.eq_of_testBit_eq
  intro k
  rw [setOf_bit, Bool.eq_iff_iff, List.any_eq_true]
  constructor
  · rintro ⟨c, hc, he⟩
    have := (mem_listTo N 256 (by omega) c).1 hc
    have e : c.toNat = k := by simpa using he
    rw [← e]; exact this.2
  · intro h
    have hk : k < 256 := by
      rcases Nat.lt_or_ge k 256 with h1 | h1
      · exact h1
      · rw [Nat.testBit_lt_two_pow (Nat.lt_of_lt_of_le hN (Nat.pow_le_pow_right (by decide) h1))] at h; cases h
    exact ⟨UInt8.ofNat k, (mem_listTo N 256 (by omega) _).2 (by rw [nat_u8 k hk]; exact ⟨hk, h⟩), by rw [nat_u8 k hk]; simp⟩

theorem listTo_split (N k : Nat) : ∀ m, k ≤ m → ∃ t, listTo N m = listTo N k ++ t := by
  intro m hm
  induction m with
  | zero =>
    obtain rfl : k = 0 := by omega
    exact ⟨[], by simp⟩
  | succ m ih =>
    by_cases h : k ≤ m
    · obtain ⟨t, ht⟩ := ih h
      cases hb : N.testBit m with
      | true => exact ⟨t ++ [UInt8.ofNat m], by rw [listTo_yes _ _ hb, ht, List.append_assoc]⟩
      | false => exact ⟨t, by rw [listTo_no _ _ hb, ht]⟩
    · have : k = m + 1 := by omega
      exact ⟨[], by subst this; simp⟩

theorem list_at (N k : Nat) (hk : k < 256) (h : N.testBit k = true) : (listTo N 256)[(listTo N k).length]? = some (UInt8.ofNat k) := by
  obtain ⟨t, ht⟩ := listTo_split N (k + 1) 256 (by omega)
  rw [ht, listTo_yes _ _ h, List.append_assoc]
  simp

theorem listTo_mono (N k : Nat) (hk : k ≤ 256) : (listTo N k).length ≤ (listTo N 256).length := by
  obtain ⟨t, ht⟩ := listTo_split N k 256 hk
  rw [ht]; simp

theorem with_same (N c : Nat) (h : N.testBit c = true) : N ||| 2 ^ c = N := by
  apply Nat.eq_of_testBit_eq
  intro i
  rw [Nat.testBit_or, Nat.testBit_two_pow]
  by_cases e : c = i
  · subst e; simp [h]
  · simp [e]

theorem with_more (N c : Nat) (h : N.testBit c = false) (k : Nat) : (listTo (N ||| 2 ^ c) k).length = (listTo N k).length + if c < k then 1 else 0 := by
  induction k with
  | zero => simp [listTo]
  | succ k ih =>
    have hb : (N ||| 2 ^ c).testBit k = (N.testBit k || decide (c = k)) := by rw [Nat.testBit_or, Nat.testBit_two_pow]
    by_cases e : c = k
    · subst e
      rw [listTo_yes _ _ (by rw [hb]; simp), listTo_no _ _ h]
      simp only [List.length_append, List.length_cons, List.length_nil]
      rw [ih]
      simp
    · have hb' : (N ||| 2 ^ c).testBit k = N.testBit k := by rw [hb]; simp [e]
      cases hk : N.testBit k with
      | true =>
        rw [listTo_yes _ _ (by rw [hb', hk]), listTo_yes _ _ hk]
        simp only [List.length_append, List.length_cons, List.length_nil]
        rw [ih]
        split <;> split <;> omega
      | false =>
        rw [listTo_no _ _ (by rw [hb', hk]), listTo_no _ _ hk, ih]
        split <;> split <;> omega

theorem with_len (N c : Nat) (hc : c < 256) : lenOf (N ||| 2 ^ c) = (listTo N 256).length + if N.testBit c = true then 0 else 1 := by
  rw [len_list]
  cases h : N.testBit c with
  | true => rw [with_same N c h]; simp
  | false => rw [with_more N c h, if_pos hc]; simp

theorem with_has (N c : Nat) : (N ||| 2 ^ c).testBit c = true := by rw [Nat.testBit_or, Nat.testBit_two_pow]; simp
theorem with_union (N c : Nat) : (N ||| 2 ^ c) ||| N = N ||| 2 ^ c := by
  apply Nat.eq_of_testBit_eq
  intro i
  simp only [Nat.testBit_or]
  cases N.testBit i <;> simp
end Go.Proofs.Ytobkljjbemfkeaa
