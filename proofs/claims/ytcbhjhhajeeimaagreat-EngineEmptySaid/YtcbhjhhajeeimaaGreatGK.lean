/- Package by package: KMath K2 K3 K4 K5 K6. -/
import Derived.Test.YtcbhjhhajeeimaaGreatGB
/- Mathematics of ends, periods and cuts: orders of texts, the greatest end, periods, borders, and where a text is cut. -/
namespace Go.Proofs.YtcbhjhhajeeimaaGreat.Crt
set_option maxRecDepth 100000
abbrev Tx := List UInt8
/-- The order of bytes; t: turned round. -/
def ltB (t : Bool) (a b : UInt8) : Bool := if t then decide (b < a) else decide (a < b)
theorem u8_lt (a b : UInt8) : a < b ↔ a.toNat < b.toNat := UInt8.lt_iff_toNat_lt
theorem ltB_irrefl (t : Bool) (a : UInt8) : ltB t a a = false := by
  unfold ltB
  have h : ¬ a < a := by rw [u8_lt]; omega
  split <;> exact decide_eq_false h
theorem ltB_trans (t : Bool) {a b c : UInt8} (h1 : ltB t a b = true) (h2 : ltB t b c = true) : ltB t a c = true := by
  unfold ltB at *
  cases t
  · simp only [Bool.false_eq_true, if_false, decide_eq_true_eq, u8_lt] at *; omega
  · simp only [if_true, decide_eq_true_eq, u8_lt] at *; omega
theorem ltB_tri (t : Bool) (a b : UInt8) : ltB t a b = true ∨ a = b ∨ ltB t b a = true := by
  unfold ltB
  rcases Nat.lt_trichotomy a.toNat b.toNat with h | h | h
  · cases t
    · left; simp [u8_lt, h]
    · right; right; simp [u8_lt, h]
  · exact .inr (.inl (UInt8.toNat_inj.1 h))
  · cases t
    · right; right; simp [u8_lt, h]
    · left; simp [u8_lt, h]
theorem ltB_asymm (t : Bool) {a b : UInt8} (h : ltB t a b = true) : ltB t b a = false := by
  cases h2 : ltB t b a
  · rfl
  · have := ltB_trans t h h2
    rw [ltB_irrefl] at this; cases this
theorem ltB_turn (t : Bool) (a b : UInt8) : ltB (!t) a b = ltB t b a := by cases t <;> simp [ltB]
/-- The order of texts. -/
def less (t : Bool) : Tx → Tx → Bool
  | [], [] => false
  | [], _ :: _ => true
  | _ :: _, [] => false
  | a :: x, b :: y => if a = b then less t x y else ltB t a b
theorem less_irrefl (t : Bool) : ∀ x, less t x x = false
  | [] => rfl
  | a :: x => by rw [less, if_pos rfl, less_irrefl t x]
theorem less_nil (t : Bool) (x : Tx) : less t x [] = false := by cases x <;> rfl
theorem nil_less (t : Bool) (x : Tx) : less t [] x = decide (x ≠ []) := by cases x <;> simp [less]
theorem less_append (t : Bool) : ∀ c x y : Tx, less t (c ++ x) (c ++ y) = less t x y
  | [], _, _ => rfl
  | a :: c, x, y => by rw [List.cons_append, List.cons_append, less, if_pos rfl, less_append t c]
theorem less_more (t : Bool) (x y : Tx) (h : y ≠ []) : less t x (x ++ y) = true := by
  have := less_append t x [] y
  rw [List.append_nil] at this
  rw [this, nil_less]; simpa using h
theorem less_tri (t : Bool) : ∀ x y, less t x y = true ∨ x = y ∨ less t y x = true
  | [], [] => .inr (.inl rfl)
  | [], _ :: _ => .inl rfl
  | _ :: _, [] => .inr (.inr rfl)
  | a :: x, b :: y => by
    by_cases e : a = b
    · subst e
      rw [less, less, if_pos rfl, if_pos rfl]
      rcases less_tri t x y with h | h | h
      · exact .inl h
      · exact .inr (.inl (by rw [h]))
      · exact .inr (.inr h)
    · rw [less, less, if_neg e, if_neg (fun h => e h.symm)]
      rcases ltB_tri t a b with h | h | h
      · exact .inl h
      · exact absurd h e
      · exact .inr (.inr h)
theorem less_trans (t : Bool) : ∀ x y z, less t x y = true → less t y z = true → less t x z = true
  | [], [], _, h, _ => by cases h
  | [], _ :: _, [], _, h => by cases h
  | [], _ :: _, _ :: _, _, _ => rfl
  | _ :: _, [], _, h, _ => by cases h
  | _ :: _, _ :: _, [], _, h => by cases h
  | a :: x, b :: y, c :: z, h1, h2 => by
    rw [less] at h1 h2 ⊢
    by_cases e1 : a = b
    · subst e1
      rw [if_pos rfl] at h1
      by_cases e2 : a = c
      · subst e2
        rw [if_pos rfl] at h2 ⊢
        exact less_trans t x y z h1 h2
      · rw [if_neg e2] at h2 ⊢; exact h2
    · rw [if_neg e1] at h1
      by_cases e2 : b = c
      · subst e2
        rw [if_neg e1]; exact h1
      · rw [if_neg e2] at h2
        have h3 := ltB_trans t h1 h2
        by_cases e3 : a = c
        · subst e3
          rw [ltB_irrefl] at h3; cases h3
        · rw [if_neg e3]; exact h3
theorem less_asymm (t : Bool) {x y : Tx} (h : less t x y = true) : less t y x = false := by
  cases h2 : less t y x
  · rfl
  · have := less_trans t x y x h h2
    rw [less_irrefl] at this; cases this
/-- What is not less by both orders is a beginning. -/
theorem prefix_of_both (t : Bool) : ∀ v z : Tx, less t v z = false → less (!t) v z = false → ∃ r, v = z ++ r
  | v, [], _, _ => ⟨v, rfl⟩
  | [], b :: z, h, _ => by cases h
  | a :: v, b :: z, h1, h2 => by
    rw [less] at h1 h2
    by_cases e : a = b
    · subst e
      rw [if_pos rfl] at h1 h2
      obtain ⟨r, hr⟩ := prefix_of_both t v z h1 h2
      exact ⟨r, by rw [hr]; rfl⟩
    · rw [if_neg e] at h1 h2
      rw [ltB_turn] at h2
      rcases ltB_tri t a b with h | h | h
      · rw [h] at h1; cases h1
      · exact absurd h e
      · rw [h] at h2; cases h2
/-- The end from k on is the greatest one. -/
def IsMax (t : Bool) (s : Tx) (k : Nat) : Prop := k < s.length ∧ ∀ j, j < s.length → j ≠ k → less t (s.drop j) (s.drop k) = true
theorem isMax_uniq {t : Bool} {s : Tx} {k j : Nat} (h : IsMax t s k) (h' : IsMax t s j) : k = j := by
  rcases Nat.decEq k j with e | e
  · have h1 := h.2 j h'.1 (fun q => e q.symm)
    have h2 := h'.2 k h.1 e
    rw [less_asymm t h1] at h2; cases h2
  · exact e
/-- A period at a place. -/
def Loc (s : Tx) (k r : Nat) : Prop := 1 ≤ r ∧ ∀ i (h : i + r < s.length), k ≤ i + r → i < k → s[i] = s[i + r]
def Per (s : Tx) (r : Nat) : Prop := 1 ≤ r ∧ ∀ i (h : i + r < s.length), s[i] = s[i + r]
theorem Per.loc {s : Tx} {r : Nat} (h : Per s r) (k : Nat) : Loc s k r := ⟨h.1, fun i hi _ _ => h.2 i hi⟩
theorem per_all (s : Tx) (h : s ≠ []) : Per s s.length := ⟨List.length_pos_iff.2 h, fun i hi => by omega⟩
theorem drop_split (s : Tx) (i j : Nat) (h : i ≤ j) : s.drop i = (s.drop i).take (j - i) ++ s.drop j := by
  have := (List.take_append_drop (j - i) (s.drop i)).symm
  rwa [List.drop_drop, show i + (j - i) = j by omega] at this
/-- Just ahead of the greatest end nothing is repeated behind it. -/
theorem max_far {t : Bool} {s : Tx} {k r : Nat} (hm : IsMax t s k) (hl : Loc s k r) : k < r := by
  rcases Nat.lt_or_ge k r with h | h
  · exact h
  exfalso
  obtain ⟨h1, h2⟩ := hl
  have hwv := hm.2 (k - r) (by have := hm.1; omega) (by omega)
  have e1 := drop_split s (k - r) k (by omega)
  rw [show k - (k - r) = r by omega] at e1
  generalize hw : (s.drop (k - r)).take r = w at e1
  have hwl : w.length = r := by rw [← hw, List.length_take, List.length_drop]; have := hm.1; omega
  have hat : ∀ j (hj : j < r) (hj2 : j + k < s.length), w[j]'(by omega) = s[j + k] := fun j hj hj2 => by
    have e : w[j]'(by omega) = s[k - r + j]'(by omega) := by
      simp only [← hw, List.getElem_take, List.getElem_drop]
    rw [e, h2 (k - r + j) (by omega) (by omega) (by omega)]
    congr 1; omega
  rw [e1] at hwv
  rcases Nat.lt_or_ge (s.length - k) r with hv | hv
  · -- the greatest end is shorter: what is ahead of it begins with it
    have e2 : w.take (s.length - k) = s.drop k := by
      refine List.ext_getElem (by rw [List.length_take, List.length_drop]; omega) fun j hj1 hj2 => ?_
      rw [List.getElem_take, List.getElem_drop]
      rw [List.length_drop] at hj2
      rw [hat j (by omega) (by omega)]
      congr 1; omega
    have e3 := (List.take_append_drop (s.length - k) w).symm
    rw [e2] at e3
    rw [e3, List.append_assoc] at hwv
    have h4 := less_more t (s.drop k) (w.drop (s.length - k) ++ s.drop k) (by
      intro e
      have := congrArg List.length e
      rw [List.length_append, List.length_drop, List.length_drop] at this
      simp at this
      have := hm.1
      omega)
    rw [less_asymm t h4] at hwv
    cases hwv
  · have e2 : (s.drop k).take r = w := by
      refine List.ext_getElem (by rw [List.length_take, List.length_drop]; omega) fun j hj1 hj2 => ?_
      rw [List.getElem_take, List.getElem_drop, hat j (by omega) (by omega)]
      congr 1; omega
    have e3 := drop_split s k (k + r) (by omega)
    rw [show k + r - k = r by omega, e2] at e3
    have hwv2 : less t (w ++ s.drop k) (w ++ s.drop (k + r)) = true := by rw [← e3]; exact hwv
    rw [less_append] at hwv2
    rcases Nat.lt_or_ge (k + r) s.length with hz | hz
    · have := hm.2 (k + r) hz (by omega)
      rw [less_asymm t this] at hwv2; cases hwv2
    · rw [List.drop_eq_nil_of_le hz, less_nil] at hwv2; cases hwv2
/-- Where a text is cut: the later one of its two greatest ends. A period there is one of the text. -/
theorem critical {t : Bool} {s : Tx} {k k' : Nat} (hm : IsMax t s k) (hm' : IsMax (!t) s k') (hk : k' ≤ k) {r : Nat} (hl : Loc s k r) : Per s r := by
  have hkr := max_far hm hl
  obtain ⟨h1, h2⟩ := hl
  refine ⟨h1, fun i hi => ?_⟩
  by_cases hik : i < k
  · exact h2 i hi (by omega) hik
  -- the greatest end is longer than r
  have hv : k + r < s.length := by omega
  have hz1 := less_asymm t (hm.2 (k + r) hv (by omega))
  have hq := hm'.2 (k' + r) (by omega) (by omega)
  have e1 := drop_split s k' k hk
  have e2 := drop_split s (k' + r) (k + r) (by omega)
  rw [show k + r - (k' + r) = k - k' by omega] at e2
  have e3 : (s.drop (k' + r)).take (k - k') = (s.drop k').take (k - k') := by
    refine List.ext_getElem (by rw [List.length_take, List.length_take, List.length_drop, List.length_drop]; omega) fun j hj1 hj2 => ?_
    rw [List.length_take, List.length_drop] at hj1 hj2
    rw [List.getElem_take, List.getElem_take, List.getElem_drop, List.getElem_drop]
    have := h2 (k' + j) (by omega) (by omega) (by omega)
    rw [this]
    congr 1; omega
  rw [e3] at e2
  generalize (s.drop k').take (k - k') = c at e1 e2
  rw [e1, e2, less_append] at hq
  have hz2 := less_asymm (!t) hq
  obtain ⟨x, hx⟩ := prefix_of_both t _ _ hz1 hz2
  have e5 : (s.drop k)[i - k]? = (s.drop (k + r))[i - k]? := by
    rw [hx, List.getElem?_append_left (by rw [List.length_drop]; omega)]
  rw [List.getElem?_drop, List.getElem?_drop, show k + (i - k) = i by omega, show k + r + (i - k) = i + r by omega, List.getElem?_eq_getElem (by omega), List.getElem?_eq_getElem hi] at e5
  exact Option.some.inj e5
/-- .. whichever of the two is the later one. -/
theorem critical_any {s : Tx} {k k' : Nat} (hm : IsMax false s k) (hm' : IsMax true s k') {r : Nat} (hl : Loc s (max k k') r) : Per s r := by
  rcases Nat.le_total k' k with h | h
  · rw [Nat.max_eq_left h] at hl
    exact critical (t := false) hm hm' h hl
  · rw [Nat.max_eq_right h] at hl
    exact critical (t := true) hm' hm h hl
/-- The cut stands ahead of each period. -/
theorem cut_lt {t : Bool} {s : Tx} {k p : Nat} (hm : IsMax t s k) (hp : Per s p) : k < p := max_far hm (hp.loc k)
/-- If the first bytes are those from the greatest end's period on, it is the text's. -/
theorem small_per {s : Tx} {k p : Nat} (hp : Per (s.drop k) p) (hs : ∀ i (_ : i < k) (h : i + p < s.length), s[i] = s[i + p]) : Per s p := by
  refine ⟨hp.1, fun i hi => ?_⟩
  by_cases h : i < k
  · exact hs i h hi
  · have := hp.2 (i - k) (by rw [List.length_drop]; omega)
    rw [List.getElem_drop, List.getElem_drop] at this
    have e1 : k + (i - k) = i := by omega
    have e2 : k + (i - k + p) = i + p := by omega
    simpa only [e1, e2] using this
theorem Per.drop {s : Tx} {p : Nat} (h : Per s p) (k : Nat) : Per (s.drop k) p := by
  refine ⟨h.1, fun i hi => ?_⟩
  rw [List.length_drop] at hi
  rw [List.getElem_drop, List.getElem_drop]
  have := h.2 (k + i) (by omega)
  rw [this]
  congr 1; omega
/-- A period of a text, told by its last place. -/
theorem Per.back {s : Tx} {q : Nat} (h : Per s q) : ∀ (c i : Nat) (hi : i + q * c < s.length), s[i + q * c] = s[i]'(by omega)
  | 0, i, hi => by simp
  | c + 1, i, hi => by
    have e : q * (c + 1) = q * c + q := Nat.mul_succ q c
    have h1 := h.2 (i + q * c) (by omega)
    have h2 := h.back c i (by omega)
    rw [← h2, h1]
    congr 1; omega
/-- The least period. -/
def Least (s : Tx) (p : Nat) : Prop := Per s p ∧ ∀ r, Per s r → p ≤ r
theorem Least.le {s : Tx} {p : Nat} (h : Least s p) (hs : s ≠ []) : p ≤ s.length := h.2 _ (per_all s hs)
/-- If the text's period is no longer than what is behind the cut, the first bytes are those from that part's period on. -/
theorem small_of {s : Tx} {k p q : Nat} (hc : ∀ r, Loc s k r → Per s r) (hf : ∀ r, Loc s k r → k < r) (hp : Least s p) (hq : Least (s.drop k) q) (hk : k < s.length) (hpk : k + p ≤ s.length) : ∀ i (_ : i < k) (h : i + q < s.length), s[i] = s[i + q] := by
  have hkp := hf p (hp.1.loc k)
  have hq1 := hq.1.1
  -- the bytes behind the cut repeat themselves by q
  have hv : ∀ (c j : Nat) (hj : j + q * c < s.length - k), s[k + (j + q * c)]'(by omega) = s[k + j]'(by omega) := fun c j hj => by
    have := hq.1.back c j (by rw [List.length_drop]; omega)
    rw [List.getElem_drop, List.getElem_drop] at this
    exact this
  have hdm := Nat.div_add_mod p q
  have hm := Nat.mod_lt p hq1
  -- what is ahead of the cut, m bytes of it, stands behind it
  have key : ∀ i (_ : i < k) (_ : k ≤ i + p % q) (h : i + p % q < s.length), s[i] = s[i + p % q] := fun i hik hkm h => by
    have h1 := hp.1.2 i (by omega)
    have h2 := hv (p / q) (i + p % q - k) (by omega)
    have e1 : k + (i + p % q - k + q * (p / q)) = i + p := by omega
    have e2 : k + (i + p % q - k) = i + p % q := by omega
    simp only [e1, e2] at h2
    rw [h1, h2]
  rcases Nat.eq_zero_or_pos (p % q) with h0 | h0
  · -- p is so many times q
    have hc1 : 0 < p / q := by
      rcases Nat.eq_zero_or_pos (p / q) with h | h
      · rw [h, h0] at hdm; simp at hdm
        have := hp.1.1; omega
      · exact h
    have key2 : ∀ i (_ : i < k) (_ : k ≤ i + q) (h : i + q < s.length), s[i] = s[i + q] := fun i hik hkm h => by
      have h1 := hp.1.2 i (by omega)
      have e3 : q * (p / q) = q + q * (p / q - 1) := by
        have : p / q = p / q - 1 + 1 := by omega
        conv => lhs; rw [this, Nat.mul_succ]
        omega
      have h2 := hv (p / q - 1) (i + q - k) (by omega)
      have e1 : k + (i + q - k + q * (p / q - 1)) = i + p := by omega
      have e2 : k + (i + q - k) = i + q := by omega
      simp only [e1, e2] at h2
      rw [h1, h2]
    have hkq := hf q ⟨hq1, fun i h hkm hik => key2 i hik hkm h⟩
    exact fun i hik h => key2 i hik (by omega) h
  · exfalso
    have := hp.2 (p % q) (hc (p % q) ⟨h0, fun i h hkm hik => key i hik hkm h⟩)
    have h3 : p % q ≤ p := Nat.mod_le p q
    have h4 : q ≤ p := hq.2 p (hp.1.drop k)
    omega
/-- If they aren't, it is greater than both parts. -/
theorem far_of {s : Tx} {k p q : Nat} (hc : ∀ r, Loc s k r → Per s r) (hf : ∀ r, Loc s k r → k < r) (hp : Least s p) (hq : Least (s.drop k) q) (hk : k < s.length) (hn : ¬ ∀ i (_ : i < k) (h : i + q < s.length), s[i] = s[i + q]) : max k (s.length - k) < p := by
  have h1 := hf p (hp.1.loc k)
  rcases Nat.lt_or_ge (s.length - k) p with h | h
  · omega
  · exact absurd (small_of hc hf hp hq hk (by omega)) hn
/-- .. if they are, it is that part's. -/
theorem small_least {s : Tx} {k p q : Nat} (hp : Least s p) (hq : Least (s.drop k) q) (hs : ∀ i (_ : i < k) (h : i + q < s.length), s[i] = s[i + q]) : p = q := by
  have h1 := hp.2 q (small_per hq.1 hs)
  have h2 := hq.2 p (hp.1.drop k)
  omega
/-! Two ways: a text stands at a place of a line. -/
def Stands (line b : Tx) (pos : Nat) : Prop := ∀ i, i < b.length → line[pos + i]? = b[i]?
theorem Stands.le {line b : Tx} {pos : Nat} (h : Stands line b pos) (hb : b ≠ []) : pos + b.length ≤ line.length := by
  have h0 := List.length_pos_iff.2 hb
  have := h (b.length - 1) (by omega)
  rw [List.getElem?_eq_getElem (by omega : b.length - 1 < b.length)] at this
  have := (List.getElem?_eq_some_iff.1 this).1
  omega
/-- What is the same from the cut on, up to j: if the text stands d places on, d is a period at the cut. -/
theorem stands_loc {line b : Tx} {pos k j d : Nat} (hm : ∀ i, k ≤ i → i < j → line[pos + i]? = b[i]?) (hd : 1 ≤ d) (hj : ∀ i, i < k → i + d < b.length → i + d < j) (hs : Stands line b (pos + d)) : Loc b k d := by
  refine ⟨hd, fun i hi hk hik => ?_⟩
  have h1 := hs i (by omega)
  have h2 := hm (i + d) hk (hj i hik hi)
  rw [show pos + d + i = pos + (i + d) by omega, h2, List.getElem?_eq_getElem hi, List.getElem?_eq_getElem (by omega)] at h1
  exact (Option.some.inj h1).symm
/-- The first unlike byte is behind the cut: up to there the text may be moved. -/
theorem shift_right {line b : Tx} {pos k j : Nat} (hc : ∀ r, Loc b k r → Per b r) (hm : ∀ i, k ≤ i → i < j → line[pos + i]? = b[i]?) (hkj : k ≤ j) (hj : j < b.length) (hne : line[pos + j]? ≠ b[j]?) (d : Nat) (hd : 1 ≤ d) (hdj : d ≤ j - k + 1) (hlt : d ≠ j - k + 1) : ¬ Stands line b (pos + d) := fun hs => by
  have hp := hc d (stands_loc hm hd (fun i hi hi2 => by omega) hs)
  have h1 := hs (j - d) (by omega)
  rw [show pos + d + (j - d) = pos + j by omega] at h1
  refine hne ?_
  rw [h1]
  have h2 := hp.2 (j - d) (by omega)
  rw [List.getElem?_eq_getElem (by omega), List.getElem?_eq_getElem hj, h2]
  congr 1
  have e : j - d + d = j := by omega
  simp only [e]
/-- All behind the cut is the same: the text may be moved by less than its period. -/
theorem shift_left {line b : Tx} {pos k : Nat} (hc : ∀ r, Loc b k r → Per b r) (hm : ∀ i, k ≤ i → i < b.length → line[pos + i]? = b[i]?) (d : Nat) (hd : 1 ≤ d) (hs : Stands line b (pos + d)) : Per b d :=
  hc d (stands_loc hm hd (fun _ _ hi2 => hi2) hs)
/-- Moved by a period that is greater than the cut, the first bytes are the same. -/
theorem moved {line b : Tx} {pos k p : Nat} (hp : Per b p) (hk : k ≤ p) (hm : ∀ i, k ≤ i → i < b.length → line[pos + i]? = b[i]?) (i : Nat) (hi : i + p < b.length) : line[pos + p + i]? = b[i]? := by
  have h1 := hm (i + p) (by omega) hi
  rw [show pos + p + i = pos + (i + p) by omega, h1, List.getElem?_eq_getElem hi, List.getElem?_eq_getElem (by omega), hp.2 i hi]
/-! Borders. -/
theorem border_per (s : Tx) (n : Nat) (hn : n < s.length) : s.take n = s.drop (s.length - n) ↔ Per s (s.length - n) := by
  constructor
  · intro h
    refine ⟨by omega, fun i hi => ?_⟩
    have e1 : (s.take n)[i]? = (s.drop (s.length - n))[i]? := by rw [h]
    rw [List.getElem?_take_of_lt (by omega), List.getElem?_drop, List.getElem?_eq_getElem (by omega), List.getElem?_eq_getElem (by omega)] at e1
    rw [Option.some.inj e1]
    congr 1; omega
  · intro h
    refine List.ext_getElem (by rw [List.length_take, List.length_drop]; omega) fun i h1 h2 => ?_
    rw [List.length_take] at h1
    rw [List.getElem_take, List.getElem_drop, h.2 i (by omega)]
    congr 1; omega
end Go.Proofs.YtcbhjhhajeeimaaGreat.Crt
/- The greatest end of a text, gone through once: what holds at each step. -/
namespace Go.Proofs.YtcbhjhhajeeimaaGreat.Crt
set_option maxRecDepth 100000
/-- A text's byte at a place (0 behind its end). -/
def at' (s : Tx) (i : Nat) : UInt8 := s.getD i 0
theorem at_eq {s : Tx} {i : Nat} (h : i < s.length) : at' s i = s[i] := by
  unfold at'; rw [List.getD_eq_getElem?_getD, List.getElem?_eq_getElem h]; rfl
theorem drop_cons (s : Tx) (q : Nat) (h : q < s.length) : s.drop q = at' s q :: s.drop (q + 1) := by
  rw [at_eq h]; exact List.drop_eq_getElem_cons h
/-- Two ends are told apart at the first unlike byte. -/
theorem less_at (t : Bool) (s : Tx) : ∀ (e q r : Nat), (∀ f, f < e → at' s (q + f) = at' s (r + f)) → q + e < s.length → r + e < s.length → ltB t (at' s (q + e)) (at' s (r + e)) = true → less t (s.drop q) (s.drop r) = true
  | 0, q, r, _, hq, hr, h => by
    rw [drop_cons s q (by omega), drop_cons s r (by omega), less]
    have hne : ¬ at' s q = at' s r := fun e => by
      simp only [Nat.add_zero, e, ltB_irrefl] at h; cases h
    rw [if_neg hne]; simpa using h
  | e + 1, q, r, hf, hq, hr, h => by
    rw [drop_cons s q (by omega), drop_cons s r (by omega), less]
    have h0 := hf 0 (by omega)
    simp only [Nat.add_zero] at h0
    rw [if_pos h0]
    refine less_at t s e (q + 1) (r + 1) (fun f hfe => ?_) (by omega) (by omega) ?_
    · have := hf (f + 1) (by omega)
      rwa [show q + (f + 1) = q + 1 + f by omega, show r + (f + 1) = r + 1 + f by omega] at this
    · rwa [show q + (e + 1) = q + 1 + e by omega, show r + (e + 1) = r + 1 + e by omega] at h
/-- An end that a longer one begins with is less. -/
theorem less_front (t : Bool) (s : Tx) (q r : Nat) (hrq : r < q) (hq : q ≤ s.length) (hf : ∀ f, q + f < s.length → at' s (q + f) = at' s (r + f)) : less t (s.drop q) (s.drop r) = true := by
  have e : s.drop r = s.drop q ++ s.drop (r + (s.length - q)) := by
    have h1 := drop_split s r (r + (s.length - q)) (by omega)
    rw [show r + (s.length - q) - r = s.length - q by omega] at h1
    have h2 : (s.drop r).take (s.length - q) = s.drop q := by
      refine List.ext_getElem (by rw [List.length_take, List.length_drop, List.length_drop]; omega) fun j h1 h2 => ?_
      rw [List.length_drop] at h2
      rw [List.getElem_take, List.getElem_drop, List.getElem_drop]
      have := hf j (by omega)
      rw [at_eq (by omega), at_eq (by omega)] at this
      exact this.symm
    rw [h2] at h1; exact h1
  rw [e]
  refine less_more t _ _ fun h => ?_
  have := congrArg List.length h
  rw [List.length_drop] at this
  simp at this
  omega
/-- An end that isn't the greatest one. -/
def Not (t : Bool) (s : Tx) (q : Nat) : Prop := ∃ r, r < s.length ∧ less t (s.drop q) (s.drop r) = true
theorem max_exists (t : Bool) (s : Tx) (h : s ≠ []) : ∃ k, IsMax t s k := by
  have hn := List.length_pos_iff.2 h
  -- the greatest one of the first m
  have key : ∀ m, m < s.length → ∃ k, k ≤ m ∧ ∀ j, j ≤ m → j ≠ k → less t (s.drop j) (s.drop k) = true := fun m => by
    induction m with
    | zero => exact fun _ => ⟨0, by omega, fun j hj hne => by omega⟩
    | succ m ih =>
      intro hm
      obtain ⟨k, hk, hall⟩ := ih (by omega)
      rcases less_tri t (s.drop k) (s.drop (m + 1)) with h1 | h1 | h1
      · refine ⟨m + 1, by omega, fun j hj hne => ?_⟩
        by_cases e : j = k
        · rw [e]; exact h1
        · exact less_trans t _ _ _ (hall j (by omega) e) h1
      · have := congrArg List.length h1
        rw [List.length_drop, List.length_drop] at this
        omega
      · refine ⟨k, by omega, fun j hj hne => ?_⟩
        by_cases e : j = m + 1
        · rw [e]; exact h1
        · exact hall j (by omega) hne
  obtain ⟨k, hk, hall⟩ := key (s.length - 1) (by omega)
  exact ⟨k, by omega, fun j hj hne => hall j (by omega) hne⟩
theorem max_of_not {t : Bool} {s : Tx} {k : Nat} (hs : s ≠ []) (h : ∀ q, q < s.length → q ≠ k → Not t s q) : IsMax t s k := by
  obtain ⟨m, hm⟩ := max_exists t s hs
  by_cases e : m = k
  · rw [← e]; exact hm
  · exfalso
    obtain ⟨r, hr, hl⟩ := h m hm.1 e
    by_cases e2 : r = m
    · rw [e2, less_irrefl] at hl; cases hl
    · rw [less_asymm t (hm.2 r hr e2)] at hl; cases hl
/-- What holds while ends are held against each other: i begins the greatest one so far, j the one that is held against it, k bytes are alike, p is the period. -/
structure Inv (t : Bool) (s : Tx) (i j k p : Nat) : Prop where
  ij : i < j
  kp : k < p
  end' : j + k ≤ s.length
  times : ∃ c, 1 ≤ c ∧ j = i + p * c
  per : ∀ e, i ≤ e → e + p < j + k → at' s e = at' s (e + p)
  lyn : ∀ d, 0 < d → d < p → ∃ e, d + e < p ∧ (∀ f, f < e → at' s (i + d + f) = at' s (i + f)) ∧ ltB t (at' s (i + d + e)) (at' s (i + e)) = true
  out : ∀ q, q < i → Not t s q
theorem inv_start (t : Bool) (s : Tx) (h : s ≠ []) : Inv t s 0 1 0 1 :=
  ⟨by omega, by omega, by have := List.length_pos_iff.2 h; omega, ⟨1, by omega, by omega⟩, fun e _ h => by omega, fun d h1 h2 => by omega, fun q h => by omega⟩
theorem Inv.pers {t : Bool} {s : Tx} {i j k p : Nat} (h : Inv t s i j k p) : ∀ (c e : Nat), i ≤ e → e + p * c < j + k → at' s (e + p * c) = at' s e
  | 0, e, _, _ => by simp
  | c + 1, e, he, hc => by
    have e1 : p * (c + 1) = p * c + p := Nat.mul_succ p c
    have h1 := h.per (e + p * c) (by omega) (by omega)
    rw [show e + p * (c + 1) = e + p * c + p by omega, ← h1]
    exact h.pers c e he (by omega)
/-- Ends between i and j aren't the greatest one. -/
theorem Inv.mid {t : Bool} {s : Tx} {i j k p : Nat} (h : Inv t s i j k p) (q : Nat) (h1 : i < q) (h2 : q < j) : Not t s q := by
  have hp : 0 < p := by have := h.kp; omega
  have hend := h.end'
  obtain ⟨c, hc1, hc⟩ := h.times
  have hdm := Nat.div_add_mod (q - i) p
  have hm := Nat.mod_lt (q - i) hp
  have hac : (q - i) / p < c := by
    refine (Nat.div_lt_iff_lt_mul hp).2 ?_
    rw [Nat.mul_comm]; omega
  have hblk : p * ((q - i) / p) + p ≤ p * c := by
    have := Nat.mul_le_mul_left p (show (q - i) / p + 1 ≤ c by omega)
    rwa [Nat.mul_succ] at this
  generalize (q - i) / p = a at *
  generalize (q - i) % p = d at *
  rcases Nat.eq_zero_or_pos d with hd | hd
  · -- so many times the period on
    have hqj : q + p ≤ j := by omega
    have hqi : i + p ≤ q := by
      rcases Nat.eq_zero_or_pos a with h0 | h0
      · rw [h0] at hdm; simp at hdm; omega
      · have := Nat.mul_le_mul_left p h0
        omega
    -- the end from q on begins with p bytes that stand ahead of it, too
    have hy : ∀ f, f < p → at' s (q - p + f) = at' s (q + f) := fun f hf => by
      have := h.per (q - p + f) (by omega) (by omega)
      rw [this]; congr 1; omega
    rcases less_tri t (s.drop q) (s.drop (q - p)) with h3 | h3 | h3
    · exact ⟨q - p, by omega, h3⟩
    · have := congrArg List.length h3
      rw [List.length_drop, List.length_drop] at this
      omega
    · -- then the next one is greater
      rcases Nat.lt_or_ge (q + p) s.length with h5 | h5
      · refine ⟨q + p, h5, ?_⟩
        have e1 := drop_split s (q - p) q (by omega)
        have e2 := drop_split s q (q + p) (by omega)
        rw [show q - (q - p) = p by omega] at e1
        rw [show q + p - q = p by omega] at e2
        have e3 : (s.drop (q - p)).take p = (s.drop q).take p := by
          refine List.ext_getElem (by rw [List.length_take, List.length_take, List.length_drop, List.length_drop]; omega) fun f hf1 hf2 => ?_
          rw [List.length_take] at hf1
          rw [List.getElem_take, List.getElem_take, List.getElem_drop, List.getElem_drop]
          have := hy f (by omega)
          rwa [at_eq (by rw [List.length_take, List.length_drop] at hf2; omega), at_eq (by rw [List.length_take, List.length_drop] at hf2; omega)] at this
        rw [e3] at e1
        generalize (s.drop q).take p = y at e1 e2
        have h6 : less t (y ++ s.drop q) (y ++ s.drop (q + p)) = true := by rw [← e1, ← e2]; exact h3
        rwa [less_append] at h6
      · exfalso
        have : less t (s.drop q) (s.drop (q - p)) = true := less_front t s q (q - p) (by omega) (by omega) fun f hf => by
          have := hy f (by omega)
          exact this.symm
        rw [less_asymm t this] at h3; cases h3
  · obtain ⟨e, he1, he2, he3⟩ := h.lyn d hd hm
    refine ⟨i, by omega, less_at t s e q i (fun f hf => ?_) (by omega) (by omega) ?_⟩
    · have h7 := h.pers a (i + d + f) (by omega) (by omega)
      rw [← he2 f hf, ← h7]; congr 1; omega
    · have h7 := h.pers a (i + d + e) (by omega) (by omega)
      rw [show q + e = i + d + e + p * a by omega, h7]; exact he3
/-- One more byte is alike. -/
theorem Inv.same {t : Bool} {s : Tx} {i j k p : Nat} (h : Inv t s i j k p) (hn : j + k < s.length) (he : at' s (j + k) = at' s (i + k)) (hk : k + 1 < p) : Inv t s i j (k + 1) p := by
  refine ⟨h.ij, hk, by omega, h.times, fun e h1 h2 => ?_, h.lyn, h.out⟩
  rcases Nat.lt_or_ge (e + p) (j + k) with h3 | h3
  · exact h.per e h1 h3
  · obtain ⟨c, hc1, hc⟩ := h.times
    obtain ⟨c', rfl⟩ : ∃ c', c = c' + 1 := ⟨c - 1, by omega⟩
    have e1 : p * (c' + 1) = p * c' + p := Nat.mul_succ p c'
    have h4 := h.pers c' (i + k) (by omega) (by have := h.kp; omega)
    rw [show e + p = j + k by omega, he, ← h4]
    congr 1; omega
/-- .. and a whole period is. -/
theorem Inv.whole {t : Bool} {s : Tx} {i j k p : Nat} (h : Inv t s i j k p) (hn : j + k < s.length) (he : at' s (j + k) = at' s (i + k)) (hk : k + 1 = p) : Inv t s i (j + p) 0 p := by
  obtain ⟨c, hc1, hc⟩ := h.times
  refine ⟨by have := h.ij; omega, by omega, by omega, ⟨c + 1, by omega, by rw [Nat.mul_succ]; omega⟩, fun e h1 h2 => ?_, h.lyn, h.out⟩
  rcases Nat.lt_or_ge (e + p) (j + k) with h3 | h3
  · exact h.per e h1 h3
  · obtain ⟨c', rfl⟩ : ∃ c', c = c' + 1 := ⟨c - 1, by omega⟩
    have e1 : p * (c' + 1) = p * c' + p := Nat.mul_succ p c'
    have h4 := h.pers c' (i + k) (by omega) (by omega)
    rw [show e + p = j + k by omega, he, ← h4]
    congr 1; omega
/-- The byte held against it is less: all so far is one period. -/
theorem Inv.lesser {t : Bool} {s : Tx} {i j k p : Nat} (h : Inv t s i j k p) (hn : j + k < s.length) (hl : ltB t (at' s (j + k)) (at' s (i + k)) = true) : Inv t s i (j + k + 1) 0 (j + k + 1 - i) := by
  have hij := h.ij
  have hp : 0 < p := by have := h.kp; omega
  have hkp := h.kp
  obtain ⟨c, hc1, hc⟩ := h.times
  refine ⟨by omega, by omega, by omega, ⟨1, by omega, by omega⟩, fun e h1 h2 => by omega, fun d hd1 hd2 => ?_, h.out⟩
  have hdm := Nat.div_add_mod d p
  have hm := Nat.mod_lt d hp
  generalize d / p = a at *
  generalize d % p = d0 at *
  -- the last byte, seen from i on, d places ahead of its place
  rcases Nat.eq_zero_or_pos d0 with h0 | h0
  · -- so many periods on: up to the last byte it is alike
    refine ⟨j + k - i - d, by omega, fun f hf => ?_, ?_⟩
    · have h4 := h.pers a (i + f) (by omega) (by omega)
      rw [← h4]; congr 1; omega
    · have hac : a ≤ c := by
        rcases Nat.lt_or_ge c a with h9 | h9
        · have := Nat.mul_le_mul_left p (show c + 1 ≤ a from h9)
          rw [Nat.mul_succ] at this
          omega
        · exact h9
      have e5 : p * c = p * a + p * (c - a) := by rw [← Nat.mul_add]; congr 1; omega
      rw [show i + d + (j + k - i - d) = j + k by omega]
      have e6 : at' s (i + (j + k - i - d)) = at' s (i + k) := by
        have h4 := h.pers (c - a) (i + k) (by omega)
        rcases Nat.eq_zero_or_pos a with ha | ha
        · rw [ha] at hdm; simp at hdm; omega
        · have := Nat.mul_le_mul_left p (show 1 ≤ a from ha)
          have h5 := h4 (by omega)
          rw [← h5]; congr 1; omega
      rw [e6]; exact hl
  · obtain ⟨e, he1, he2, he3⟩ := h.lyn d0 h0 hm
    rcases Nat.lt_or_ge (i + d + e) (j + k) with h5 | h5
    · refine ⟨e, by omega, fun f hf => ?_, ?_⟩
      · have h4 := h.pers a (i + d0 + f) (by omega) (by omega)
        rw [← he2 f hf, ← h4]; congr 1; omega
      · have h4 := h.pers a (i + d0 + e) (by omega) (by omega)
        rw [show i + d + e = i + d0 + e + p * a by omega, h4]; exact he3
    · -- the last byte comes first
      refine ⟨j + k - i - d, by omega, fun f hf => ?_, ?_⟩
      · have h4 := h.pers a (i + d0 + f) (by omega) (by omega)
        rw [← he2 f (by omega), ← h4]; congr 1; omega
      · rw [show i + d + (j + k - i - d) = j + k by omega]
        -- d0 + (its place from i on) = k
        have hac : a = c := by
          rcases Nat.lt_trichotomy a c with h9 | h9 | h9
          · have := Nat.mul_le_mul_left p (show a + 1 ≤ c from h9)
            rw [Nat.mul_succ] at this
            omega
          · exact h9
          · have := Nat.mul_le_mul_left p (show c + 1 ≤ a from h9)
            rw [Nat.mul_succ] at this
            omega
        subst hac
        have e7 : j + k - i - d + d0 = k := by omega
        rcases Nat.lt_or_ge (j + k - i - d) e with h6 | h6
        · have h8 := he2 (j + k - i - d) h6
          rw [show i + d0 + (j + k - i - d) = i + k by omega] at h8
          rw [← h8]; exact hl
        · have h9 : j + k - i - d = e := by omega
          rw [h9]
          rw [h9] at e7
          rw [show i + d0 + e = i + k by omega] at he3
          exact ltB_trans t hl he3
/-- .. is greater: it begins anew at j. -/
theorem Inv.greater {t : Bool} {s : Tx} {i j k p : Nat} (h : Inv t s i j k p) (hn : j + k < s.length) (hg : ltB t (at' s (i + k)) (at' s (j + k)) = true) : Inv t s j (j + 1) 0 1 := by
  refine ⟨by omega, by omega, by omega, ⟨1, by omega, by omega⟩, fun e h1 h2 => by omega, fun d h1 h2 => by omega, fun q hq => ?_⟩
  rcases Nat.lt_trichotomy q i with h1 | h1 | h1
  · exact h.out q h1
  · subst h1
    obtain ⟨c, hc1, hc⟩ := h.times
    refine ⟨j, by omega, less_at t s k q j (fun f hf => ?_) (by have := h.ij; omega) hn hg⟩
    have h4 := h.pers c (q + f) (by omega) (by omega)
    rw [← h4]; congr 1; omega
  · exact h.mid q h1 hq
/-- All is gone through: i begins the greatest end, and p is its least period. -/
theorem Inv.done {t : Bool} {s : Tx} {i j k p : Nat} (h : Inv t s i j k p) (hn : j + k = s.length) : IsMax t s i ∧ Least (s.drop i) p := by
  have hij := h.ij
  have hkp := h.kp
  obtain ⟨c, hc1, hc⟩ := h.times
  have hpc : p ≤ p * c := by have := Nat.mul_le_mul_left p hc1; omega
  have hs : s ≠ [] := fun e => by rw [e] at hn; simp at hn; omega
  refine ⟨max_of_not hs fun q hq hne => ?_, ⟨by omega, fun e he => ?_⟩, fun r hr => ?_⟩
  · rcases Nat.lt_trichotomy q i with h1 | h1 | h1
    · exact h.out q h1
    · exact absurd h1 hne
    rcases Nat.lt_or_ge q j with h2 | h2
    · exact h.mid q h1 h2
    -- behind j: what is left is a beginning, or falls off
    have hfr : ∀ f, f < k → at' s (j + f) = at' s (i + f) := fun f hf => by
      have h4 := h.pers c (i + f) (by omega) (by omega)
      rw [← h4]; congr 1; omega
    rcases Nat.eq_zero_or_pos (q - j) with h3 | h3
    · refine ⟨i, by omega, less_front t s q i h1 (by omega) fun f hf => ?_⟩
      rw [show q = j by omega]; exact hfr f (by omega)
    · obtain ⟨e, he1, he2, he3⟩ := h.lyn (q - j) h3 (by omega)
      rcases Nat.lt_or_ge (q - j + e) k with h5 | h5
      · refine ⟨i, by omega, less_at t s e q i (fun f hf => ?_) (by omega) (by omega) ?_⟩
        · have := hfr (q - j + f) (by omega)
          rw [show j + (q - j + f) = q + f by omega] at this
          rw [this, ← he2 f hf]; congr 1; omega
        · have := hfr (q - j + e) h5
          rw [show j + (q - j + e) = q + e by omega] at this
          rw [this, show i + (q - j + e) = i + (q - j) + e by omega]; exact he3
      · refine ⟨i, by omega, less_front t s q i h1 (by omega) fun f hf => ?_⟩
        have := hfr (q - j + f) (by omega)
        rw [show j + (q - j + f) = q + f by omega] at this
        rw [this, ← he2 f (by omega)]; congr 1; omega
  · rw [List.length_drop] at he
    have := h.per (i + e) (by omega) (by omega)
    rw [at_eq (by omega), at_eq (by omega)] at this
    rw [List.getElem_drop, List.getElem_drop, this]
    congr 1; omega
  · rcases Nat.lt_or_ge r p with h1 | h1
    · exfalso
      obtain ⟨e, he1, he2, he3⟩ := h.lyn r hr.1 h1
      have := hr.2 e (by rw [List.length_drop]; omega)
      rw [List.getElem_drop, List.getElem_drop, ← at_eq (by omega), ← at_eq (by omega)] at this
      rw [show i + r + e = i + (e + r) by omega, ← this, ltB_irrefl] at he3
      cases he3
    · exact h1
end Go.Proofs.YtcbhjhhajeeimaaGreat.Crt
/- Borders of a text: each one's, the longest one, and how it comes of a text that has one byte less. -/
namespace Go.Proofs.YtcbhjhhajeeimaaGreat.Crt
set_option maxRecDepth 100000
/-- A border of n bytes. -/
def Bord (s : Tx) (n : Nat) : Prop := 0 < n ∧ n < s.length ∧ s.take n = s.drop (s.length - n)
instance (s : Tx) (n : Nat) : Decidable (Bord s n) := inferInstanceAs (Decidable (_ ∧ _ ∧ _))
theorem bord_per {s : Tx} {n : Nat} : Bord s n ↔ 0 < n ∧ n < s.length ∧ Per s (s.length - n) := by
  constructor
  · rintro ⟨h1, h2, h3⟩; exact ⟨h1, h2, (border_per s n h2).1 h3⟩
  · rintro ⟨h1, h2, h3⟩; exact ⟨h1, h2, (border_per s n h2).2 h3⟩
/-- All borders, falling. -/
def bordTo (s : Tx) : Nat → List Nat
  | 0 => []
  | n + 1 => if Bord s n then n :: bordTo s n else bordTo s n
def borders (s : Tx) : List Nat := bordTo s s.length
theorem mem_bordTo (s : Tx) (n : Nat) : ∀ m, n ∈ bordTo s m ↔ n < m ∧ Bord s n
  | 0 => by simp [bordTo]
  | m + 1 => by
    rw [bordTo]
    by_cases h : Bord s m
    · rw [if_pos h, List.mem_cons, mem_bordTo s n m]
      constructor
      · rintro (rfl | ⟨h1, h2⟩)
        · exact ⟨by omega, h⟩
        · exact ⟨by omega, h2⟩
      · rintro ⟨h1, h2⟩
        by_cases e : n = m
        · exact .inl e
        · exact .inr ⟨by omega, h2⟩
    · rw [if_neg h, mem_bordTo s n m]
      constructor
      · rintro ⟨h1, h2⟩; exact ⟨by omega, h2⟩
      · rintro ⟨h1, h2⟩
        refine ⟨?_, h2⟩
        rcases Nat.lt_or_ge n m with h3 | h3
        · exact h3
        · exact absurd (show Bord s m by rw [show m = n by omega]; exact h2) h
theorem mem_borders (s : Tx) (n : Nat) : n ∈ borders s ↔ Bord s n := by
  rw [borders, mem_bordTo]
  exact ⟨fun h => h.2, fun h => ⟨h.2.1, h⟩⟩
theorem bordTo_falls (s : Tx) : ∀ m, (bordTo s m).Pairwise fun a b => b < a
  | 0 => by simp [bordTo]
  | m + 1 => by
    rw [bordTo]
    split
    · exact List.pairwise_cons.2 ⟨fun b hb => ((mem_bordTo s b m).1 hb).1, bordTo_falls s m⟩
    · exact bordTo_falls s m
/-- The longest border, or 0. -/
def fl (s : Tx) : Nat := (borders s).headD 0
theorem fl_zero {s : Tx} (h : fl s = 0) : borders s = [] := by
  unfold fl at h
  cases e : borders s with
  | nil => rfl
  | cons a l =>
    rw [e] at h
    have : Bord s a := (mem_borders s a).1 (by rw [e]; simp)
    have := this.1
    simp at h; omega
theorem fl_bord {s : Tx} (h : fl s ≠ 0) : Bord s (fl s) := by
  unfold fl at *
  cases e : borders s with
  | nil => rw [e] at h; exact absurd rfl h
  | cons a l => exact (mem_borders s a).1 (by rw [e]; simp)
theorem bord_le {s : Tx} {n : Nat} (h : Bord s n) : n ≤ fl s := by
  have hm := (mem_borders s n).2 h
  have hp := bordTo_falls s s.length
  change (borders s).Pairwise _ at hp
  unfold fl
  cases e : borders s with
  | nil => rw [e] at hm; cases hm
  | cons a l =>
    rw [e] at hm hp
    rcases List.mem_cons.1 hm with rfl | hm
    · exact Nat.le_refl _
    · have := (List.pairwise_cons.1 hp).1 n hm
      simp; omega
theorem fl_lt {s : Tx} (h : s ≠ []) : fl s < s.length := by
  by_cases e : fl s = 0
  · rw [e]; exact List.length_pos_iff.2 h
  · exact (fl_bord e).2.1
/-- The least period is what the longest border leaves. -/
theorem fl_least {s : Tx} (h : s ≠ []) : Least s (s.length - fl s) := by
  have hn := List.length_pos_iff.2 h
  refine ⟨?_, fun r hr => ?_⟩
  · by_cases e : fl s = 0
    · rw [e]; exact per_all s h
    · exact (bord_per.1 (fl_bord e)).2.2
  · rcases Nat.lt_or_ge r s.length with h1 | h1
    · have hb : Bord s (s.length - r) := bord_per.2 ⟨by omega, by have := hr.1; omega, by rw [show s.length - (s.length - r) = r by omega]; exact hr⟩
      have := bord_le hb
      omega
    · omega
theorem least_uniq {s : Tx} {p q : Nat} (h : Least s p) (h' : Least s q) : p = q := by
  have h1 := h.2 q h'.1
  have h2 := h'.2 p h.1
  omega
/-- Borders of a border are borders. -/
theorem bord_bord {s : Tx} {m n : Nat} (hm : Bord s m) (hn : n < m) : Bord s n ↔ Bord (s.take m) n := by
  have hl : (s.take m).length = m := by rw [List.length_take]; have := hm.2.1; omega
  have e1 : (s.take m).take n = s.take n := by rw [List.take_take]; congr 1; omega
  have e2 : (s.take m).drop (m - n) = s.drop (s.length - n) := by
    rw [hm.2.2, List.drop_drop]; congr 1; have := hm.2.1; omega
  unfold Bord
  rw [hl, e1, e2]
  exact ⟨fun h => ⟨h.1, hn, h.2.2⟩, fun h => ⟨h.1, by have := hm.2.1; omega, h.2.2⟩⟩
theorem bordTo_congr (s u : Tx) : ∀ m, (∀ n, n < m → (Bord s n ↔ Bord u n)) → bordTo s m = bordTo u m
  | 0, _ => rfl
  | m + 1, h => by
    have ih := bordTo_congr s u m fun n hn => h n (by omega)
    have hm := h m (by omega)
    rw [bordTo, bordTo, ih]
    by_cases e : Bord s m
    · rw [if_pos e, if_pos (hm.1 e)]
    · rw [if_neg e, if_neg (fun q => e (hm.2 q))]
theorem bordTo_skip (s : Tx) (m : Nat) (h : ∀ n, Bord s n → n < m) : ∀ d, bordTo s (m + d) = bordTo s m
  | 0 => rfl
  | d + 1 => by
    rw [← Nat.add_assoc, bordTo, if_neg (fun e => by have := h _ e; omega), bordTo_skip s m h d]
/-- All borders: the longest one, and its own. -/
theorem borders_chain (s : Tx) : borders s = if fl s = 0 then [] else fl s :: borders (s.take (fl s)) := by
  by_cases e : fl s = 0
  · rw [if_pos e, fl_zero e]
  · rw [if_neg e]
    have hb := fl_bord e
    have hl : (s.take (fl s)).length = fl s := by rw [List.length_take]; have := hb.2.1; omega
    have h1 : borders s = bordTo s (fl s + 1) := by
      have := bordTo_skip s (fl s + 1) (fun n hn => by have := bord_le hn; omega) (s.length - (fl s + 1))
      rw [borders, ← this]; congr 1; have := hb.2.1; omega
    rw [h1, bordTo, if_pos hb]
    congr 1
    rw [borders, hl]
    exact bordTo_congr s (s.take (fl s)) (fl s) fun n hn => bord_bord hb hn
/-- A border of a text and a byte. -/
theorem bord_snoc {s : Tx} {k n : Nat} (hk : k < s.length) (_hk0 : 0 < k) (hn : n < k) : Bord (s.take (k + 1)) (n + 1) ↔ (n = 0 ∨ Bord (s.take k) n) ∧ at' s n = at' s k := by
  have hl : (s.take (k + 1)).length = k + 1 := by rw [List.length_take]; omega
  have hl2 : (s.take k).length = k := by rw [List.length_take]; omega
  have hat : ∀ {m i : Nat} (h : i < (s.take m).length), (s.take m)[i] = at' s i := fun {m i} h => by
    rw [List.length_take] at h
    rw [List.getElem_take, at_eq (by omega)]
  constructor
  · intro h
    obtain ⟨_, _, hp⟩ := bord_per.1 h
    rw [hl] at hp
    have hlast := hp.2 n (by rw [hl]; omega)
    rw [hat, hat] at hlast
    refine ⟨?_, by rw [hlast]; congr 1; omega⟩
    rcases Nat.eq_zero_or_pos n with h0 | h0
    · exact .inl h0
    · refine .inr (bord_per.2 ⟨h0, by rw [hl2]; exact hn, by rw [hl2]; omega, fun i hi => ?_⟩)
      rw [hl2] at hi
      have := hp.2 i (by rw [hl]; omega)
      rw [hat, hat] at this ⊢
      rw [this]; congr 1; omega
  · rintro ⟨h1, h2⟩
    refine bord_per.2 ⟨by omega, by rw [hl]; omega, by rw [hl]; omega, fun i hi => ?_⟩
    rw [hl] at hi
    rw [hat, hat, hl]
    rcases Nat.lt_or_ge i n with h3 | h3
    · rcases h1 with h0 | h0
      · omega
      · obtain ⟨_, _, hp⟩ := bord_per.1 h0
        rw [hl2] at hp
        have := hp.2 i (by rw [hl2]; omega)
        rw [hat, hat] at this
        rw [this]; congr 1; omega
    · rw [show i = n by omega, show n + (k + 1 - (n + 1)) = k by omega]; exact h2
/-- Looking for the longest border of one byte more: m is the next one that may be lengthened. -/
structure Seek (s : Tx) (k m : Nat) : Prop where
  is : m = 0 ∨ Bord (s.take k) m
  lt : m < k
  most : ∀ n, n < k → (n = 0 ∨ Bord (s.take k) n) → at' s n = at' s k → n ≤ m
theorem seek_start {s : Tx} {k : Nat} (hk : k < s.length) (h0 : 0 < k) : Seek s k (fl (s.take k)) := by
  have hl : (s.take k).length = k := by rw [List.length_take]; omega
  have hne : s.take k ≠ [] := fun e => by rw [e] at hl; simp at hl; omega
  have hlt := fl_lt hne
  rw [hl] at hlt
  refine ⟨?_, hlt, fun n hn hb _ => ?_⟩
  · by_cases e : fl (s.take k) = 0
    · exact .inl e
    · exact .inr (fl_bord e)
  · rcases hb with rfl | hb
    · omega
    · exact bord_le hb
theorem Seek.fall {s : Tx} {k m : Nat} (h : Seek s k m) (h0 : 0 < m) (hne : at' s m ≠ at' s k) : Seek s k (fl (s.take m)) := by
  have hb : Bord (s.take k) m := h.is.resolve_left (by omega)
  have hmk := h.lt
  have etk : (s.take k).take m = s.take m := by rw [List.take_take]; congr 1; omega
  have hl : (s.take m).length = m := by
    have := hb.2.1
    rw [List.length_take] at this ⊢; omega
  have hnn : s.take m ≠ [] := fun e => by rw [e] at hl; simp at hl; omega
  have hlt := fl_lt hnn
  rw [hl] at hlt
  refine ⟨?_, by omega, fun n hn hbn he => ?_⟩
  · by_cases e : fl (s.take m) = 0
    · exact .inl e
    · refine .inr ((bord_bord hb hlt).2 ?_)
      rw [etk]; exact fl_bord e
  · have h1 := h.most n hn hbn he
    have h2 : n ≠ m := fun e => hne (by rw [← e]; exact he)
    rcases hbn with rfl | hbn
    · omega
    · refine bord_le ?_
      have := (bord_bord hb (show n < m by omega)).1 hbn
      rwa [etk] at this
theorem Seek.hit {s : Tx} {k m : Nat} (h : Seek s k m) (hk : k < s.length) (he : at' s m = at' s k) : fl (s.take (k + 1)) = m + 1 := by
  have hmk := h.lt
  have hb := (bord_snoc hk (by omega) hmk).2 ⟨h.is, he⟩
  have h1 := bord_le hb
  rcases Nat.lt_or_ge (m + 1) (fl (s.take (k + 1))) with h2 | h2
  · exfalso
    have hf := fl_bord (s := s.take (k + 1)) (by omega)
    have hl : (s.take (k + 1)).length = k + 1 := by rw [List.length_take]; omega
    have h3 := hf.2.1
    rw [hl] at h3
    obtain ⟨n, hn⟩ : ∃ n, fl (s.take (k + 1)) = n + 1 := ⟨fl (s.take (k + 1)) - 1, by omega⟩
    rw [hn] at hf h2 h3
    obtain ⟨h4, h5⟩ := (bord_snoc hk (by omega) (by omega)).1 hf
    have := h.most n (by omega) h4 h5
    omega
  · omega
theorem Seek.miss {s : Tx} {k : Nat} (h : Seek s k 0) (hk : k < s.length) (he : at' s 0 ≠ at' s k) : fl (s.take (k + 1)) = 0 := by
  rcases Nat.eq_zero_or_pos (fl (s.take (k + 1))) with h1 | h1
  · exact h1
  · exfalso
    have hf := fl_bord (s := s.take (k + 1)) (by omega)
    have hl : (s.take (k + 1)).length = k + 1 := by rw [List.length_take]; omega
    have h3 := hf.2.1
    rw [hl] at h3
    obtain ⟨n, hn⟩ : ∃ n, fl (s.take (k + 1)) = n + 1 := ⟨fl (s.take (k + 1)) - 1, by omega⟩
    rw [hn] at hf h3
    have hlt := h.lt
    obtain ⟨h4, h5⟩ := (bord_snoc hk hlt (by omega)).1 hf
    have := h.most n (by omega) h4 h5
    obtain rfl : n = 0 := by omega
    exact he h5
theorem fl_one (s : Tx) : fl (s.take 1) = 0 := by
  rcases Nat.eq_zero_or_pos (fl (s.take 1)) with h | h
  · exact h
  · have := fl_bord (s := s.take 1) (by omega)
    have h2 := this.2.1
    rw [List.length_take] at h2
    omega
/-- A text twice. -/
theorem twice_per {b : Tx} (h : b ≠ []) : Per (b ++ b) b.length := by
  refine ⟨List.length_pos_iff.2 h, fun i hi => ?_⟩
  rw [List.length_append] at hi
  rw [List.getElem_append_left (by omega), List.getElem_append_right (by omega)]
  congr 1; omega
theorem Per.front {b c : Tx} {p : Nat} (h : Per (b ++ c) p) : Per b p := by
  refine ⟨h.1, fun i hi => ?_⟩
  have := h.2 i (by rw [List.length_append]; omega)
  rwa [List.getElem_append_left (by omega), List.getElem_append_left hi] at this
end Go.Proofs.YtcbhjhhajeeimaaGreat.Crt
/- What the document's own loops of layers 11 and 12 find: the greatest end one by one, the least period, the borders; the least period at a place. -/
namespace Go.Proofs.YtcbhjhhajeeimaaGreat.Crt
set_option maxRecDepth 100000
/-- The place of the greatest of the ends that begin below k. -/
def bestTo (t : Bool) (s : Tx) : Nat → Nat
  | 0 => 0
  | k + 1 => if less t (s.drop (bestTo t s k)) (s.drop k) then k else bestTo t s k
theorem bestTo_one (t : Bool) (s : Tx) : bestTo t s 1 = 0 := by
  show (if less t (s.drop 0) (s.drop 0) = true then 0 else 0) = 0
  split <;> rfl
theorem drop_ne {s : Tx} {i j : Nat} (hi : i < s.length) (hj : j < s.length) (h : i ≠ j) : s.drop i ≠ s.drop j := fun e => by
  have := congrArg List.length e
  rw [List.length_drop, List.length_drop] at this
  omega
theorem bestTo_inv (t : Bool) (s : Tx) : ∀ k, k ≤ s.length → 0 < k → bestTo t s k < k ∧ ∀ j, j < k → j ≠ bestTo t s k → less t (s.drop j) (s.drop (bestTo t s k)) = true
  | 0, _, h => absurd h (by omega)
  | k + 1, hk, _ => by
    rcases Nat.eq_zero_or_pos k with h0 | h0
    · subst h0
      rw [bestTo_one]
      exact ⟨by omega, fun j hj hn => by omega⟩
    obtain ⟨h1, h2⟩ := bestTo_inv t s k (by omega) h0
    rw [bestTo]
    by_cases hl : less t (s.drop (bestTo t s k)) (s.drop k) = true
    · rw [if_pos hl]
      refine ⟨by omega, fun j hj hn => ?_⟩
      by_cases e : j = bestTo t s k
      · rw [e]; exact hl
      · exact less_trans t _ _ _ (h2 j (by omega) e) hl
    · rw [if_neg hl]
      refine ⟨by omega, fun j hj hn => ?_⟩
      by_cases e : j = k
      · subst e
        rcases less_tri t (s.drop (bestTo t s j)) (s.drop j) with h | h | h
        · exact absurd h hl
        · exact absurd h (drop_ne (by omega) (by omega) (by omega))
        · exact h
      · exact h2 j (by omega) hn
/-- Gone through all, that is the greatest end. -/
theorem best_max {t : Bool} {s : Tx} (hs : s ≠ []) : IsMax t s (bestTo t s s.length) := by
  have h := bestTo_inv t s s.length (Nat.le_refl _) (List.length_pos_iff.2 hs)
  exact ⟨h.1, h.2⟩
theorem best_is {t : Bool} {s : Tx} {k : Nat} (h : IsMax t s k) : bestTo t s s.length = k := isMax_uniq (best_max (fun e => by have := h.1; rw [e] at this; simp at this)) h
/-- A text's least period; 0 of the empty one. -/
def per (s : Tx) : Nat := if s = [] then 0 else s.length - fl s
theorem per_nil : per [] = 0 := rfl
theorem per_least {s : Tx} (h : s ≠ []) : Least s (per s) := by
  rw [per, if_neg h]; exact fl_least h
theorem per_is {s : Tx} {p : Nat} (h : s ≠ []) (hp : Least s p) : per s = p := least_uniq (per_least h) hp
/-- Found one by one: the first one that is a period. -/
theorem per_first {s : Tx} {p : Nat} (h : s ≠ []) (hp : Per s p) (hn : ∀ q, 1 ≤ q → q < p → ¬ Per s q) : per s = p :=
  per_is h ⟨hp, fun r hr => Nat.le_of_not_lt fun hlt => hn r hr.1 hlt hr⟩
theorem per_pos {s : Tx} (h : s ≠ []) : 1 ≤ per s := (per_least h).1.1
theorem per_le {s : Tx} (h : s ≠ []) : per s ≤ s.length := (per_least h).le h
/-- The longest border leaves the least period. -/
theorem per_fl {s : Tx} (h : s ≠ []) : per s + fl s = s.length := by
  rw [per, if_neg h]
  have := fl_lt h
  omega
/-- Whether the first n of a text's pairs of bytes that lie p apart are alike. -/
def alike (s : Tx) (p : Nat) : Nat → Bool
  | 0 => true
  | n + 1 => alike s p n && at' s n == at' s (n + p)
theorem alike_iff (s : Tx) (p : Nat) : ∀ n, alike s p n = true ↔ ∀ i, i < n → at' s i = at' s (i + p)
  | 0 => by simp [alike]
  | n + 1 => by
    rw [alike, Bool.and_eq_true, alike_iff s p n, beq_iff_eq]
    constructor
    · rintro ⟨h1, h2⟩ i hi
      rcases Nat.lt_or_ge i n with h | h
      · exact h1 i h
      · obtain rfl : i = n := by omega
        exact h2
    · exact fun h => ⟨fun i hi => h i (by omega), h n (by omega)⟩
theorem alike_per {s : Tx} {p : Nat} (hp : 1 ≤ p) (h : p ≤ s.length) : alike s p (s.length - p) = true ↔ Per s p := by
  rw [alike_iff]
  constructor
  · intro hh
    refine ⟨hp, fun i hi => ?_⟩
    have := hh i (by omega)
    rwa [at_eq (by omega), at_eq hi] at this
  · rintro ⟨_, hh⟩ i hi
    rw [at_eq (by omega), at_eq (by omega)]
    exact hh i (by omega)
/-- Borders, gone through from the longest on. -/
theorem bordTo_step (s : Tx) (n : Nat) : bordTo s (n + 1) = if Bord s n then n :: bordTo s n else bordTo s n := rfl
theorem bordTo_low (s : Tx) : bordTo s 1 = [] := by
  rw [bordTo_step, if_neg fun h => by have := h.1; omega]
  rfl
theorem borders_nil : borders [] = [] := rfl
/-- A greatest end's period stands within it. -/
theorem max_per {t : Bool} {s : Tx} {k : Nat} (h : IsMax t s k) : 1 ≤ per (s.drop k) ∧ k + per (s.drop k) ≤ s.length := by
  have hk := h.1
  have hne : s.drop k ≠ [] := fun e => by have := congrArg List.length e; rw [List.length_drop, List.length_nil] at this; omega
  have h1 := per_pos hne
  have h2 := per_le hne
  rw [List.length_drop] at h2
  omega
end Go.Proofs.YtcbhjhhajeeimaaGreat.Crt
/- Mathematics of stage 12: where a text is cut, and the least period at a place. -/
namespace Go.Proofs.YtcbhjhhajeeimaaGreat.Crt
set_option maxRecDepth 100000
/-- The least period at a place. -/
def LeastLoc (s : Tx) (k p : Nat) : Prop := Loc s k p ∧ ∀ r, Loc s k r → p ≤ r
theorem leastLoc_uniq {s : Tx} {k p q : Nat} (h : LeastLoc s k p) (h' : LeastLoc s k q) : p = q :=
  Nat.le_antisymm (h.2 _ h'.1) (h'.2 _ h.1)
theorem leastLoc_first {s : Tx} {k p : Nat} (hp : Loc s k p) (hn : ∀ q, 1 ≤ q → q < p → ¬ Loc s k q) : LeastLoc s k p :=
  ⟨hp, fun r hr => Nat.le_of_not_lt fun hlt => hn r hr.1 hlt hr⟩
/-- There is one, no greater than the text's own. -/
theorem leastLoc_exists {s : Tx} (h : s ≠ []) (k : Nat) : ∃ p, LeastLoc s k p ∧ 1 ≤ p ∧ p ≤ per s := by
  have key : ∀ n p, p ≤ n → Loc s k p → ∃ q, LeastLoc s k q ∧ q ≤ p := by
    intro n
    induction n with
    | zero => intro p hp hl; have := hl.1; omega
    | succ n ih =>
      intro p hp hl
      rcases Classical.em (∃ q, q < p ∧ Loc s k q) with ⟨q, hq, hlq⟩ | hno
      · obtain ⟨r, hr, hle⟩ := ih q (by omega) hlq
        exact ⟨r, hr, by omega⟩
      · exact ⟨p, leastLoc_first hl fun q _ hq hlq => hno ⟨q, hq, hlq⟩, Nat.le_refl _⟩
  obtain ⟨q, hq, hle⟩ := key _ _ (Nat.le_refl _) ((per_least h).1.loc k)
  exact ⟨q, hq, hq.1.1, hle⟩
/-- Whether a number is a period at a place, gone through i by i from 'at less p' on: m of them. -/
def locB (s : Tx) (k p : Nat) : Nat → Bool
  | 0 => true
  | m + 1 => locB s k p m && (decide (k + m < p) || decide (s.length ≤ k + m) || at' s (k + m - p) == at' s (k + m))
theorem locB_iff (s : Tx) (k p : Nat) : ∀ m, locB s k p m = true ↔ ∀ j, j < m → k + j < p ∨ s.length ≤ k + j ∨ at' s (k + j - p) = at' s (k + j)
  | 0 => by simp [locB]
  | m + 1 => by
    rw [locB, Bool.and_eq_true, locB_iff s k p m, Bool.or_eq_true, Bool.or_eq_true, decide_eq_true_iff, decide_eq_true_iff, beq_iff_eq, or_assoc]
    constructor
    · rintro ⟨h1, h2⟩ j hj
      rcases Nat.lt_or_ge j m with h | h
      · exact h1 j h
      · obtain rfl : j = m := by omega
        exact h2
    · exact fun h => ⟨fun j hj => h j (by omega), h m (by omega)⟩
theorem locB_loc {s : Tx} {k p : Nat} (hp : 1 ≤ p) : locB s k p p = true ↔ Loc s k p := by
  rw [locB_iff]
  constructor
  · intro hh
    refine ⟨hp, fun i hi h1 h2 => ?_⟩
    rcases hh (i + p - k) (by omega) with h | h | h
    · omega
    · omega
    · rw [show k + (i + p - k) - p = i by omega, show k + (i + p - k) = i + p by omega, at_eq (by omega), at_eq hi] at h
      exact h
  · rintro ⟨_, hh⟩ j hj
    by_cases h1 : k + j < p
    · exact .inl h1
    · by_cases h2 : s.length ≤ k + j
      · exact .inr (.inl h2)
      · have h := hh (k + j - p) (by omega) (by omega) (by omega)
        refine .inr (.inr ?_)
        rw [at_eq (by omega), at_eq (by omega), h]
        congr 1
        omega
/-- Where a text is cut: the later one of its two greatest ends. -/
def cutAt (s : Tx) : Nat := if bestTo false s s.length < bestTo true s s.length then bestTo true s s.length else bestTo false s s.length
theorem cutAt_max (s : Tx) : cutAt s = max (bestTo false s s.length) (bestTo true s s.length) := by
  unfold cutAt
  split <;> omega
theorem cutAt_is {s : Tx} {i j : Nat} (hi : IsMax false s i) (hj : IsMax true s j) : cutAt s = if i < j then j else i := by
  rw [cutAt, best_is hi, best_is hj]
theorem cut_one {s : Tx} (h : s ≠ []) : ∃ t, IsMax t s (cutAt s) := by
  unfold cutAt
  split
  · exact ⟨true, best_max h⟩
  · exact ⟨false, best_max h⟩
theorem cut_len {s : Tx} (h : s ≠ []) : cutAt s < s.length := by
  obtain ⟨t, ht⟩ := cut_one h
  exact ht.1
/-- The theorem of the cut. -/
theorem cut_per {s : Tx} (h : s ≠ []) {r : Nat} (hl : Loc s (cutAt s) r) : Per s r := by
  rw [cutAt_max] at hl
  exact critical_any (best_max h) (best_max h) hl
theorem cut_least {s : Tx} (h : s ≠ []) : LeastLoc s (cutAt s) (per s) :=
  ⟨(per_least h).1.loc _, fun r hr => (per_least h).2 r (cut_per h hr)⟩
/-- The cut stands ahead of the period. -/
theorem cut_below {s : Tx} (h : s ≠ []) : cutAt s < per s := by
  obtain ⟨t, ht⟩ := cut_one h
  exact cut_lt ht (per_least h).1
theorem cut_far {s : Tx} (h : s ≠ []) {r : Nat} (hl : Loc s (cutAt s) r) : cutAt s < r := by
  obtain ⟨t, ht⟩ := cut_one h
  exact cut_lt ht (cut_per h hl)
/-- The period of the end behind the cut. -/
def cutPer (s : Tx) : Nat := per (s.drop (cutAt s))
theorem drop_cut {s : Tx} (h : s ≠ []) : s.drop (cutAt s) ≠ [] := fun e => by
  have h1 := cut_len h
  have := congrArg List.length e
  rw [List.length_drop, List.length_nil] at this
  omega
theorem cutPer_least {s : Tx} (h : s ≠ []) : Least (s.drop (cutAt s)) (cutPer s) := per_least (drop_cut h)
theorem cutPer_le {s : Tx} (h : s ≠ []) : 1 ≤ cutPer s ∧ cutPer s + cutAt s ≤ s.length := by
  have h1 := per_pos (drop_cut h)
  have h2 := per_le (drop_cut h)
  rw [List.length_drop] at h2
  have := cut_len h
  unfold cutPer
  omega
/-- Are the first bytes those from the end's period on? -/
def Small (s : Tx) : Prop := ∀ i (_ : i < cutAt s) (h : i + cutPer s < s.length), s[i] = s[i + cutPer s]
theorem small_iff {s : Tx} (h : s ≠ []) : s.take (cutAt s) = (s.drop (cutPer s)).take (cutAt s) ↔ Small s := by
  obtain ⟨h1, h2⟩ := cutPer_le h
  constructor
  · intro e i hi hl
    have := congrArg (fun x : Tx => x[i]?) e
    simp only [List.getElem?_take, if_pos hi, List.getElem?_drop] at this
    rw [List.getElem?_eq_getElem (by omega), List.getElem?_eq_getElem (by omega)] at this
    have := Option.some.inj this
    rw [this]
    congr 1
    omega
  · intro hs
    apply List.ext_getElem?
    intro i
    rw [List.getElem?_take, List.getElem?_take, List.getElem?_drop]
    by_cases hi : i < cutAt s
    · rw [if_pos hi, if_pos hi, List.getElem?_eq_getElem (by omega), List.getElem?_eq_getElem (by omega), hs i hi (by omega)]
      congr 2
      omega
    · rw [if_neg hi, if_neg hi]
/-- If it is small, that is the text's least period. -/
theorem small_is {s : Tx} (h : s ≠ []) (hs : Small s) : per s = cutPer s := small_least (per_least h) (cutPer_least h) hs
/-- Else its period is above both of its parts. -/
theorem far_is {s : Tx} (h : s ≠ []) (hs : ¬ Small s) : max (cutAt s) (s.length - cutAt s) < per s :=
  far_of (fun _ hr => cut_per h hr) (fun _ hr => cut_far h hr) (per_least h) (cutPer_least h) (cut_len h) hs
/-- How far it may be moved. -/
theorem move_le {s : Tx} (h : s ≠ []) (hs : ¬ Small s) : max (cutAt s) (s.length - cutAt s) + 1 ≤ per s := far_is h hs
end Go.Proofs.YtcbhjhhajeeimaaGreat.Crt
/- Mathematics of stage 13: a text sought by two ways, step by step; what is found. -/
namespace Go.Proofs.YtcbhjhhajeeimaaGreat.Crt
set_option maxRecDepth 100000
instance (line b : Tx) (pos : Nat) : Decidable (Stands line b pos) := inferInstanceAs (Decidable (∀ i, i < b.length → line[pos + i]? = b[i]?))
/-- Where the search is: nothing stands from 'from' on ahead of it; so many first bytes are known to fit. -/
structure Way (b line : Tx) (fr pos mem : Nat) : Prop where
  low : fr ≤ pos
  none : ∀ q, fr ≤ q → q < pos → ¬ Stands line b q
  fit : ∀ i, i < mem → line[pos + i]? = b[i]?
theorem way_start (b line : Tx) (fr : Nat) : Way b line fr fr 0 := ⟨Nat.le_refl _, fun q h1 h2 => by omega, fun i h => by omega⟩
theorem Way.forget {b line : Tx} {fr pos mem : Nat} (h : Way b line fr pos mem) : Way b line fr pos 0 := ⟨h.low, h.none, fun i h => by omega⟩
/-- A byte on the right, at j, doesn't fit. -/
theorem Way.right {b line : Tx} {fr pos mem j : Nat} (h : Way b line fr pos mem) (hb : b ≠ []) (hm : ∀ i, cutAt b ≤ i → mem ≤ i → i < j → line[pos + i]? = b[i]?) (hkj : cutAt b ≤ j) (hj : j < b.length) (hne : line[pos + j]? ≠ b[j]?) : Way b line fr (pos + (j - cutAt b + 1)) 0 := by
  refine ⟨by have := h.low; omega, fun q h1 h2 hs => ?_, fun i h => by omega⟩
  have hall : ∀ i, cutAt b ≤ i → i < j → line[pos + i]? = b[i]? := fun i h1 h2 => by
    rcases Nat.lt_or_ge i mem with h3 | h3
    · exact h.fit i h3
    · exact hm i h1 h3 h2
  rcases Nat.lt_trichotomy q pos with h3 | h3 | h3
  · exact h.none q h1 h3 hs
  · subst h3
    exact hne (hs j hj)
  · obtain ⟨d, rfl⟩ : ∃ d, q = pos + d := ⟨q - pos, by omega⟩
    exact shift_right (fun r hr => cut_per hb hr) hall hkj hj hne d (by omega) (by omega) (by omega) hs
/-- All on the right fits, but a byte on the left doesn't: nothing stands short of the text's period further on. -/
theorem Way.left {b line : Tx} {fr pos mem : Nat} (h : Way b line fr pos mem) (hb : b ≠ []) (hm : ∀ i, cutAt b ≤ i → mem ≤ i → i < b.length → line[pos + i]? = b[i]?) {i : Nat} (hi : i < b.length) (hne : line[pos + i]? ≠ b[i]?) {d : Nat} (hd : d ≤ per b) : ∀ q, fr ≤ q → q < pos + d → ¬ Stands line b q := by
  intro q h1 h2 hs
  have hall : ∀ i, cutAt b ≤ i → i < b.length → line[pos + i]? = b[i]? := fun i h1 h2 => by
    rcases Nat.lt_or_ge i mem with h3 | h3
    · exact h.fit i h3
    · exact hm i h1 h3 h2
  rcases Nat.lt_trichotomy q pos with h3 | h3 | h3
  · exact h.none q h1 h3 hs
  · subst h3
    exact hne (hs i hi)
  · obtain ⟨e, rfl⟩ : ∃ e, q = pos + e := ⟨q - pos, by omega⟩
    have := (per_least hb).2 e (shift_left (fun r hr => cut_per hb hr) hall e (by omega) hs)
    omega
/-- .. not small: it is moved by more than each of its parts has, and all is forgotten. -/
theorem Way.far {b line : Tx} {fr pos mem : Nat} (h : Way b line fr pos mem) (hb : b ≠ []) (hs : ¬ Small b) (hm : ∀ i, cutAt b ≤ i → mem ≤ i → i < b.length → line[pos + i]? = b[i]?) {i : Nat} (hi : i < b.length) (hne : line[pos + i]? ≠ b[i]?) : Way b line fr (pos + (max (cutAt b) (b.length - cutAt b) + 1)) 0 :=
  ⟨by have := h.low; omega, h.left hb hm hi hne (move_le hb hs), fun i h => by omega⟩
/-- .. small: it is moved by its period, and what fits still is kept. -/
theorem Way.near {b line : Tx} {fr pos mem : Nat} (h : Way b line fr pos mem) (hb : b ≠ []) (hs : Small b) (hm : ∀ i, cutAt b ≤ i → mem ≤ i → i < b.length → line[pos + i]? = b[i]?) {i : Nat} (hi : i < b.length) (hne : line[pos + i]? ≠ b[i]?) : Way b line fr (pos + cutPer b) (b.length - cutPer b) := by
  have hp := small_is hb hs
  refine ⟨by have := h.low; omega, h.left hb hm hi hne (by omega), fun e he => ?_⟩
  have hall : ∀ i, cutAt b ≤ i → i < b.length → line[pos + i]? = b[i]? := fun i h1 h2 => by
    rcases Nat.lt_or_ge i mem with h3 | h3
    · exact h.fit i h3
    · exact hm i h1 h3 h2
  rw [← hp] at he ⊢
  exact moved (per_least hb).1 (by have := cut_below hb; omega) hall e (by omega)
/-- Behind what was found (small): moved by its period. -/
theorem Stands.next {b line : Tx} {pos : Nat} (h : Stands line b pos) (hb : b ≠ []) : (∀ q, pos < q → q < pos + per b → ¬ Stands line b q) ∧ ∀ i, i + per b < b.length → line[pos + per b + i]? = b[i]? := by
  refine ⟨fun q h1 h2 hs => ?_, fun i hi => moved (k := 0) (per_least hb).1 (by omega) (fun i _ hi => h i hi) i hi⟩
  obtain ⟨d, rfl⟩ : ∃ d, q = pos + d := ⟨q - pos, by omega⟩
  have hp : Per b d := ⟨by omega, fun i hi => by
    have h3 := hs i (by omega)
    have h4 := h (i + d) hi
    rw [show pos + d + i = pos + (i + d) by omega, h4, List.getElem?_eq_getElem hi, List.getElem?_eq_getElem (by omega)] at h3
    exact (Option.some.inj h3).symm⟩
  have := (per_least hb).2 d hp
  omega
/-- The first place from 'from' on. -/
def First (b line : Tx) (fr p : Nat) : Prop := fr ≤ p ∧ Stands line b p ∧ ∀ q, fr ≤ q → q < p → ¬ Stands line b q
theorem Way.hit {b line : Tx} {fr pos mem : Nat} (h : Way b line fr pos mem) (hs : Stands line b pos) : First b line fr pos := ⟨h.low, hs, h.none⟩
theorem Way.whole {b line : Tx} {fr pos mem : Nat} (h : Way b line fr pos mem) (hr : ∀ i, cutAt b ≤ i → mem ≤ i → i < b.length → line[pos + i]? = b[i]?) (hl : ∀ i, i < cutAt b → mem ≤ i → line[pos + i]? = b[i]?) : Stands line b pos := fun i hi => by
  rcases Nat.lt_or_ge i mem with h3 | h3
  · exact h.fit i h3
  · rcases Nat.lt_or_ge i (cutAt b) with h4 | h4
    · exact hl i h4 h3
    · exact hr i h4 h3 hi
/-- Beyond the line's end nothing stands. -/
theorem Way.over {b line : Tx} {fr pos mem : Nat} (h : Way b line fr pos mem) (hb : b ≠ []) (ho : line.length < pos + b.length) : ∀ q, fr ≤ q → ¬ Stands line b q := fun q hq hs => by
  rcases Nat.lt_or_ge q pos with h1 | h1
  · exact h.none q hq h1 hs
  · have := hs.le hb
    omega
theorem first_uniq {b line : Tx} {fr p q : Nat} (h : First b line fr p) (h' : First b line fr q) : p = q := by
  rcases Nat.lt_trichotomy p q with h1 | h1 | h1
  · exact absurd h.2.1 (h'.2.2 p h.1 h1)
  · exact h1
  · exact absurd h'.2.1 (h.2.2 q h'.1 h1)
/-- The answer, as a number: -1 if there is none. -/
def nextAt (b line : Tx) (fr : Nat) : Nat → Int
  | 0 => -1
  | n + 1 => if Stands line b fr then (fr : Int) else nextAt b line (fr + 1) n
/-- .. among the places up to the line's end. -/
def nextOf (b line : Tx) (fr : Nat) : Int := nextAt b line fr (line.length + 1 - fr)
theorem nextAt_first {b line : Tx} {p : Nat} : ∀ (n fr : Nat), First b line fr p → p < fr + n → nextAt b line fr n = (p : Int)
  | 0, fr, h, hp => by have := h.1; omega
  | n + 1, fr, h, hp => by
    rw [nextAt]
    by_cases hs : Stands line b fr
    · rw [if_pos hs, first_uniq h ⟨Nat.le_refl _, hs, fun q h1 h2 => by omega⟩]
    · rw [if_neg hs]
      have hne : fr ≠ p := fun e => hs (e ▸ h.2.1)
      exact nextAt_first n (fr + 1) ⟨by have := h.1; omega, h.2.1, fun q h1 h2 => h.2.2 q (by omega) h2⟩ (by omega)
theorem nextAt_none {b line : Tx} : ∀ (n fr : Nat), (∀ q, fr ≤ q → ¬ Stands line b q) → nextAt b line fr n = -1
  | 0, _, _ => rfl
  | n + 1, fr, h => by
    rw [nextAt, if_neg (h fr (Nat.le_refl _))]
    exact nextAt_none n (fr + 1) fun q hq => h q (by omega)
theorem nextOf_first {b line : Tx} {fr p : Nat} (hb : b ≠ []) (h : First b line fr p) : nextOf b line fr = (p : Int) :=
  nextAt_first _ _ h (by have := h.2.1.le hb; have := h.1; omega)
theorem nextOf_none {b line : Tx} {fr : Nat} (h : ∀ q, fr ≤ q → ¬ Stands line b q) : nextOf b line fr = -1 := nextAt_none _ _ h
/-- It stands just if the bytes there are its bytes. -/
theorem stands_take (line b : Tx) (pos : Nat) : Stands line b pos ↔ (line.drop pos).take b.length = b := by
  constructor
  · intro hs
    apply List.ext_getElem?
    intro i
    rw [List.getElem?_take, List.getElem?_drop]
    by_cases hi : i < b.length
    · rw [if_pos hi, hs i hi]
    · rw [if_neg hi, List.getElem?_eq_none (by omega)]
  · intro e i hi
    have := congrArg (fun x : Tx => x[i]?) e
    simp only [List.getElem?_take, if_pos hi, List.getElem?_drop] at this
    exact this
end Go.Proofs.YtcbhjhhajeeimaaGreat.Crt
