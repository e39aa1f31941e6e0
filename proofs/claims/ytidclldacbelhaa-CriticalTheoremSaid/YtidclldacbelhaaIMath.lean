/- Mathematics of stage 12's code: how far two places of a text agree, and a table of that; the least period at a place. -/
import Derived.Test.YtidclldacbelhaaGK
namespace Go.Proofs.Ytidclldacbelhaa.Crt
set_option maxRecDepth 100000

/-- How many bytes from two places on are the same, at most some. -/
def agr (s : Tx) (i j : Nat) : Nat → Nat
  | 0 => 0
  | m + 1 => if at' s i = at' s j then agr s (i + 1) (j + 1) m + 1 else 0
def Agr (s : Tx) (i j m n : Nat) : Prop := n ≤ m ∧ (∀ k, k < n → at' s (i + k) = at' s (j + k)) ∧ (n < m → at' s (i + n) ≠ at' s (j + n))
theorem agr_agr (s : Tx) : ∀ m i j, Agr s i j m (agr s i j m)
  | 0, i, j => ⟨Nat.le_refl _, fun k hk => by simp [agr] at hk, fun h => by simp [agr] at h⟩
  | m + 1, i, j => by
    rw [agr]
    split
    · rename_i h
      obtain ⟨h1, h2, h3⟩ := agr_agr s m (i + 1) (j + 1)
      refine ⟨by omega, fun k hk => ?_, fun hk => ?_⟩
      · cases k with
        | zero => exact h
        | succ k => have := h2 k (by omega); rwa [show i + 1 + k = i + (k + 1) by omega, show j + 1 + k = j + (k + 1) by omega] at this
      · have := h3 (by omega)
        rwa [show i + 1 + agr s (i + 1) (j + 1) m = i + (agr s (i + 1) (j + 1) m + 1) by omega, show j + 1 + agr s (i + 1) (j + 1) m = j + (agr s (i + 1) (j + 1) m + 1) by omega] at this
    · rename_i h
      exact ⟨Nat.zero_le _, fun k hk => by omega, fun _ => h⟩
theorem Agr.uniq {s : Tx} {i j m n n' : Nat} (h : Agr s i j m n) (h' : Agr s i j m n') : n = n' := by
  obtain ⟨a1, a2, a3⟩ := h
  obtain ⟨b1, b2, b3⟩ := h'
  rcases Nat.lt_trichotomy n n' with h | h | h
  · exact absurd (b2 n h) (a3 (by omega))
  · exact h
  · exact absurd (a2 n' h) (b3 (by omega))
theorem Agr.is {s : Tx} {i j m n : Nat} (h : Agr s i j m n) : agr s i j m = n := (agr_agr s m i j).uniq h
theorem agr_ge {s : Tx} {i j m k : Nat} (hk : k ≤ m) : k ≤ agr s i j m ↔ ∀ x, x < k → at' s (i + x) = at' s (j + x) := by
  obtain ⟨h1, h2, h3⟩ := agr_agr s m i j
  constructor
  · intro h x hx
    exact h2 x (by omega)
  · intro h
    rcases Nat.lt_or_ge (agr s i j m) k with hlt | hge
    · exact absurd (h _ hlt) (h3 (by omega))
    · exact hge
theorem agr_le (s : Tx) (i j m : Nat) : agr s i j m ≤ m := (agr_agr s m i j).1
/-- How many bytes from a place on are those at the front. -/
def zf (s : Tx) (k : Nat) : Nat := agr s 0 k (s.length - k)
theorem zf_le (s : Tx) (k : Nat) : zf s k ≤ s.length - k := agr_le _ _ _ _
theorem zf_ge {s : Tx} {k n : Nat} (hn : n ≤ s.length - k) : n ≤ zf s k ↔ ∀ x, x < n → at' s x = at' s (k + x) := by
  unfold zf
  rw [agr_ge hn]
  simp
/-- The table of them, up to a place; none of the place 0. -/
def zt (s : Tx) (k : Nat) : List Nat := (List.range s.length).map fun i => if 1 ≤ i ∧ i < k then zf s i else 0
theorem zt_length (s : Tx) (k : Nat) : (zt s k).length = s.length := by simp [zt]
theorem zt_at (s : Tx) (k i : Nat) (h : i < (zt s k).length) (h1 : 1 ≤ i) (hk : i < k) : (zt s k)[i] = zf s i := by simp [zt, h1, hk]
theorem zt_zero (s : Tx) (k : Nat) (h : 0 < (zt s k).length) : (zt s k)[0] = 0 := by simp [zt]
theorem zt_start (s : Tx) : zt s 1 = List.replicate s.length 0 := by
  apply List.ext_getElem
  · simp [zt]
  · intro i h1 h2
    simp only [zt, List.getElem_map, List.getElem_range, List.getElem_replicate]
    split <;> omega
theorem zt_next (s : Tx) (k : Nat) (hk : 1 ≤ k) : zt s (k + 1) = (zt s k).set k (zf s k) := by
  apply List.ext_getElem
  · simp [zt]
  · intro i h1 h2
    rw [List.getElem_set]
    simp only [zt, List.getElem_map, List.getElem_range]
    by_cases e : k = i
    · subst e; simp [hk]
    · rw [if_neg e]
      by_cases h : 1 ≤ i ∧ i < k
      · rw [if_pos h, if_pos (by omega)]
      · rw [if_neg h, if_neg (by omega)]
theorem zt_full (s : Tx) (k : Nat) (h : s.length ≤ k) : zt s k = zt s s.length := by
  unfold zt
  apply List.map_congr_left
  intro i hi
  have := List.mem_range.1 hi
  by_cases h1 : 1 ≤ i
  · rw [if_pos ⟨h1, by omega⟩, if_pos ⟨h1, by omega⟩]
  · rw [if_neg (by omega), if_neg (by omega)]
/-- What is known: from 'f' to 't' the text is its front. -/
def Box (s : Tx) (k f t : Nat) : Prop := t ≤ s.length ∧ (t = 0 ∨ (1 ≤ f ∧ f < k)) ∧ ∀ i, f ≤ i → i < t → at' s i = at' s (i - f)
theorem box_start (s : Tx) (k : Nat) : Box s k 0 0 := ⟨Nat.zero_le _, .inl rfl, fun i _ h => by omega⟩
theorem Box.later {s : Tx} {k f t : Nat} (h : Box s k f t) : Box s (k + 1) f t := ⟨h.1, h.2.1.imp_right fun h => ⟨h.1, by omega⟩, h.2.2⟩
theorem Box.new {s : Tx} {k n : Nat} (hk : 1 ≤ k) (hn : k + n ≤ s.length) (h : n = zf s k) : Box s (k + 1) k (k + n) :=
  ⟨hn, .inr ⟨hk, by omega⟩, fun i h1 h2 => by
    have := (zf_ge (s := s) (k := k) (n := n) (by omega)).1 (by omega) (i - k) (by omega)
    rw [this]
    congr 1
    omega⟩
theorem Box.known {s : Tx} {k f t : Nat} (h : Box s k f t) (ht : k < t) : min (zf s (k - f)) (t - k) ≤ zf s k := by
  obtain ⟨h1, h2, h3⟩ := h
  rw [zf_ge (by omega)]
  intro x hx
  have e1 := (zf_ge (s := s) (k := k - f) (n := zf s (k - f)) (zf_le _ _)).1 (Nat.le_refl _) x (by omega)
  have e2 := h3 (k + x) (by omega) (by omega)
  rw [e2, e1]
  congr 1
  omega
theorem zf_more {s : Tx} {k n r : Nat} (hn : n ≤ zf s k) (hr : Agr s n (k + n) (s.length - k - n) r) : zf s k = n + r := by
  have hle := zf_le s k
  refine Agr.is (s := s) ⟨by have := hr.1; omega, fun x hx => ?_, fun hx => ?_⟩
  · rcases Nat.lt_or_ge x n with h | h
    · have := (zf_ge (s := s) (k := k) (by omega)).1 hn x h
      rw [← this]
      congr 1
      omega
    · have := hr.2.1 (x - n) (by omega)
      rw [show n + (x - n) = 0 + x by omega, show k + n + (x - n) = k + x by omega] at this
      exact this
  · have := hr.2.2 (by omega)
    rw [show k + n + r = k + (n + r) by omega] at this
    rwa [Nat.zero_add]
/-- A text's back with its front behind it. -/
def turnAt (s : Tx) (k : Nat) : Tx := s.drop k ++ s.take k
theorem turnAt_length {s : Tx} {k : Nat} (h : k ≤ s.length) : (turnAt s k).length = s.length := by
  simp [turnAt]; omega
theorem turnAt_low {s : Tx} {k i : Nat} (h : k + i < s.length) : at' (turnAt s k) i = at' s (k + i) := by
  unfold at' turnAt
  rw [List.getD_eq_getElem?_getD, List.getD_eq_getElem?_getD, List.getElem?_append_left (by simp; omega), List.getElem?_drop]
theorem turnAt_high {s : Tx} {k i : Nat} (hk : k ≤ s.length) (h : s.length ≤ k + i) (h2 : i < s.length) : at' (turnAt s k) i = at' s (k + i - s.length) := by
  unfold at' turnAt
  rw [List.getD_eq_getElem?_getD, List.getD_eq_getElem?_getD, List.getElem?_append_right (by simp; omega), List.length_drop, List.getElem?_take, if_pos (by omega)]
  congr 2
  omega
/-- A period at a place that is no more than what is ahead of it. -/
theorem loc_near {s : Tx} {k p : Nat} (hk : k ≤ s.length) (hp : 1 ≤ p) (hpk : p ≤ k) : min p (s.length - k) ≤ zf (turnAt s k) (s.length - p) ↔ Loc s k p := by
  rw [zf_ge (by rw [turnAt_length hk]; omega)]
  constructor
  · intro h
    refine ⟨hp, fun i hi h1 h2 => ?_⟩
    have e := h (i + p - k) (by omega)
    rw [turnAt_low (by omega), turnAt_high hk (by omega) (by omega)] at e
    rw [← at_eq (by omega), ← at_eq hi, show i + p = k + (i + p - k) by omega, e]
    congr 1
    omega
  · rintro ⟨_, h⟩ x hx
    rw [turnAt_low (by omega), turnAt_high hk (by omega) (by omega)]
    have := h (k + x - p) (by omega) (by omega) (by omega)
    rw [← at_eq (by omega), ← at_eq (by omega)] at this
    rw [show k + (s.length - p + x) - s.length = k + x - p by omega, this]
    congr 1
    omega
/-- One that is the whole text's length, at its end. -/
theorem loc_end {s : Tx} {k p : Nat} (hp : 1 ≤ p) (h : s.length ≤ p) : Loc s k p := ⟨hp, fun i hi => by omega⟩
/-- A greater one. -/
theorem loc_far {s : Tx} {k p : Nat} (hp : 1 ≤ p) (hpk : k < p) (hpn : p < s.length) : min k (s.length - p) ≤ zf s p ↔ Loc s k p := by
  rw [zf_ge (by omega)]
  constructor
  · intro h
    refine ⟨hp, fun i hi h1 h2 => ?_⟩
    have e := h i (by omega)
    rw [← at_eq (by omega), ← at_eq hi, e, Nat.add_comm]
  · rintro ⟨_, h⟩ x hx
    have := h x (by omega) (by omega) (by omega)
    rw [← at_eq (by omega), ← at_eq (by omega)] at this
    rw [this, Nat.add_comm]
theorem near_at {s : Tx} {k j : Nat} (hk : k ≤ s.length) (hj : 1 ≤ j) (hjk : j ≤ k) : ∃ V, (zt (turnAt s k) s.length)[s.length - j]? = some V ∧ (min j (s.length - k) ≤ V ↔ Loc s k j) := by
  have hlen := turnAt_length hk
  have hlt : s.length - j < (zt (turnAt s k) s.length).length := by rw [zt_length, hlen]; omega
  refine ⟨_, List.getElem?_eq_getElem hlt, ?_⟩
  by_cases e : s.length - j = 0
  · have : min j (s.length - k) = 0 := by omega
    rw [this]
    exact ⟨fun _ => loc_end hj (by omega), fun _ => Nat.zero_le _⟩
  · rw [zt_at _ _ _ hlt (by omega) (by omega)]
    exact loc_near hk hj hjk
theorem far_at {s : Tx} {k j : Nat} (hjk : k < j) (hjn : j < s.length) : ∃ V, (zt s s.length)[j]? = some V ∧ (min k (s.length - j) ≤ V ↔ Loc s k j) := by
  have hlt : j < (zt s s.length).length := by rw [zt_length]; omega
  refine ⟨_, List.getElem?_eq_getElem hlt, ?_⟩
  rw [zt_at _ _ _ hlt (by omega) (by omega)]
  exact loc_far (by omega) hjk hjn
def locGo (s : Tx) (k : Nat) : Nat → Nat → Nat
  | 0, p => p
  | f + 1, p => if locB s k p p then p else locGo s k f (p + 1)
theorem locGo_is {s : Tx} {k : Nat} : ∀ f p, 1 ≤ p → p + f = s.length → (∀ q, 1 ≤ q → q < p → ¬ Loc s k q) → LeastLoc s k (locGo s k f p)
  | 0, p, hp, hf, hn => by rw [locGo]; exact leastLoc_first (loc_end hp (by omega)) hn
  | f + 1, p, hp, hf, hn => by
    rw [locGo]
    split
    · rename_i h
      exact leastLoc_first ((locB_loc hp).1 h) hn
    · rename_i h
      refine locGo_is f (p + 1) (by omega) (by omega) fun q h1 h2 hq => ?_
      by_cases e : q = p
      · subst e; exact h ((locB_loc hp).2 hq)
      · exact hn q h1 (by omega) hq
/-- The least period at a place; 1 for the empty text. -/
def locN (s : Tx) (k : Nat) : Nat := if s = [] then 1 else locGo s k (s.length - 1) 1
theorem locN_least {s : Tx} (h : s ≠ []) (k : Nat) : LeastLoc s k (locN s k) := by
  have := List.length_pos_iff.2 h
  rw [locN, if_neg h]
  exact locGo_is _ _ (Nat.le_refl _) (by omega) fun q h1 h2 => by omega
theorem locN_is {s : Tx} {k p : Nat} (h : s ≠ []) (hp : LeastLoc s k p) : locN s k = p := leastLoc_uniq (locN_least h k) hp
theorem locN_last {s : Tx} {k j : Nat} (hj : s.length ≤ j) (hn : ∀ r, 1 ≤ r → r < j → ¬ Loc s k r) : max (s.length : Int) 1 = (locN s k : Int) := by
  by_cases h : s = []
  · rw [locN, if_pos h, h]; rfl
  · have := List.length_pos_iff.2 h
    rw [locN_is h (leastLoc_first (loc_end (k := k) this (Nat.le_refl _)) fun q h1 h2 => hn q h1 (by omega))]
    omega
/-- The same for any number: 0 for what is no place. -/
def locI (s : Tx) (k : Int) : Nat := if k < 0 ∨ (s.length : Int) < k then 0 else locN s k.toNat
theorem locI_out {s : Tx} {k : Int} (h : k < 0 ∨ (s.length : Int) < k) : locI s k = 0 := by rw [locI, if_pos h]
theorem locI_in (s : Tx) (k : Nat) (h : k ≤ s.length) : locI s (k : Int) = locN s k := by
  rw [locI, if_neg (by omega)]; rfl
/-- Is it small? -/
def smallB (s : Tx) : Bool := decide (s.take (cutAt s) = (s.drop (cutPer s)).take (cutAt s))
theorem smallB_iff {s : Tx} (h : s ≠ []) : smallB s = true ↔ Small s := by rw [smallB, decide_eq_true_iff, small_iff h]
theorem smallB_agr {s : Tx} (h : s ≠ []) : smallB s = decide (agr s 0 (cutPer s) (cutAt s) = cutAt s) := by
  obtain ⟨h1, h2⟩ := cutPer_le h
  rw [Bool.eq_iff_iff, smallB_iff h, decide_eq_true_iff]
  have hge := agr_ge (s := s) (i := 0) (j := cutPer s) (Nat.le_refl (cutAt s))
  have hle := agr_le s 0 (cutPer s) (cutAt s)
  constructor
  · intro hs
    have := hge.2 fun x hx => by
      have := hs x hx (by omega)
      rw [← at_eq (by omega), ← at_eq (by omega)] at this
      rw [Nat.zero_add, this, Nat.add_comm]
    omega
  · intro e i hi hl
    have := hge.1 (by omega) i hi
    rw [Nat.zero_add, at_eq (by omega), at_eq (by omega)] at this
    rw [this]
    congr 1
    omega
/-- How far it may be moved. -/
def movePer (s : Tx) : Nat := if smallB s then cutPer s else max (cutAt s) (s.length - cutAt s) + 1
end Go.Proofs.Ytidclldacbelhaa.Crt
