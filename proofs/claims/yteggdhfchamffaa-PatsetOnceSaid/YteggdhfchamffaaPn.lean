/- What the statements on sets of texts come to, as plain mathematics. -/
import Derived.Test.YteggdhfchamffaaPd
namespace Go.Proofs.Yteggdhfchamffaa

/-- Did a text come? By the patterns and the empty one. -/
theorem came_iff (l : List (List UInt8)) (b : List UInt8) : (decide (b ∈ pats l) || (decide (b = []) && decide ([] ∈ l))) = decide (b ∈ l) := by
  by_cases hb : b = []
  · subst hb
    have : ([] : List UInt8) ∉ pats l := fun h => ((mem_pats l []).1 h).2 rfl
    simp [this]
  · have : (b ∈ pats l) = (b ∈ l) := propext ⟨fun h => ((mem_pats l b).1 h).1, fun h => (mem_pats l b).2 ⟨h, hb⟩⟩
    simp [this, hb]

/-- Texts that came already change nothing. -/
theorem foldl_add_in (m : List (List UInt8)) : ∀ s : List (List UInt8), (∀ x ∈ m, x = [] ∨ x ∈ s) → m.foldl add s = s := by
  induction m with
  | nil => intro s _; rfl
  | cons x m ih =>
    intro s h
    have e : add s x = s := by unfold add; rw [if_pos (h x (by simp))]
    rw [List.foldl_cons, e]
    exact ih s (fun y hy => h y (by simp [hy]))
theorem pats_append_in (l m : List (List UInt8)) (h : ∀ x ∈ m, x = [] ∨ x ∈ l) : pats (l ++ m) = pats l := by
  unfold pats
  rw [List.foldl_append]
  refine foldl_add_in m _ fun x hx => ?_
  by_cases e : x = []
  · exact .inl e
  · exact .inr ((mem_pats l x).2 ⟨(h x hx).resolve_left e, e⟩)

/-- The first place of a text; the length, if it isn't there. -/
def idx (l : List (List UInt8)) (x : List UInt8) : Nat := l.findIdx (· == x)
theorem idx_le (l : List (List UInt8)) (x : List UInt8) : idx l x ≤ l.length := List.findIdx_le_length
theorem idx_lt (l : List (List UInt8)) (x : List UInt8) (h : x ∈ l) : idx l x < l.length := List.findIdx_lt_length_of_exists ⟨x, h, by simp⟩
theorem idx_at (l : List (List UInt8)) (x : List UInt8) (h : idx l x < l.length) : l[idx l x] = x := by
  have := List.findIdx_getElem (w := h)
  exact beq_iff_eq.1 this
theorem idx_not (l : List (List UInt8)) (x : List UInt8) (k : Nat) (h : k < idx l x) : l[k]'(Nat.lt_of_lt_of_le h (idx_le l x)) ≠ x := by
  have := List.not_of_lt_findIdx h
  simpa using this
theorem idx_append_in (l m : List (List UInt8)) (x : List UInt8) (h : x ∈ l) : idx (l ++ m) x = idx l x := by
  unfold idx
  rw [List.findIdx_append]; exact if_pos (idx_lt l x h)
theorem idx_append_out (l : List (List UInt8)) (x : List UInt8) (h : x ∉ l) : idx (l ++ [x]) x = l.length := by
  unfold idx
  have hn : ¬ l.findIdx (· == x) < l.length := fun hlt => by
    have := List.findIdx_getElem (w := hlt)
    exact h (by have e := beq_iff_eq.1 this; exact e ▸ List.getElem_mem hlt)
  rw [List.findIdx_append, if_neg hn]
  simp
theorem pats_rise : ∀ (n : Nat) (l : List (List UInt8)), l.length = n → (pats l).Pairwise (fun x y => idx l x < idx l y) := by
  intro n
  induction n with
  | zero =>
    intro l h
    rw [List.eq_nil_of_length_eq_zero h]
    exact List.Pairwise.nil
  | succ n ih =>
    intro l h
    obtain ⟨m, x, rfl⟩ : ∃ m x, l = m ++ [x] := by
      rcases List.eq_nil_or_concat l with rfl | ⟨m, x, e⟩
      · simp at h
      · exact ⟨m, x, by simpa using e⟩
    have hm : m.length = n := by simpa using h
    have hp := ih m hm
    have hp2 : (pats m).Pairwise (fun a b => idx (m ++ [x]) a < idx (m ++ [x]) b) := by
      refine hp.imp_of_mem fun {a b} ha hb hab => ?_
      rw [idx_append_in _ _ _ ((mem_pats m a).1 ha).1, idx_append_in _ _ _ ((mem_pats m b).1 hb).1]
      exact hab
    rw [pats_snoc]
    by_cases hx : x ∈ m
    · rw [add_in m x hx]; exact hp2
    · by_cases hn : x = []
      · rw [hn, add_nil]; rw [hn] at hp2; exact hp2
      · rw [add_new m x hx hn]
        refine List.pairwise_append.2 ⟨hp2, List.pairwise_singleton _ _, fun a ha b hb => ?_⟩
        rw [List.mem_singleton] at hb
        subst hb
        have h1 := ((mem_pats m a).1 ha).1
        rw [idx_append_in _ _ _ h1, idx_append_out _ _ hx]
        exact idx_lt m a h1
theorem pats_next (l : List (List UInt8)) (i j : Nat) (hij : i < j) (hj : j < (pats l).length) : idx l ((pats l)[i]'(by omega)) < idx l (pats l)[j] :=
  List.pairwise_iff_getElem.1 (pats_rise _ l rfl) i j (by omega) hj hij

/-- Without case. -/
theorem low_low (c : UInt8) : low (low c) = low c := by
  apply UInt8.toNat_inj.1
  rw [low_nat (low c), low_nat c]
  by_cases h : 65 ≤ c.toNat ∧ c.toNat ≤ 90
  · simp only [if_pos h]
    exact if_neg (by omega)
  · simp only [if_neg h]
theorem lows_lows (l : List UInt8) : lows (lows l) = lows l := by
  unfold lows
  rw [List.map_map]
  exact List.map_congr_left fun c _ => low_low c
theorem low_ten (c : UInt8) : low c = 10 ↔ c = 10 := by
  constructor
  · intro h
    have := congrArg UInt8.toNat h
    rw [low_nat] at this
    have hlt := c.toNat_lt
    apply UInt8.toNat_inj.1
    have h10 : (10 : UInt8).toNat = 10 := rfl
    rw [h10] at this ⊢
    split at this <;> omega
  · rintro rfl; rfl
theorem goes_lows : ∀ (t : List UInt8) (off : Nat) (cur : List UInt8), (goes off (lows cur) (lows t)).map Ln.text = (goes off cur t).map (fun x => lows x.text)
  | [], off, cur => by
    show (goes off (lows cur) []).map _ = _
    rw [goes_nil, goes_nil]
    by_cases h : cur = []
    · subst h; rfl
    · have h2 : lows cur ≠ [] := by simpa [lows] using h
      rw [if_neg h, if_neg h2]; rfl
  | c :: t, off, cur => by
    by_cases hc : c = 10
    · subst hc
      have e : lows (10 :: t) = 10 :: lows t := rfl
      rw [e, goes_newline, goes_newline, List.map_cons, List.map_cons]
      have := goes_lows t (off + (lows cur).length + 1) []
      have e2 : (lows cur).length = cur.length := by simp [lows]
      rw [e2] at this ⊢
      show lows cur :: _ = lows cur :: _
      rw [← this]; rfl
    · have e : lows (c :: t) = low c :: lows t := rfl
      have hc2 : low c ≠ 10 := fun h => hc ((low_ten c).1 h)
      rw [e, goes_byte _ _ _ _ hc2, goes_byte _ _ _ _ hc]
      have := goes_lows t off (cur ++ [c])
      have e2 : lows (cur ++ [c]) = lows cur ++ [low c] := by simp [lows]
      rw [e2] at this
      exact this
theorem texts_lows (t : List UInt8) : textsOf true t = textsOf false (lows t) := by
  have := goes_lows t 0 []
  unfold textsOf linesOf
  rw [show (lows [] : List UInt8) = [] from rfl] at this
  have e1 : (fun x : Ln => cased true x.text) = fun x => lows x.text := rfl
  have e2 : (fun x : Ln => cased false x.text) = Ln.text := rfl
  rw [e1, e2, this]
theorem loaded_lows (t : List UInt8) : loaded true t = loaded false (lows t) := by
  have e : (lows t).length = t.length := by simp [lows]
  unfold loaded
  rw [e, texts_lows]
theorem loaded_fixed (t x : List UInt8) (h : x ∈ loaded true t) : lows x = x := by
  unfold loaded at h
  split at h
  · cases h
  · obtain ⟨y, _, rfl⟩ := List.mem_map.1 h
    exact lows_lows y.text

/-- A file twice, with a newline between. -/
def twice (t : List UInt8) : List UInt8 := t ++ [10] ++ t
theorem texts_twice (f : Bool) (t : List UInt8) : ∃ m, textsOf f (twice t) = textsOf f t ++ m ∧ (∀ x ∈ m, x = [] ∨ x ∈ textsOf f t) ∧ (([] : List UInt8) ∈ m ↔ openB t = false ∨ ([] : List UInt8) ∈ textsOf f t) := by
  unfold twice
  have hp := lines_parts t t
  have hsh : ((linesOf t).map (Ln.shift (t ++ [10]).length)).map (fun x => cased f x.text) = textsOf f t := by
    unfold textsOf
    rw [List.map_map]; rfl
  cases ho : openB t
  · refine ⟨[] :: textsOf f t, ?_, ?_, ?_⟩
    · unfold textsOf
      rw [hp, List.map_append, lines_shut t ho, List.map_append]
      have e : cased f [] = [] := by cases f <;> rfl
      have := hsh
      unfold textsOf at this
      rw [this]
      simp [e]
    · intro x hx
      rcases List.mem_cons.1 hx with rfl | hx
      · exact .inl rfl
      · exact .inr hx
    · simp
  · obtain ⟨ls, o, c, h1, h2⟩ := lines_open t ho
    refine ⟨textsOf f t, ?_, fun x hx => .inr hx, by simp⟩
    have e : textsOf f (t ++ [10]) = textsOf f t := by
      unfold textsOf; rw [h1, h2]; simp
    have := hsh
    unfold textsOf at this e ⊢
    rw [hp, List.map_append, this, e]
theorem loaded_twice (f : Bool) (t : List UInt8) (h : t.length ≤ 500) : pats (loaded f (twice t)) = pats (loaded f t) ∧ (([] : List UInt8) ∈ loaded f (twice t) ↔ ([] : List UInt8) ∈ loaded f t ∨ openB t = false) := by
  have h1 : (twice t).length ≤ 1001 := by simp [twice]; omega
  have e1 : loaded f (twice t) = textsOf f (twice t) := by unfold loaded; rw [if_neg (by omega)]
  have e2 : loaded f t = textsOf f t := by unfold loaded; rw [if_neg (by omega)]
  obtain ⟨m, hm, hin, hnil⟩ := texts_twice f t
  rw [e1, e2, hm]
  refine ⟨pats_append_in _ _ hin, ?_⟩
  rw [List.mem_append, hnil]
  constructor
  · rintro (h | h | h)
    · exact .inl h
    · exact .inr h
    · exact .inl h
  · rintro (h | h)
    · exact .inl h
    · exact .inr (.inl h)

/-- The shortest pattern has a byte, if there is a pattern. -/
theorem leastTo_pos (l : List (List UInt8)) (h : ∀ x ∈ l, x ≠ []) : ∀ k, 0 < k → k ≤ l.length → 0 < leastTo l k := by
  intro k
  induction k with
  | zero => intro h0; omega
  | succ k ih =>
    intro _ hk
    have hx : 0 < l[k].length := List.length_pos_iff.2 (h _ (List.getElem_mem (by omega)))
    by_cases hc : k = 0 ∨ l[k].length < leastTo l k
    · rw [leastTo_yes l k (by omega) hc]; exact hx
    · rw [leastTo_no l k (by omega) (fun e => hc (.inl e)) (fun e => hc (.inr e))]
      exact ih (by omega) (by omega)
theorem cap_math (l : List (List UInt8)) : decide ((0 : Int) < (((pats l).length : Nat) : Int) + ((bytesIn (pats l) : Nat) : Int)) = decide ((0 : Int) < ((leastOf (pats l) : Nat) : Int)) := by
  apply decide_eq_decide.2
  by_cases h : (pats l).length = 0
  · have e : pats l = [] := List.eq_nil_of_length_eq_zero h
    rw [e]; simp [bytesIn, leastOf, leastTo]
  · have h1 := leastTo_pos (pats l) (fun x hx => ((mem_pats l x).1 hx).2) (pats l).length (by omega) (Nat.le_refl _)
    unfold leastOf
    omega
end Go.Proofs.Yteggdhfchamffaa
