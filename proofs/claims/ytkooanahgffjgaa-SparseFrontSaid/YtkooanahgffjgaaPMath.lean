/- Lists of pairs in order: plain mathematics. -/
namespace Go.Proofs.Ytkooanahgffjgaa.Prs
set_option maxRecDepth 100000

structure Pr where
  s : Int
  e : Int
deriving DecidableEq

/-- A pair stands ahead of another. -/
def lt (p q : Pr) : Bool := decide (p.s < q.s) || (decide (p.s = q.s) && decide (p.e < q.e))
theorem lt_iff (p q : Pr) : lt p q = true ↔ p.s < q.s ∨ (p.s = q.s ∧ p.e < q.e) := by simp [lt]
theorem pr_ext {p q : Pr} (h1 : p.s = q.s) (h2 : p.e = q.e) : p = q := by cases p; cases q; simp_all
theorem lt_irrefl (p : Pr) : lt p p = false := by
  rw [Bool.eq_false_iff]; intro h; rw [lt_iff] at h; omega
theorem lt_trans {p q r : Pr} (h1 : lt p q = true) (h2 : lt q r = true) : lt p r = true := by
  rw [lt_iff] at *; omega
theorem lt_asymm {p q : Pr} (h : lt p q = true) : lt q p = false := by
  rw [Bool.eq_false_iff]; intro h'; rw [lt_iff] at *; omega
theorem lt_ne {p q : Pr} (h : lt p q = true) : p ≠ q := by rintro rfl; rw [lt_irrefl] at h; cases h
theorem lt_total {p q : Pr} (h : lt p q = false) (hne : p ≠ q) : lt q p = true := by
  rw [lt_iff]
  have h' : ¬ (p.s < q.s ∨ (p.s = q.s ∧ p.e < q.e)) := by rw [← lt_iff, h]; simp
  have : ¬ (p.s = q.s ∧ p.e = q.e) := fun ⟨h1, h2⟩ => hne (pr_ext h1 h2)
  omega

/-- Each pair stands behind the one ahead of it. -/
def rising : List Pr → Bool
  | [] => true
  | [_] => true
  | p :: q :: l => lt p q && rising (q :: l)
/-- All behind the first one, and so on. -/
def Rise : List Pr → Prop
  | [] => True
  | p :: l => (∀ q ∈ l, lt p q = true) ∧ Rise l
theorem rise_of_rising : ∀ l : List Pr, rising l = true → Rise l
  | [], _ => trivial
  | [_], _ => ⟨(fun _ h => by cases h), trivial⟩
  | p :: q :: l, h => by
    simp only [rising, Bool.and_eq_true] at h
    have ih := rise_of_rising (q :: l) h.2
    refine ⟨fun r hr => ?_, ih⟩
    rcases List.mem_cons.1 hr with rfl | hr
    · exact h.1
    · exact lt_trans h.1 (ih.1 r hr)
theorem rising_of_rise : ∀ l : List Pr, Rise l → rising l = true
  | [], _ => rfl
  | [_], _ => rfl
  | p :: q :: l, h => by
    simp only [rising, Bool.and_eq_true]
    exact ⟨h.1 q (List.mem_cons_self ..), rising_of_rise (q :: l) h.2⟩
/-- Two that rise and have the same pairs are the same. -/
theorem rise_ext : ∀ (l m : List Pr), Rise l → Rise m → (∀ p, p ∈ l ↔ p ∈ m) → l = m
  | [], [], _, _, _ => rfl
  | [], q :: m, _, _, h => by have := (h q).2 (List.mem_cons_self ..); cases this
  | p :: l, [], _, _, h => by have := (h p).1 (List.mem_cons_self ..); cases this
  | p :: l, q :: m, hl, hm, h => by
    have e : p = q := by
      rcases List.mem_cons.1 ((h p).1 (List.mem_cons_self ..)) with e | hp
      · exact e
      · rcases List.mem_cons.1 ((h q).2 (List.mem_cons_self ..)) with e | hq
        · exact e.symm
        · have h1 := hm.1 p hp
          have h2 := hl.1 q hq
          rw [lt_asymm h1] at h2; cases h2
    subst e
    congr 1
    refine rise_ext l m hl.2 hm.2 fun r => ⟨fun hr => ?_, fun hr => ?_⟩
    · rcases List.mem_cons.1 ((h r).1 (List.mem_cons_of_mem _ hr)) with e | h'
      · exact absurd e.symm (lt_ne (hl.1 r hr))
      · exact h'
    · rcases List.mem_cons.1 ((h r).2 (List.mem_cons_of_mem _ hr)) with e | h'
      · exact absurd e.symm (lt_ne (hm.1 r hr))
      · exact h'

/-- One more pair, in order, once. -/
def put : List Pr → Pr → List Pr
  | [], p => [p]
  | q :: l, p => if lt q p then q :: put l p else if q = p then q :: l else p :: q :: l
theorem mem_put (p r : Pr) : ∀ l : List Pr, r ∈ put l p ↔ r ∈ l ∨ r = p
  | [] => by simp [put]
  | q :: l => by
    unfold put
    split
    · rw [List.mem_cons, mem_put p r l, List.mem_cons, or_assoc]
    · split
      · rename_i h; subst h; simp only [List.mem_cons]; exact ⟨.inl, fun h => h.elim id .inl⟩
      · simp only [List.mem_cons]; constructor
        · rintro (h | h | h)
          · exact .inr h
          · exact .inl (.inl h)
          · exact .inl (.inr h)
        · rintro ((h | h) | h)
          · exact .inr (.inl h)
          · exact .inr (.inr h)
          · exact .inl h
theorem rise_put (p : Pr) : ∀ l : List Pr, Rise l → Rise (put l p)
  | [], _ => ⟨(fun _ h => by cases h), trivial⟩
  | q :: l, h => by
    unfold put
    split
    · rename_i hq
      refine ⟨fun r hr => ?_, rise_put p l h.2⟩
      rcases (mem_put p r l).1 hr with hr | rfl
      · exact h.1 r hr
      · exact hq
    · split
      · exact h
      · rename_i hq hne
        have hq' : lt q p = false := by simpa using hq
        have hpq := lt_total hq' hne
        refine ⟨fun r hr => ?_, h⟩
        rcases List.mem_cons.1 hr with rfl | hr
        · exact hpq
        · exact lt_trans hpq (h.1 r hr)
theorem put_length (p : Pr) : ∀ l : List Pr, l.length ≤ (put l p).length ∧ (put l p).length ≤ l.length + 1
  | [] => by simp [put]
  | q :: l => by
    have ih := put_length p l
    unfold put
    split
    · simp; omega
    · split <;> simp
/-- Pairs in order, each once. -/
def norm (l : List Pr) : List Pr := l.foldl put []
theorem rise_foldl : ∀ (l m : List Pr), Rise m → Rise (l.foldl put m)
  | [], _, h => h
  | p :: l, m, h => rise_foldl l (put m p) (rise_put p m h)
theorem rise_norm (l : List Pr) : Rise (norm l) := rise_foldl l [] trivial
theorem mem_foldl (r : Pr) : ∀ (l m : List Pr), r ∈ l.foldl put m ↔ r ∈ m ∨ r ∈ l
  | [], m => by simp
  | p :: l, m => by
    rw [List.foldl_cons, mem_foldl r l, mem_put, List.mem_cons, or_assoc]
theorem mem_norm (r : Pr) (l : List Pr) : r ∈ norm l ↔ r ∈ l := by
  unfold norm; rw [mem_foldl]; simp
theorem foldl_length : ∀ (l m : List Pr), m.length ≤ (l.foldl put m).length ∧ (l.foldl put m).length ≤ m.length + l.length
  | [], m => by simp
  | p :: l, m => by
    have h1 := foldl_length l (put m p)
    have h2 := put_length p m
    rw [List.foldl_cons, List.length_cons]; omega
theorem norm_length (l : List Pr) : (norm l).length ≤ l.length := by
  have := (foldl_length l []).2; simpa [norm] using this
theorem norm_eq {l m : List Pr} (h : ∀ p, p ∈ l ↔ p ∈ m) : norm l = norm m :=
  rise_ext _ _ (rise_norm l) (rise_norm m) fun p => by rw [mem_norm, mem_norm, h]
theorem norm_of_rise {l : List Pr} (h : Rise l) : norm l = l :=
  rise_ext _ _ (rise_norm l) h fun p => mem_norm p l
theorem norm_norm (l : List Pr) : norm (norm l) = norm l := norm_of_rise (rise_norm l)
theorem rising_iff (l : List Pr) : rising l = decide (l = norm l) := by
  rw [Bool.eq_iff_iff, decide_eq_true_eq]
  constructor
  · intro h; exact (norm_of_rise (rise_of_rising l h)).symm
  · intro h; rw [h]; exact rising_of_rise _ (rise_norm l)
theorem norm_append (l m : List Pr) : norm (l ++ m) = m.foldl put (norm l) := by
  unfold norm; rw [List.foldl_append]

/-- One rising row of two. -/
def uni : List Pr → List Pr → List Pr
  | [], ys => ys
  | x :: xs, [] => x :: xs
  | x :: xs, y :: ys => if x = y then x :: uni xs ys else if lt x y then x :: uni xs (y :: ys) else y :: uni (x :: xs) ys
termination_by xs ys => xs.length + ys.length
theorem uni_nil (ys : List Pr) : uni [] ys = ys := by rw [uni]
theorem uni_nil_right (xs : List Pr) : uni xs [] = xs := by cases xs <;> rw [uni]
theorem uni_same (x : Pr) (xs ys : List Pr) : uni (x :: xs) (x :: ys) = x :: uni xs ys := by rw [uni, if_pos rfl]
theorem uni_lt (x y : Pr) (xs ys : List Pr) (hne : x ≠ y) (h : lt x y = true) : uni (x :: xs) (y :: ys) = x :: uni xs (y :: ys) := by rw [uni, if_neg hne, if_pos h]
theorem uni_gt (x y : Pr) (xs ys : List Pr) (hne : x ≠ y) (h : lt x y = false) : uni (x :: xs) (y :: ys) = y :: uni (x :: xs) ys := by rw [uni, if_neg hne, if_neg (by rw [h]; simp)]
theorem mem_uni (r : Pr) (n : Nat) : ∀ xs ys : List Pr, xs.length + ys.length ≤ n → (r ∈ uni xs ys ↔ r ∈ xs ∨ r ∈ ys) := by
  induction n with
  | zero =>
    intro xs ys h
    obtain rfl : xs = [] := List.eq_nil_of_length_eq_zero (by omega)
    obtain rfl : ys = [] := List.eq_nil_of_length_eq_zero (by omega)
    simp [uni_nil]
  | succ n ih =>
    intro xs ys h
    match xs, ys with
    | [], ys => simp [uni_nil]
    | x :: xs, [] => simp [uni_nil_right]
    | x :: xs, y :: ys =>
      simp only [List.length_cons] at h
      by_cases he : x = y
      · subst he
        rw [uni_same, List.mem_cons, ih xs ys (by omega)]
        simp only [List.mem_cons]
        constructor
        · rintro (h | h | h)
          · exact .inl (.inl h)
          · exact .inl (.inr h)
          · exact .inr (.inr h)
        · rintro ((h | h) | (h | h))
          · exact .inl h
          · exact .inr (.inl h)
          · exact .inl h
          · exact .inr (.inr h)
      · cases hl : lt x y
        · rw [uni_gt x y xs ys he hl, List.mem_cons, ih (x :: xs) ys (by simp; omega)]
          simp only [List.mem_cons]
          constructor
          · rintro (h | h | h)
            · exact .inr (.inl h)
            · exact .inl h
            · exact .inr (.inr h)
          · rintro (h | h | h)
            · exact .inr (.inl h)
            · exact .inl h
            · exact .inr (.inr h)
        · rw [uni_lt x y xs ys he hl, List.mem_cons, ih xs (y :: ys) (by simp; omega)]
          simp only [List.mem_cons, or_assoc]
theorem rise_uni (n : Nat) : ∀ xs ys : List Pr, xs.length + ys.length ≤ n → Rise xs → Rise ys → Rise (uni xs ys) := by
  induction n with
  | zero =>
    intro xs ys h _ hy
    obtain rfl : xs = [] := List.eq_nil_of_length_eq_zero (by omega)
    rw [uni_nil]; exact hy
  | succ n ih =>
    intro xs ys h hx hy
    match xs, ys with
    | [], ys => rw [uni_nil]; exact hy
    | x :: xs, [] => rw [uni_nil_right]; exact hx
    | x :: xs, y :: ys =>
      simp only [List.length_cons] at h
      by_cases he : x = y
      · subst he
        rw [uni_same]
        refine ⟨fun r hr => ?_, ih xs ys (by omega) hx.2 hy.2⟩
        rcases (mem_uni r _ xs ys (Nat.le_refl _)).1 hr with h | h
        · exact hx.1 r h
        · exact hy.1 r h
      · cases hl : lt x y
        · have hl' := lt_total hl he
          rw [uni_gt x y xs ys he hl]
          refine ⟨fun r hr => ?_, ih (x :: xs) ys (by simp; omega) hx hy.2⟩
          rcases (mem_uni r _ (x :: xs) ys (Nat.le_refl _)).1 hr with h | h
          · rcases List.mem_cons.1 h with rfl | h
            · exact hl'
            · exact lt_trans hl' (hx.1 r h)
          · exact hy.1 r h
        · rw [uni_lt x y xs ys he hl]
          refine ⟨fun r hr => ?_, ih xs (y :: ys) (by simp; omega) hx.2 hy⟩
          rcases (mem_uni r _ xs (y :: ys) (Nat.le_refl _)).1 hr with h | h
          · exact hx.1 r h
          · rcases List.mem_cons.1 h with rfl | h
            · exact hl
            · exact lt_trans hl (hy.1 r h)
theorem uni_norm (l m : List Pr) : uni (norm l) (norm m) = norm (l ++ m) :=
  rise_ext _ _ (rise_uni _ _ _ (Nat.le_refl _) (rise_norm l) (rise_norm m)) (rise_norm _) fun p => by
    rw [mem_uni p _ _ _ (Nat.le_refl _), mem_norm, mem_norm, mem_norm, List.mem_append]
theorem norm_halves (l : List Pr) (k : Nat) : uni (norm (l.take k)) (norm (l.drop k)) = norm l := by
  rw [uni_norm, List.take_append_drop]
theorem norm_short (l : List Pr) (h : l.length < 2) : norm l = l := by
  match l, h with
  | [], _ => rfl
  | [_], _ => rfl
theorem norm_more (l : List Pr) : norm (l ++ norm l) = norm l := norm_eq fun p => by simp [mem_norm]
theorem merge_both (a b c : List Pr) : norm (norm (a ++ b) ++ c) = norm (a ++ norm (c ++ b)) := norm_eq fun p => by
  simp only [List.mem_append, mem_norm]
  constructor
  · rintro ((h | h) | h)
    · exact .inl h
    · exact .inr (.inr h)
    · exact .inr (.inl h)
  · rintro (h | h | h)
    · exact .inl (.inl h)
    · exact .inr h
    · exact .inl (.inr h)
theorem merge_length (a b c : List Pr) : (norm a).length ≤ (norm (norm (a ++ b) ++ c)).length := by
  have h1 := (foldl_length c (norm (norm (a ++ b)))).1
  rw [norm_append (norm (a ++ b)) c]
  rw [norm_norm] at h1 ⊢
  have h2 := (foldl_length b (norm a)).1
  rw [norm_append a b] at h1 ⊢
  omega

/-- Each pair is a piece of a line of so many bytes. -/
def fit (n : Int) (p : Pr) : Bool := !(decide (p.s < 0) || decide (p.s > p.e) || decide (p.e > n))
def fits (l : List Pr) (n : Int) : Bool := l.all (fit n)
theorem fits_take_succ (l : List Pr) (n : Int) (k : Nat) (h : k < l.length) : fits (l.take (k + 1)) n = (fits (l.take k) n && fit n l[k]) := by
  unfold fits; rw [List.take_succ_eq_append_getElem h, List.all_append]; simp
theorem fits_false (l : List Pr) (n : Int) (k : Nat) (h : k < l.length) (hf : fit n l[k] = false) : fits l n = false := by
  unfold fits; rw [List.all_eq_false]; exact ⟨l[k], List.getElem_mem h, by rw [hf]; simp⟩

/-- The empty pieces. -/
def empties (n : Nat) : List Pr := (List.range n).map fun i : Nat => (⟨(i : Int), (i : Int)⟩ : Pr)
theorem empties_length (n : Nat) : (empties n).length = n := by simp [empties]
theorem empties_at (n i : Nat) (h : i < n) : (empties n)[i]'(by rw [empties_length]; exact h) = (⟨(i : Int), (i : Int)⟩ : Pr) := by simp [empties]
theorem empties_fit (n : Nat) (m : Int) (h : (n : Int) ≤ m + 1) : fits (empties n) m = true := by
  unfold fits; rw [List.all_eq_true]
  intro p hp
  obtain ⟨i, hi, rfl⟩ := List.mem_map.1 hp
  have := List.mem_range.1 hi
  simp [fit]; omega
/-- By places. -/
theorem rising_at : ∀ (l : List Pr), rising l = true ↔ ∀ i (h : i + 1 < l.length), lt l[i] l[i + 1] = true
  | [] => by simp [rising]
  | [_] => by simp [rising]
  | p :: q :: l => by
    rw [rising, Bool.and_eq_true, rising_at (q :: l)]
    constructor
    · rintro ⟨h1, h2⟩ i hi
      cases i with
      | zero => exact h1
      | succ i => exact h2 i (by simpa using hi)
    · intro h
      exact ⟨h 0 (by simp), fun i hi => h (i + 1) (by simpa using hi)⟩
theorem empties_rise (n : Nat) : rising (empties n) = true := by
  rw [rising_at]
  intro i h
  rw [empties_length] at h
  rw [empties_at n i (by omega), empties_at n (i + 1) (by omega), lt_iff]
  simp; omega
theorem rising_no (l : List Pr) (i : Nat) (h : i + 1 < l.length) (hl : lt l[i] l[i + 1] = false) : rising l = false := by
  rw [Bool.eq_false_iff]; intro hr; rw [(rising_at l).1 hr i h] at hl; cases hl
end Go.Proofs.Ytkooanahgffjgaa.Prs
