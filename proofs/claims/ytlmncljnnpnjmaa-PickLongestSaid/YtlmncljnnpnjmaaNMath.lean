/- Mathematics of stage 23: the pieces that are told alone, and that there is one list alone of them. -/
import Derived.Test.YtlmncljnnpnjmaaGP
namespace Go.Proofs.Ytlmncljnnpnjmaa.Pck
open Go.Proofs.Ytlmncljnnpnjmaa.Prs
set_option maxRecDepth 100000
/-- A pair that isn't empty, and begins at a place or behind it. -/
def Ok (f : Int) (p : Pr) : Prop := p.s < p.e ∧ f ≤ p.s
instance (f : Int) (p : Pr) : Decidable (Ok f p) := inferInstanceAs (Decidable (_ ∧ _))
/-- No pair is ahead of it. -/
def Better (l : List Pr) (f : Int) (p : Pr) : Prop := Ok f p ∧ ∀ q ∈ l, Ok f q → p.s < q.s ∨ (p.s = q.s ∧ q.e ≤ p.e)
instance (l : List Pr) (f : Int) (p : Pr) : Decidable (Better l f p) := inferInstanceAs (Decidable (_ ∧ _))
theorem better_uniq {l : List Pr} {f : Int} {p q : Pr} (hp : p ∈ l) (hq : q ∈ l) (h : Better l f p) (h' : Better l f q) : p = q := by
  rcases h.2 q hq h'.1 with a | ⟨a, b⟩
  · rcases h'.2 p hp h.1 with c | ⟨c, _⟩
    · omega
    · omega
  · rcases h'.2 p hp h.1 with c | ⟨_, d⟩
    · omega
    · cases p; cases q
      simp only [Pr.mk.injEq] at *
      omega
theorem better_exists {f : Int} : ∀ {l : List Pr}, (∃ q ∈ l, Ok f q) → ∃ p ∈ l, Better l f p
  | [], h => by obtain ⟨q, hq, _⟩ := h; cases hq
  | a :: l, h => by
    by_cases hl : ∃ q ∈ l, Ok f q
    · obtain ⟨p, hp, hb⟩ := better_exists hl
      by_cases ha : Ok f a ∧ ¬ (p.s < a.s ∨ (p.s = a.s ∧ a.e ≤ p.e))
      · refine ⟨a, List.mem_cons_self, ha.1, fun q hq ho => ?_⟩
        rcases List.mem_cons.1 hq with rfl | hq
        · exact .inr ⟨rfl, Int.le_refl _⟩
        · have h1 := hb.2 q hq ho
          have h2 := ha.2
          omega
      · refine ⟨p, List.mem_cons_of_mem _ hp, hb.1, fun q hq ho => ?_⟩
        rcases List.mem_cons.1 hq with rfl | hq
        · exact Classical.byContradiction fun hn => ha ⟨ho, hn⟩
        · exact hb.2 q hq ho
    · obtain ⟨q, hq, ho⟩ := h
      rcases List.mem_cons.1 hq with rfl | hq
      · refine ⟨q, List.mem_cons_self, ho, fun r hr hor => ?_⟩
        rcases List.mem_cons.1 hr with rfl | hr
        · exact .inr ⟨rfl, Int.le_refl _⟩
        · exact absurd ⟨r, hr, hor⟩ hl
      · exact absurd ⟨q, hq, ho⟩ hl
/-- The first one. -/
def firstOf (l : List Pr) (f : Int) : Option Pr := l.find? fun p => decide (Better l f p)
theorem first_some {l : List Pr} {f : Int} {p : Pr} : firstOf l f = some p ↔ p ∈ l ∧ Better l f p := by
  constructor
  · intro h
    exact ⟨List.mem_of_find?_eq_some h, by simpa using List.find?_some h⟩
  · rintro ⟨hp, hb⟩
    cases h : firstOf l f with
    | none =>
      have := List.find?_eq_none.1 h p hp
      simp [hb] at this
    | some q =>
      have hq := List.mem_of_find?_eq_some h
      have hqb : Better l f q := by simpa using List.find?_some h
      rw [better_uniq hp hq hb hqb]
theorem first_none {l : List Pr} {f : Int} : firstOf l f = none ↔ ∀ q ∈ l, ¬ Ok f q := by
  constructor
  · intro h q hq ho
    obtain ⟨p, hp, hb⟩ := better_exists ⟨q, hq, ho⟩
    rw [(first_some).2 ⟨hp, hb⟩] at h
    cases h
  · intro h
    cases e : firstOf l f with
    | none => rfl
    | some p => exact absurd (first_some.1 e).2.1 (h p (first_some.1 e).1)
/-- How many pairs can still be told. -/
def left (l : List Pr) (f : Int) : Nat := (l.filter fun q => decide (Ok f q)).length
theorem filter_lt {α : Type} (a b : α → Bool) : ∀ l : List α, (∀ x ∈ l, a x = true → b x = true) → (∃ x ∈ l, b x = true ∧ a x = false) → (l.filter a).length < (l.filter b).length
  | [], _, h => by obtain ⟨x, hx, _⟩ := h; cases hx
  | y :: l, h1, h2 => by
    have hle : (l.filter a).length ≤ (l.filter b).length := by
      clear h2
      induction l with
      | nil => simp
      | cons z l ih =>
        have ih := ih fun x hx => h1 x (by
          rcases List.mem_cons.1 hx with rfl | hx
          · exact List.mem_cons_self
          · exact List.mem_cons_of_mem _ (List.mem_cons_of_mem _ hx))
        have hz := h1 z (by simp)
        rw [List.filter_cons, List.filter_cons]
        cases ea : a z
        · cases eb : b z
          · simpa using ih
          · simp; omega
        · rw [hz ea]; simpa using ih
    rw [List.filter_cons, List.filter_cons]
    obtain ⟨x, hx, hb, ha⟩ := h2
    rcases List.mem_cons.1 hx with rfl | hx
    · rw [hb, ha]; simp; omega
    · have ih := filter_lt a b l (fun z hz => h1 z (List.mem_cons_of_mem _ hz)) ⟨x, hx, hb, ha⟩
      have hy := h1 y List.mem_cons_self
      cases ea : a y
      · cases eb : b y
        · simpa using ih
        · simp; omega
      · rw [hy ea]; simpa using ih
theorem left_lt {l : List Pr} {f : Int} {p : Pr} (hp : p ∈ l) (hb : Better l f p) : left l p.e < left l f := by
  refine filter_lt _ _ l (fun x _ hx => ?_) ⟨p, hp, by simpa using hb.1, ?_⟩
  · have h := hb.1
    simp only [decide_eq_true_iff] at hx ⊢
    unfold Ok at *
    omega
  · have h := hb.1
    simp only [decide_eq_false_iff_not]
    unfold Ok at *
    omega
theorem left_le (l : List Pr) (f : Int) : left l f ≤ l.length := List.length_filter_le _ _
/-- The pieces that are told alone, from a place on; n: no fewer than can be told. -/
def longTo (l : List Pr) : Nat → Int → List Pr
  | 0, _ => []
  | n + 1, f => match firstOf l f with | none => [] | some p => p :: longTo l n p.e
def longFrom (l : List Pr) (f : Int) : List Pr := longTo l (left l f) f
theorem longTo_enough (l : List Pr) : ∀ (n m : Nat) (f : Int), left l f ≤ n → left l f ≤ m → longTo l n f = longTo l m f
  | 0, 0, _, _, _ => rfl
  | 0, m + 1, f, h, _ => by
    rw [longTo, longTo]
    cases e : firstOf l f with
    | none => rfl
    | some p =>
      obtain ⟨hp, hb⟩ := first_some.1 e
      have := left_lt hp hb
      omega
  | n + 1, 0, f, _, h => by
    rw [longTo, longTo]
    cases e : firstOf l f with
    | none => rfl
    | some p =>
      obtain ⟨hp, hb⟩ := first_some.1 e
      have := left_lt hp hb
      omega
  | n + 1, m + 1, f, h1, h2 => by
    rw [longTo, longTo]
    cases e : firstOf l f with
    | none => rfl
    | some p =>
      obtain ⟨hp, hb⟩ := first_some.1 e
      have := left_lt hp hb
      show p :: _ = p :: _
      rw [longTo_enough l n m p.e (by omega) (by omega)]
theorem long_none {l : List Pr} {f : Int} (h : firstOf l f = none) : longFrom l f = [] := by
  unfold longFrom
  cases left l f with
  | zero => rfl
  | succ n => rw [longTo, h]
theorem long_some {l : List Pr} {f : Int} {p : Pr} (h : firstOf l f = some p) : longFrom l f = p :: longFrom l p.e := by
  obtain ⟨hp, hb⟩ := first_some.1 h
  have hlt := left_lt hp hb
  unfold longFrom
  obtain ⟨n, e⟩ : ∃ n, left l f = n + 1 := ⟨left l f - 1, by omega⟩
  rw [e, longTo, h]
  show p :: _ = p :: _
  rw [longTo_enough l n (left l p.e) p.e (by omega) (Nat.le_refl _)]
/-- Each begins where the one ahead ends, or behind it. -/
def Chain : Int → List Pr → Prop
  | _, [] => True
  | f, p :: q => f ≤ p.s ∧ p.s < p.e ∧ Chain p.e q
theorem Chain.ge : ∀ {q : List Pr} {f : Int}, Chain f q → ∀ p ∈ q, f ≤ p.s ∧ p.s < p.e
  | [], _, _, p, hp => by cases hp
  | a :: q, f, h, p, hp => by
    obtain ⟨h1, h2, h3⟩ := h
    rcases List.mem_cons.1 hp with rfl | hp
    · exact ⟨h1, h2⟩
    · have := Chain.ge h3 p hp
      omega
/-- What is told of such a list. -/
structure Good (l : List Pr) (f : Int) (q : List Pr) : Prop where
  chain : Chain f q
  mem : ∀ p ∈ q, p ∈ l
  most : ∀ p ∈ q, ∀ r ∈ l, r.s = p.s → r.e ≤ p.e
  cover : ∀ r ∈ l, Ok f r → ∃ p ∈ q, p.s ≤ r.s ∧ r.s < p.e
theorem good_nil {l : List Pr} {f : Int} : Good l f [] ↔ firstOf l f = none := by
  rw [first_none]
  constructor
  · intro h r hr ho
    obtain ⟨p, hp, _⟩ := h.cover r hr ho
    cases hp
  · intro h
    exact ⟨trivial, (fun p hp => by cases hp), (fun p hp => by cases hp), fun r hr ho => absurd ho (h r hr)⟩
theorem good_cons {l : List Pr} {f : Int} {p : Pr} {q : List Pr} : Good l f (p :: q) ↔ firstOf l f = some p ∧ Good l p.e q := by
  rw [first_some]
  constructor
  · intro h
    obtain ⟨h1, h2, h3⟩ := h.chain
    refine ⟨⟨h.mem p List.mem_cons_self, ⟨h2, h1⟩, fun r hr ho => ?_⟩, h3, fun x hx => h.mem x (List.mem_cons_of_mem _ hx), fun x hx => h.most x (List.mem_cons_of_mem _ hx), fun r hr ho => ?_⟩
    · obtain ⟨x, hx, h4, h5⟩ := h.cover r hr ho
      have hs : p.s ≤ r.s := by
        rcases List.mem_cons.1 hx with rfl | hx
        · exact h4
        · have := Chain.ge h3 x hx
          omega
      rcases Int.lt_or_eq_of_le hs with h6 | h6
      · exact .inl h6
      · exact .inr ⟨h6, h.most p List.mem_cons_self r hr h6.symm⟩
    · obtain ⟨x, hx, h4, h5⟩ := h.cover r hr ⟨ho.1, by have := ho.2; omega⟩
      rcases List.mem_cons.1 hx with rfl | hx
      · have := ho.2; omega
      · exact ⟨x, hx, h4, h5⟩
  · rintro ⟨⟨hp, hb⟩, h⟩
    refine ⟨⟨hb.1.2, hb.1.1, h.chain⟩, fun x hx => ?_, fun x hx r hr e => ?_, fun r hr ho => ?_⟩
    · rcases List.mem_cons.1 hx with rfl | hx
      · exact hp
      · exact h.mem x hx
    · rcases List.mem_cons.1 hx with rfl | hx
      · by_cases hn : r.s < r.e
        · rcases hb.2 r hr ⟨hn, by have := hb.1.2; omega⟩ with h1 | ⟨_, h1⟩
          · omega
          · exact h1
        · have := hb.1.1; omega
      · exact h.most x hx r hr e
    · have hs : p.s ≤ r.s := by
        rcases hb.2 r hr ho with h1 | ⟨h1, _⟩ <;> omega
      by_cases h1 : r.s < p.e
      · exact ⟨p, List.mem_cons_self, hs, h1⟩
      · obtain ⟨x, hx, h2⟩ := h.cover r hr ⟨ho.1, by omega⟩
        exact ⟨x, List.mem_cons_of_mem _ hx, h2⟩
/-- There is one list alone of which that is so: the one that is told. -/
theorem good_only {l : List Pr} : ∀ {q : List Pr} {f : Int}, Good l f q ↔ q = longFrom l f
  | [], f => by
    rw [good_nil]
    constructor
    · intro h; rw [long_none h]
    · intro h
      cases e : firstOf l f with
      | none => rfl
      | some p => rw [long_some e] at h; cases h
  | p :: q, f => by
    rw [good_cons, good_only]
    constructor
    · rintro ⟨h1, h2⟩; rw [long_some h1, ← h2]
    · intro h
      cases e : firstOf l f with
      | none => rw [long_none e] at h; cases h
      | some r =>
        rw [long_some e] at h
        obtain ⟨rfl, h2⟩ := List.cons.inj h
        exact ⟨rfl, h2⟩
theorem good_long (l : List Pr) (f : Int) : Good l f (longFrom l f) := good_only.2 rfl
/-- Empty pairs, order, and how often one is there, play no part. -/
theorem long_congr {l m : List Pr} (h : ∀ p : Pr, p.s < p.e → (p ∈ l ↔ p ∈ m)) (f : Int) : longFrom l f = longFrom m f := by
  apply good_only.1
  obtain ⟨h1, h2, h3, h4⟩ := good_long l f
  refine ⟨h1, fun p hp => (h p (Chain.ge h1 p hp).2).1 (h2 p hp), fun p hp r hr e => ?_, fun r hr ho => h4 r ((h r ho.1).2 hr) ho⟩
  by_cases hn : r.s < r.e
  · exact h3 p hp r ((h r hn).2 hr) e
  · have := (Chain.ge h1 p hp).2; omega
theorem chain_same : ∀ {q : List Pr} {f : Int}, Chain f q → ∀ p ∈ q, ∀ r ∈ q, p.s ≤ r.s → r.s < p.e → p = r
  | [], _, _, p, hp, _, _, _, _ => by cases hp
  | a :: q, f, h, p, hp, r, hr, h1, h2 => by
    obtain ⟨h3, h4, h5⟩ := h
    rcases List.mem_cons.1 hp with e | hp'
    · rcases List.mem_cons.1 hr with e' | hr'
      · rw [e, e']
      · have := Chain.ge h5 r hr'; rw [e] at h2; omega
    · rcases List.mem_cons.1 hr with e' | hr'
      · have := Chain.ge h5 p hp'; rw [e'] at h1; omega
      · exact chain_same h5 p hp' r hr' h1 h2
/-- What is told alone stays when it is told alone. -/
theorem long_again (l : List Pr) (f : Int) : longFrom (longFrom l f) f = longFrom l f := by
  have h := (good_long l f).chain
  refine (good_only.1 ⟨h, fun p hp => hp, fun p hp r hr e => ?_, fun r hr ho => ⟨r, hr, Int.le_refl _, ho.1⟩⟩).symm
  have := chain_same h p hp r hr (by omega) (by have := (Chain.ge h p hp).2; omega)
  rw [this]; exact Int.le_refl _
/-- Whatever place one begins with, if none begins ahead of it. -/
theorem long_from {l : List Pr} {f g : Int} (hf : ∀ p ∈ l, f ≤ p.s) (hg : ∀ p ∈ l, g ≤ p.s) : longFrom l f = longFrom l g := by
  apply good_only.1
  obtain ⟨h1, h2, h3, h4⟩ := good_long l f
  refine ⟨?_, h2, h3, fun r hr ho => h4 r hr ⟨ho.1, hf r hr⟩⟩
  cases e : longFrom l f with
  | nil => trivial
  | cons p q =>
    rw [e] at h1 h2
    exact ⟨hg p (h2 p List.mem_cons_self), h1.2.1, h1.2.2⟩
/-- What stands between pieces. -/
def gapsTo (n : Int) : Int → List Pr → List Pr
  | a, [] => if a < n then [⟨a, n⟩] else []
  | a, p :: l => (if a < p.s then [⟨a, p.s⟩] else []) ++ gapsTo n (if a < p.e then p.e else a) l
/-- How many of some pairs a place stands in. -/
def inn (x : Int) (l : List Pr) : Nat := (l.filter fun p => decide (p.s ≤ x ∧ x < p.e)).length
theorem inn_nil (x : Int) : inn x [] = 0 := rfl
theorem inn_cons (x : Int) (p : Pr) (l : List Pr) : inn x (p :: l) = (if p.s ≤ x ∧ x < p.e then 1 else 0) + inn x l := by
  unfold inn
  rw [List.filter_cons]
  by_cases h : p.s ≤ x ∧ x < p.e
  · rw [if_pos (by simpa using h), if_pos h, List.length_cons]; omega
  · rw [if_neg (by simpa using h), if_neg h]; omega
theorem inn_one (x a n : Int) : inn x [⟨a, n⟩] = if a ≤ x ∧ x < n then 1 else 0 := by rw [inn_cons, inn_nil, Nat.add_zero]
theorem inn_append (x : Int) : ∀ l m : List Pr, inn x (l ++ m) = inn x l + inn x m := fun l m => by
  unfold inn
  rw [List.filter_append, List.length_append]
theorem inn_far : ∀ {l : List Pr} {f : Int}, Chain f l → ∀ x, x < f → inn x l = 0
  | [], _, _, _, _ => rfl
  | p :: l, f, h, x, hx => by
    obtain ⟨h1, h2, h3⟩ := h
    rw [inn_cons, if_neg (by omega), inn_far h3 x (by omega)]
/-- Pieces in order, and what stands between them, make the line: each place stands in just one. -/
theorem gaps_make : ∀ {l : List Pr} {a n : Int}, Chain a l → (∀ p ∈ l, p.e ≤ n) → ∀ x, a ≤ x → inn x l + inn x (gapsTo n a l) = if x < n then 1 else 0
  | [], a, n, _, _, x, hx => by
    rw [inn_nil, gapsTo]
    by_cases h : a < n
    · rw [if_pos h, inn_one]
      by_cases h2 : x < n
      · rw [if_pos ⟨hx, h2⟩, if_pos h2]
      · rw [if_neg (by omega), if_neg h2]
    · rw [if_neg h, inn_nil, if_neg (by omega)]
  | p :: l, a, n, h, hn, x, hx => by
    obtain ⟨h1, h2, h3⟩ := h
    have hpn := hn p List.mem_cons_self
    rw [gapsTo, inn_cons, inn_append, if_pos (show a < p.e by omega)]
    have hgap : inn x (if a < p.s then [⟨a, p.s⟩] else []) = if x < p.s then 1 else 0 := by
      by_cases h4 : a < p.s
      · rw [if_pos h4, inn_one]
        by_cases h5 : x < p.s
        · rw [if_pos ⟨hx, h5⟩, if_pos h5]
        · rw [if_neg (by omega), if_neg h5]
      · rw [if_neg h4, inn_nil, if_neg (by omega)]
    rw [hgap]
    by_cases h6 : p.e ≤ x
    · have ih := gaps_make h3 (fun q hq => hn q (List.mem_cons_of_mem _ hq)) x h6
      rw [if_neg (by omega), if_neg (by omega)]
      omega
    · have hz : inn x l = 0 := inn_far h3 x (by omega)
      have hg : ∀ (m : List Pr) (b : Int), Chain b m → x < b → inn x (gapsTo n b m) = 0 := by
        intro m
        induction m with
        | nil =>
          intro b _ hb
          rw [gapsTo]
          split
          · rw [inn_one, if_neg (by omega)]
          · rfl
        | cons q m ih =>
          intro b hc hb
          obtain ⟨c1, c2, c3⟩ := hc
          rw [gapsTo, inn_append, if_pos (show b < q.e by omega), ih q.e c3 (by omega)]
          split
          · rw [inn_one, if_neg (by omega)]
          · rfl
      rw [hz, hg l p.e h3 (by omega), if_pos (show x < n by omega)]
      by_cases h7 : x < p.s
      · rw [if_neg (by omega), if_pos h7]
      · rw [if_pos ⟨by omega, by omega⟩, if_neg h7]
/-- What stands between pieces isn't empty, and within the line. -/
theorem gaps_fit : ∀ {l : List Pr} {a n : Int}, Chain a l → (∀ p ∈ l, p.e ≤ n) → ∀ g ∈ gapsTo n a l, g.s < g.e ∧ a ≤ g.s ∧ g.e ≤ n
  | [], a, n, _, _, g, hg => by
    rw [gapsTo] at hg
    split at hg
    · rcases List.mem_cons.1 hg with rfl | hg
      · exact ⟨by assumption, Int.le_refl _, Int.le_refl _⟩
      · cases hg
    · cases hg
  | p :: l, a, n, h, hn, g, hg => by
    obtain ⟨h1, h2, h3⟩ := h
    have hpn := hn p List.mem_cons_self
    rw [gapsTo, if_pos (show a < p.e by omega), List.mem_append] at hg
    rcases hg with hg | hg
    · split at hg
      · rcases List.mem_cons.1 hg with rfl | hg
        · exact ⟨by assumption, Int.le_refl _, by show p.s ≤ n; omega⟩
        · cases hg
      · cases hg
    · have := gaps_fit h3 (fun q hq => hn q (List.mem_cons_of_mem _ hq)) g hg
      omega
end Go.Proofs.Ytlmncljnnpnjmaa.Pck
