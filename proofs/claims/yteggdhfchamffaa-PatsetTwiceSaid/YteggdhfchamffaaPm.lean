/- Sets of texts, as plain mathematics: the texts that aren't empty, each once, in the order in which they came first. -/
import Derived.Test.YteggdhfchamffaaTexts
namespace Go.Proofs.Yteggdhfchamffaa

/-- One text more. -/
def add (s : List (List UInt8)) (x : List UInt8) : List (List UInt8) := if x = [] ∨ x ∈ s then s else s ++ [x]
/-- The texts that aren't empty, each once, in the order in which they came first. -/
def pats (l : List (List UInt8)) : List (List UInt8) := l.foldl add []
theorem pats_nil : pats [] = [] := rfl
theorem pats_snoc (l : List (List UInt8)) (x : List UInt8) : pats (l ++ [x]) = add (pats l) x := by simp [pats]
theorem mem_add (s : List (List UInt8)) (x y : List UInt8) : y ∈ add s x ↔ y ∈ s ∨ (y = x ∧ x ≠ []) := by
  unfold add
  split
  · rename_i h
    constructor
    · exact .inl
    · rintro (h1 | ⟨rfl, h2⟩)
      · exact h1
      · exact h.resolve_left h2
  · rename_i h
    rw [List.mem_append, List.mem_singleton]
    constructor
    · rintro (h1 | rfl)
      · exact .inl h1
      · exact .inr ⟨rfl, fun e => h (.inl e)⟩
    · rintro (h1 | ⟨h1, _⟩)
      · exact .inl h1
      · exact .inr h1
theorem mem_foldl_add (l : List (List UInt8)) : ∀ (s : List (List UInt8)) (y : List UInt8), y ∈ l.foldl add s ↔ y ∈ s ∨ (y ∈ l ∧ y ≠ []) := by
  induction l with
  | nil => intro s y; simp
  | cons x l ih =>
    intro s y
    rw [List.foldl_cons, ih, mem_add, List.mem_cons]
    constructor
    · rintro ((h | ⟨rfl, h⟩) | ⟨h1, h2⟩)
      · exact .inl h
      · exact .inr ⟨.inl rfl, h⟩
      · exact .inr ⟨.inr h1, h2⟩
    · rintro (h | ⟨rfl | h1, h2⟩)
      · exact .inl (.inl h)
      · exact .inl (.inr ⟨rfl, h2⟩)
      · exact .inr ⟨h1, h2⟩
theorem mem_pats (l : List (List UInt8)) (y : List UInt8) : y ∈ pats l ↔ y ∈ l ∧ y ≠ [] := by
  unfold pats; rw [mem_foldl_add]; simp
theorem add_in (l : List (List UInt8)) (x : List UInt8) (h : x ∈ l) : add (pats l) x = pats l := by
  unfold add
  by_cases hx : x = []
  · rw [if_pos (.inl hx)]
  · rw [if_pos (.inr ((mem_pats l x).2 ⟨h, hx⟩))]
theorem add_nil (s : List (List UInt8)) : add s [] = s := by unfold add; rw [if_pos (.inl rfl)]
theorem add_new (l : List (List UInt8)) (x : List UInt8) (h : x ∉ l) (hx : x ≠ []) : add (pats l) x = pats l ++ [x] := by
  unfold add
  rw [if_neg]
  rintro (e | e)
  · exact hx e
  · exact h ((mem_pats l x).1 e).1
theorem add_new' (s : List (List UInt8)) (x : List UInt8) (h : x ∉ s) (hx : x ≠ []) : add s x = s ++ [x] := by
  unfold add
  rw [if_neg]
  rintro (e | e)
  · exact hx e
  · exact h e
theorem add_old (s : List (List UInt8)) (x : List UInt8) (h : x ∈ s) : add s x = s := by unfold add; rw [if_pos (.inr h)]
theorem takes_snoc {α : Type} (l : List α) (k : Nat) (h : k < l.length) : l.take (k + 1) = l.take k ++ [l[k]] := List.take_succ_eq_append_getElem h
theorem pats_take (l : List (List UInt8)) (k : Nat) (h : k < l.length) : pats (l.take (k + 1)) = add (pats (l.take k)) l[k] := by rw [takes_snoc l k h, pats_snoc]
theorem foldl_add_len (l : List (List UInt8)) : ∀ s, (l.foldl add s).length ≤ s.length + l.length := by
  induction l with
  | nil => intro s; simp
  | cons x l ih =>
    intro s
    rw [List.foldl_cons]
    have h1 := ih (add s x)
    have h2 : (add s x).length ≤ s.length + 1 := by unfold add; split <;> simp
    rw [List.length_cons]; omega
theorem pats_len (l : List (List UInt8)) : (pats l).length ≤ l.length := by
  have := foldl_add_len l []
  simpa [pats] using this
/-- How many bytes texts have together. -/
def bytesIn (l : List (List UInt8)) : Nat := (l.map List.length).sum
theorem bytesIn_snoc (l : List (List UInt8)) (k : Nat) (h : k < l.length) : bytesIn (l.take (k + 1)) = bytesIn (l.take k) + l[k].length := by
  unfold bytesIn; rw [takes_snoc l k h, List.map_append, List.sum_append]; simp
theorem bytesIn_le (l : List (List UInt8)) (B : Nat) (h : ∀ x ∈ l, x.length ≤ B) : bytesIn l ≤ l.length * B := by
  induction l with
  | nil => simp [bytesIn]
  | cons x l ih =>
    have h1 := h x (by simp)
    have h2 := ih (fun y hy => h y (by simp [hy]))
    unfold bytesIn at h2 ⊢
    rw [List.map_cons, List.sum_cons, List.length_cons, Nat.add_mul]
    omega
/-- The least of the lengths; 0: there is none. -/
def leastTo (l : List (List UInt8)) : Nat → Nat
  | 0 => 0
  | k + 1 => if k = 0 ∨ (l.getD k []).length < leastTo l k then (l.getD k []).length else leastTo l k
def leastOf (l : List (List UInt8)) : Nat := leastTo l l.length
theorem leastTo_yes (l : List (List UInt8)) (k : Nat) (h : k < l.length) (hc : k = 0 ∨ l[k].length < leastTo l k) : leastTo l (k + 1) = l[k].length := by
  have e : l.getD k [] = l[k] := by simp [List.getD, h]
  rw [leastTo, e, if_pos hc]
theorem leastTo_no (l : List (List UInt8)) (k : Nat) (h : k < l.length) (h0 : k ≠ 0) (hc : ¬ l[k].length < leastTo l k) : leastTo l (k + 1) = leastTo l k := by
  have e : l.getD k [] = l[k] := by simp [List.getD, h]
  rw [leastTo, e, if_neg (by rintro (x | x) <;> contradiction)]
end Go.Proofs.Yteggdhfchamffaa
