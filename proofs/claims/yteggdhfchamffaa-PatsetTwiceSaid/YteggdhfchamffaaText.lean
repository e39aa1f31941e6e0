/- A text's lines, as plain mathematics. -/
import Derived.Lib.IndexLaws
namespace Go.Proofs.Yteggdhfchamffaa

/-- A line: where it begins, its bytes, whether a newline stands behind it. -/
structure Ln where
  off : Nat
  text : List UInt8
  ends : Bool

/-- The lines of a text whose bytes `cur` since `off` have come already. -/
def goes : Nat → List UInt8 → List UInt8 → List Ln
  | off, cur, [] => if cur = [] then [] else [⟨off, cur, false⟩]
  | off, cur, c :: t => if c = 10 then ⟨off, cur, true⟩ :: goes (off + cur.length + 1) [] t else goes off (cur ++ [c]) t

theorem goes_nil (off : Nat) (cur : List UInt8) : goes off cur [] = if cur = [] then [] else [⟨off, cur, false⟩] := rfl
theorem goes_end (off : Nat) : goes off [] [] = [] := rfl
theorem goes_open (off : Nat) (cur : List UInt8) (h : cur ≠ []) : goes off cur [] = [⟨off, cur, false⟩] := by rw [goes_nil, if_neg h]
theorem goes_newline (off : Nat) (cur t : List UInt8) : goes off cur (10 :: t) = ⟨off, cur, true⟩ :: goes (off + cur.length + 1) [] t := by
  rw [goes, if_pos rfl]
theorem goes_byte (off : Nat) (cur t : List UInt8) (c : UInt8) (h : c ≠ 10) : goes off cur (c :: t) = goes off (cur ++ [c]) t := by
  rw [goes, if_neg h]

theorem goes_bare : ∀ (x : List UInt8) (off : Nat) (cur t : List UInt8), (10 : UInt8) ∉ x → goes off cur (x ++ t) = goes off (cur ++ x) t
  | [], off, cur, t, _ => by simp
  | c :: x, off, cur, t, h => by
    have h1 : c ≠ 10 := fun e => h (by simp [e])
    have h2 : (10 : UInt8) ∉ x := fun e => h (by simp [e])
    rw [List.cons_append, goes_byte _ _ _ _ h1, goes_bare x off (cur ++ [c]) t h2, List.append_assoc]
    rfl

/-- What a search for the first newline says of the lines: there is one. -/
theorem goes_found (off k : Nat) (t : List UInt8) (h : Lib.indexByte t 10 = (k : Int)) :
    k < t.length ∧ goes off [] t = ⟨off, t.take k, true⟩ :: goes (off + k + 1) [] (t.drop (k + 1)) := by
  obtain ⟨h1, h2⟩ := Lib.indexByte_some h
  obtain ⟨hk, h1⟩ := List.getElem?_eq_some_iff.1 h1
  refine ⟨hk, ?_⟩
  have e : t = t.take k ++ 10 :: t.drop (k + 1) := by
    rw [← h1, ← List.drop_eq_getElem_cons hk, List.take_append_drop]
  have hn : (10 : UInt8) ∉ t.take k := by
    intro hm
    obtain ⟨i, hi, he⟩ := List.getElem_of_mem hm
    have hik : i < k := by simp at hi; omega
    refine h2 i hik ?_
    rw [List.getElem?_eq_getElem (by omega), ← he, List.getElem_take]
  have e2 : goes off [] t = goes off [] (t.take k ++ 10 :: t.drop (k + 1)) := by rw [← e]
  rw [e2, goes_bare _ _ _ _ hn, List.nil_append, goes_newline]
  have e3 : (t.take k).length = k := by simp; omega
  rw [e3]
/-- .. there is none. -/
theorem goes_none (off : Nat) (t : List UInt8) (h : Lib.indexByte t 10 = -1) (h0 : t ≠ []) : goes off [] t = [⟨off, t, false⟩] := by
  have hn : (10 : UInt8) ∉ t := by
    intro hm
    obtain ⟨i, hi, he⟩ := List.getElem_of_mem hm
    exact Lib.indexByte_none h i (by rw [List.getElem?_eq_getElem hi, he])
  have := goes_bare t off [] [] hn
  rw [List.append_nil, List.nil_append] at this
  rw [this, goes_open _ _ h0]

/-- The lines of a text. -/
def linesOf (t : List UInt8) : List Ln := goes 0 [] t

/-- How many newlines there are. -/
def nls (t : List UInt8) : Nat := t.count 10
theorem nls_snoc (t : List UInt8) (k : Nat) (h : k < t.length) : nls (t.take (k + 1)) = nls (t.take k) + if t[k] = 10 then 1 else 0 := by
  unfold nls
  rw [List.take_succ_eq_append_getElem h, List.count_append, List.count_singleton]
  simp
theorem nls_le (t : List UInt8) : nls t ≤ t.length := List.count_le_length

/-- Does the text end in a byte that is no newline? -/
def openB (t : List UInt8) : Bool := match t.getLast? with
  | none => false
  | some c => c != 10
theorem goes_length : ∀ (t : List UInt8) (off : Nat) (cur : List UInt8), (goes off cur t).length = nls t + if (if t = [] then decide (cur ≠ []) else openB t) = true then 1 else 0
  | [], off, cur => by
    by_cases h : cur = [] <;> simp [goes_nil, h, nls]
  | c :: t, off, cur => by
    by_cases hc : c = 10
    · subst hc
      rw [goes_newline, List.length_cons, goes_length t]
      cases t with
      | nil => simp [nls, openB]
      | cons d t => simp [nls, openB]; omega
    · rw [goes_byte _ _ _ _ hc, goes_length t]
      cases t with
      | nil => simp [nls, openB, hc]
      | cons d t => simp [nls, openB, hc]
theorem lines_length (t : List UInt8) : (linesOf t).length = nls t + if openB t = true then 1 else 0 := by
  unfold linesOf
  rw [goes_length]
  cases t with
  | nil => simp [openB]
  | cons c t => simp

theorem goes_len_le : ∀ (t : List UInt8) (off : Nat) (cur : List UInt8), (goes off cur t).length ≤ t.length + if cur = [] then 0 else 1
  | [], off, cur => by by_cases h : cur = [] <;> simp [goes_nil, h]
  | c :: t, off, cur => by
    by_cases hc : c = 10
    · subst hc
      have := goes_len_le t (off + cur.length + 1) []
      rw [goes_newline, List.length_cons, List.length_cons]
      simp at this
      omega
    · have := goes_len_le t off (cur ++ [c])
      rw [goes_byte _ _ _ _ hc, List.length_cons]
      simp at this
      omega
theorem lines_le (t : List UInt8) : (linesOf t).length ≤ t.length := by
  have := goes_len_le t 0 []
  simpa [linesOf] using this

/-- Every line is no longer than the text, and none has a newline. -/
theorem goes_bound : ∀ (t : List UInt8) (off : Nat) (cur : List UInt8), (10 : UInt8) ∉ cur → ∀ x ∈ goes off cur t, x.off + x.text.length ≤ off + cur.length + t.length ∧ (10 : UInt8) ∉ x.text
  | [], off, cur, hc, x, hx => by
    rw [goes_nil] at hx
    split at hx
    · cases hx
    · simp at hx; subst hx; exact ⟨by simp, hc⟩
  | c :: t, off, cur, hcur, x, hx => by
    by_cases hc : c = 10
    · subst hc
      rw [goes_newline] at hx
      rcases List.mem_cons.1 hx with rfl | hx
      · exact ⟨by simp, hcur⟩
      · have := goes_bound t (off + cur.length + 1) [] (by simp) x hx
        simp only [List.length_nil, List.length_cons] at this ⊢
        exact ⟨by omega, this.2⟩
    · rw [goes_byte _ _ _ _ hc] at hx
      have := goes_bound t off (cur ++ [c]) (by simp [hcur]; exact fun e => hc e.symm) x hx
      simp only [List.length_append, List.length_cons, List.length_nil] at this ⊢
      exact ⟨by omega, this.2⟩
theorem lines_bound (t : List UInt8) (x : Ln) (hx : x ∈ linesOf t) : x.off + x.text.length ≤ t.length ∧ (10 : UInt8) ∉ x.text := by
  have := goes_bound t 0 [] (by simp) x hx
  simpa using this
end Go.Proofs.Yteggdhfchamffaa
