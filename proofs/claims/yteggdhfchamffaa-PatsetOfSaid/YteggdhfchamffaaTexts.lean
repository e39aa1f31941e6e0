/- What the statements on lines come to, as plain mathematics. -/
import Derived.Test.YteggdhfchamffaaText
namespace Go.Proofs.Yteggdhfchamffaa

def Ln.shift (far : Nat) (x : Ln) : Ln := ⟨x.off + far, x.text, x.ends⟩
theorem shift_zero (x : Ln) : x.shift 0 = x := rfl
theorem map_shift_zero (l : List Ln) : l.map (Ln.shift 0) = l := by
  induction l with
  | nil => rfl
  | cons x l ih => rw [List.map_cons, ih, shift_zero]

theorem goes_shift : ∀ (t : List UInt8) (off d : Nat) (cur : List UInt8), goes (off + d) cur t = (goes off cur t).map (Ln.shift d)
  | [], off, d, cur => by
    rw [goes_nil, goes_nil]
    split <;> rfl
  | c :: t, off, d, cur => by
    by_cases hc : c = 10
    · subst hc
      rw [goes_newline, goes_newline, List.map_cons, ← goes_shift t]
      have e : off + d + cur.length + 1 = off + cur.length + 1 + d := by omega
      rw [e]; rfl
    · rw [goes_byte _ _ _ _ hc, goes_byte _ _ _ _ hc, goes_shift t]
theorem goes_parts : ∀ (a : List UInt8) (off : Nat) (cur b : List UInt8), goes off cur (a ++ 10 :: b) = goes off cur (a ++ [10]) ++ goes (off + cur.length + a.length + 1) [] b
  | [], off, cur, b => by
    rw [List.nil_append, List.nil_append, goes_newline, goes_newline, goes_end]; rfl
  | c :: a, off, cur, b => by
    by_cases hc : c = 10
    · subst hc
      rw [List.cons_append, List.cons_append, goes_newline, goes_newline, goes_parts a, List.cons_append]
      have e : off + cur.length + 1 + [].length (α := UInt8) + a.length + 1 = off + cur.length + (10 :: a).length + 1 := by simp; omega
      rw [e]
    · rw [List.cons_append, List.cons_append, goes_byte _ _ _ _ hc, goes_byte _ _ _ _ hc, goes_parts a]
      have e : off + (cur ++ [c]).length + a.length + 1 = off + cur.length + (c :: a).length + 1 := by simp; omega
      rw [e]
theorem lines_parts (a b : List UInt8) : linesOf (a ++ [10] ++ b) = linesOf (a ++ [10]) ++ (linesOf b).map (Ln.shift (a ++ [10]).length) := by
  unfold linesOf
  rw [List.append_assoc, List.singleton_append, goes_parts, ← goes_shift]
  simp

theorem goes_last_open : ∀ (t : List UInt8) (off : Nat) (cur : List UInt8), (if t = [] then cur ≠ [] else openB t = true) → ∃ ls o c, goes off cur t = ls ++ [⟨o, c, false⟩] ∧ goes off cur (t ++ [10]) = ls ++ [⟨o, c, true⟩]
  | [], off, cur, h => by
    rw [if_pos rfl] at h
    exact ⟨[], off, cur, by rw [goes_open _ _ h]; rfl, by rw [List.nil_append, goes_newline, goes_end]; rfl⟩
  | c :: t, off, cur, h => by
    rw [if_neg (by simp)] at h
    by_cases hc : c = 10
    · subst hc
      have h2 : if t = [] then ([] : List UInt8) ≠ [] else openB t = true := by
        cases t with
        | nil => simp [openB] at h
        | cons d t => simpa [openB] using h
      obtain ⟨ls, o, x, h3, h4⟩ := goes_last_open t (off + cur.length + 1) [] h2
      exact ⟨⟨off, cur, true⟩ :: ls, o, x, by rw [goes_newline, h3]; rfl, by rw [List.cons_append, goes_newline, h4]; rfl⟩
    · have h2 : if t = [] then cur ++ [c] ≠ [] else openB t = true := by
        cases t with
        | nil => simp
        | cons d t => simpa [openB] using h
      obtain ⟨ls, o, x, h3, h4⟩ := goes_last_open t off (cur ++ [c]) h2
      exact ⟨ls, o, x, by rw [goes_byte _ _ _ _ hc, h3], by rw [List.cons_append, goes_byte _ _ _ _ hc, h4]⟩
theorem lines_open (t : List UInt8) (h : openB t = true) : ∃ ls o c, linesOf t = ls ++ [⟨o, c, false⟩] ∧ linesOf (t ++ [10]) = ls ++ [⟨o, c, true⟩] := by
  refine goes_last_open t 0 [] ?_
  cases t with
  | nil => simp [openB] at h
  | cons c t => simpa using h
theorem goes_last_shut : ∀ (t : List UInt8) (off : Nat) (cur : List UInt8), (if t = [] then cur = [] else openB t = false) → goes off cur (t ++ [10]) = goes off cur t ++ [⟨off + cur.length + t.length, [], true⟩]
  | [], off, cur, h => by
    rw [if_pos rfl] at h
    subst h
    rw [List.nil_append, goes_newline, goes_end, goes_end]; rfl
  | c :: t, off, cur, h => by
    rw [if_neg (by simp)] at h
    by_cases hc : c = 10
    · subst hc
      have h2 : if t = [] then ([] : List UInt8) = [] else openB t = false := by
        cases t with
        | nil => simp
        | cons d t => simpa [openB] using h
      rw [List.cons_append, goes_newline, goes_newline, goes_last_shut t _ _ h2, List.cons_append]
      have e : off + cur.length + 1 + [].length (α := UInt8) + t.length = off + cur.length + (10 :: t).length := by simp; omega
      rw [e]
    · have h2 : if t = [] then cur ++ [c] = [] else openB t = false := by
        cases t with
        | nil => simp [openB, hc] at h
        | cons d t => simpa [openB] using h
      rw [List.cons_append, goes_byte _ _ _ _ hc, goes_byte _ _ _ _ hc, goes_last_shut t _ _ h2]
      have e : off + (cur ++ [c]).length + t.length = off + cur.length + (c :: t).length := by simp; omega
      rw [e]
theorem lines_shut (t : List UInt8) (h : openB t = false) : linesOf (t ++ [10]) = linesOf t ++ [⟨t.length, [], true⟩] := by
  have := goes_last_shut t 0 [] (by cases t with
    | nil => simp
    | cons c t => simpa using h)
  simpa [linesOf] using this

/-- What lines make, with the newlines that end them. -/
def made (ls : List Ln) : List UInt8 := ls.flatMap fun x => x.text ++ if x.ends then [10] else []
theorem made_snoc (ls : List Ln) (k : Nat) (h : k < ls.length) : made (ls.take (k + 1)) = made (ls.take k) ++ ls[k].text ++ if ls[k].ends then [10] else [] := by
  unfold made
  rw [List.take_succ_eq_append_getElem h, List.flatMap_append]
  simp
theorem goes_made : ∀ (t : List UInt8) (off : Nat) (cur : List UInt8), made (goes off cur t) = cur ++ t
  | [], off, cur => by
    rw [goes_nil]
    split
    · rename_i h; subst h; rfl
    · simp [made]
  | c :: t, off, cur => by
    by_cases hc : c = 10
    · subst hc
      have := goes_made t (off + cur.length + 1) []
      rw [goes_newline]
      unfold made at this ⊢
      rw [List.flatMap_cons, this]
      simp
    · rw [goes_byte _ _ _ _ hc, goes_made t]; simp
theorem lines_made (t : List UInt8) : made (linesOf t) = t := by
  have := goes_made t 0 []
  simpa [linesOf] using this
theorem goes_offs : ∀ (t : List UInt8) (off : Nat) (cur : List UInt8) (k : Nat) (h : k < (goes off cur t).length), (goes off cur t)[k].off = off + (made ((goes off cur t).take k)).length ∧
    ((goes off cur t)[k].ends = false → k + 1 = (goes off cur t).length ∧ (goes off cur t)[k].text ≠ [])
  | [], off, cur, k, h => by
    rw [goes_nil] at h
    by_cases hc : cur = []
    · simp [hc] at h
    · have e := goes_open off cur hc
      have h0 : k = 0 := by rw [if_neg hc] at h; simp at h; exact h
      subst h0
      simp only [e]
      simp [made, hc]
  | c :: t, off, cur, k, h => by
    by_cases hc : c = 10
    · subst hc
      have e := goes_newline off cur t
      simp only [e] at h ⊢
      cases k with
      | zero => simp [made]
      | succ k =>
        have h' : k < (goes (off + cur.length + 1) [] t).length := by simpa using h
        obtain ⟨h1, h2⟩ := goes_offs t (off + cur.length + 1) [] k h'
        simp only [List.getElem_cons_succ, List.take_succ_cons, List.length_cons]
        refine ⟨?_, fun he => ⟨by rw [(h2 he).1], (h2 he).2⟩⟩
        rw [h1]
        unfold made
        rw [List.flatMap_cons, List.length_append]
        simp
        omega
    · have e := goes_byte off cur t c hc
      simp only [e] at h ⊢
      exact goes_offs t off (cur ++ [c]) k h
theorem lines_offs (t : List UInt8) (k : Nat) (h : k < (linesOf t).length) : (linesOf t)[k].off = (made ((linesOf t).take k)).length ∧ ((linesOf t)[k].ends = false → k + 1 = (linesOf t).length ∧ (linesOf t)[k].text ≠ []) := by
  have := goes_offs t 0 [] k h
  rw [Nat.zero_add] at this
  exact this

/-- Texts, a newline behind each. -/
def joined (ls : List (List UInt8)) : List UInt8 := ls.flatMap fun l => l ++ [10]
theorem goes_joined : ∀ (ts : List (List UInt8)) (off : Nat), (∀ x ∈ ts, (10 : UInt8) ∉ x) → (goes off [] (joined ts)).map (fun x => (x.text, x.ends)) = ts.map (fun x => (x, true))
  | [], off, _ => rfl
  | x :: ts, off, h => by
    have e : joined (x :: ts) = x ++ 10 :: joined ts := by simp [joined]
    rw [e, goes_bare x _ _ _ (h x (by simp)), List.nil_append, goes_newline, List.map_cons, goes_joined ts _ (fun y hy => h y (by simp [hy]))]
    rfl
theorem lines_joined (ts : List (List UInt8)) (h : ∀ x ∈ ts, (10 : UInt8) ∉ x) : (linesOf (joined ts)).map (fun x => (x.text, x.ends)) = ts.map (fun x => (x, true)) := goes_joined ts 0 h
theorem nls_joined : ∀ ts : List (List UInt8), (∀ x ∈ ts, (10 : UInt8) ∉ x) → nls (joined ts) = ts.length
  | [], _ => rfl
  | x :: ts, h => by
    have e : joined (x :: ts) = x ++ 10 :: joined ts := by simp [joined]
    have h1 : x.count 10 = 0 := List.count_eq_zero.2 (h x (by simp))
    have h2 := nls_joined ts (fun y hy => h y (by simp [hy]))
    unfold nls at h2 ⊢
    rw [e, List.count_append, h1, List.count_cons, h2]
    simp
/-- How many bytes the texts have. -/
def total (ts : List (List UInt8)) : Nat := (ts.map List.length).sum
theorem total_snoc (ts : List (List UInt8)) (k : Nat) (h : k < ts.length) : total (ts.take (k + 1)) = total (ts.take k) + ts[k].length := by
  unfold total
  rw [List.take_succ_eq_append_getElem h, List.map_append, List.sum_append]
  simp
theorem joined_length : ∀ ts : List (List UInt8), (joined ts).length = total ts + ts.length
  | [] => rfl
  | x :: ts => by
    have e : joined (x :: ts) = x ++ 10 :: joined ts := by simp [joined]
    have := joined_length ts
    rw [e, List.length_append, List.length_cons, this]
    simp [total]
    omega
end Go.Proofs.Yteggdhfchamffaa
