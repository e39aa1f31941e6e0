/- Finding texts by a tree and falls: plain mathematics: the longest end that is a beginning, steps and how many look-ups they take, the pieces of a line that are texts. -/
import Derived.Test.YtkooanahgffjgaaLMath
import Derived.Test.YtkooanahgffjgaaPMath
namespace Go.Proofs.Ytkooanahgffjgaa.Spa
open Go.Proofs.Ytkooanahgffjgaa.Tri Go.Proofs.Ytkooanahgffjgaa.Lnk Go.Proofs.Ytkooanahgffjgaa.Prs
set_option maxRecDepth 100000

/-- The longest end of a text that is a beginning. -/
def longT (ps : List Tx) : Tx → Tx
  | [] => []
  | c :: t => if c :: t ∈ ps then c :: t else longT ps t
theorem longT_mem {ps : List Tx} (hw : Wf ps) : ∀ t, longT ps t ∈ ps
  | [] => hw.nil_mem
  | c :: t => by
    unfold longT
    split
    · rename_i h; exact h
    · exact longT_mem hw t
theorem longT_of_mem {ps : List Tx} : ∀ {t : Tx}, t ∈ ps → longT ps t = t
  | [], _ => rfl
  | c :: t, h => by rw [longT, if_pos h]
theorem longT_suffix (ps : List Tx) : ∀ t, ∃ u, t = u ++ longT ps t
  | [] => ⟨[], rfl⟩
  | c :: t => by
    unfold longT
    split
    · exact ⟨[], rfl⟩
    · obtain ⟨u, e⟩ := longT_suffix ps t
      exact ⟨c :: u, by rw [List.cons_append, ← e]⟩
theorem longT_le (ps : List Tx) (t : Tx) : (longT ps t).length ≤ t.length := by
  obtain ⟨u, e⟩ := longT_suffix ps t
  have := congrArg List.length e
  rw [List.length_append] at this
  omega
theorem longT_snoc {ps : List Tx} (hw : Wf ps) (c : UInt8) : ∀ t, longT ps (t ++ [c]) = longT ps (longT ps t ++ [c])
  | [] => rfl
  | x :: t => by
    by_cases h : x :: t ∈ ps
    · rw [longT_of_mem h]
    · have h2 : x :: (t ++ [c]) ∉ ps := fun e => h (hw.closed (p := x :: t) e)
      rw [List.cons_append, longT, if_neg h2, longT_snoc hw c t]
      conv => rhs; rw [longT, if_neg h]
/-- What is read from some place on: the first end that is a beginning. -/
theorem longT_drop (ps : List Tx) (t : Tx) (k : Nat) (h : k < t.length) : longT ps (t.drop k) = if t.drop k ∈ ps then t.drop k else longT ps (t.drop (k + 1)) := by
  rw [List.drop_eq_getElem_cons h, longT]
/-- Where a beginning falls to. -/
def fallT (ps : List Tx) : Tx → Tx
  | [] => []
  | _ :: p => longT ps p
theorem fallT_lt (ps : List Tx) {p : Tx} (h : p ≠ []) : (fallT ps p).length < p.length := by
  cases p with
  | nil => exact absurd rfl h
  | cons x p => have := longT_le ps p; simp [fallT]; omega
theorem fallT_mem {ps : List Tx} (hw : Wf ps) : ∀ p, fallT ps p ∈ ps
  | [] => hw.nil_mem
  | _ :: p => longT_mem hw p
theorem fail_fall {ps : List Tx} (hw : Wf ps) {p : Tx} (h : p ≠ []) : failOf ps p = place ps (fallT ps p) := by
  cases p with
  | nil => exact absurd rfl h
  | cons x p =>
    clear h
    show failOf ps (x :: p) = place ps (longT ps p)
    induction p generalizing x with
    | nil => rw [failOf, if_pos hw.nil_mem]; rfl
    | cons y p ih =>
      rw [failOf, longT]
      split
      · rfl
      · exact ih y
/-- A step. -/
def stepT (ps : List Tx) (c : UInt8) (p : Tx) : Tx := longT ps (p ++ [c])
/-- How many look-ups a step takes. -/
def stepN (ps : List Tx) (c : UInt8) (p : Tx) : Nat := if h : p ++ [c] ∈ ps ∨ p = [] then 1 else stepN ps c (fallT ps p) + 1
termination_by p.length
decreasing_by exact fallT_lt ps (fun e => h (.inr e))
theorem stepN_one {ps : List Tx} {c : UInt8} {p : Tx} (h : p ++ [c] ∈ ps ∨ p = []) : stepN ps c p = 1 := by rw [stepN, dif_pos h]
theorem stepN_fall {ps : List Tx} {c : UInt8} {p : Tx} (h : p ++ [c] ∉ ps) (hn : p ≠ []) : stepN ps c p = stepN ps c (fallT ps p) + 1 := by
  rw [stepN, dif_neg (fun e => e.elim h hn)]
theorem stepT_hit {ps : List Tx} {c : UInt8} {p : Tx} (h : p ++ [c] ∈ ps) : stepT ps c p = p ++ [c] := longT_of_mem h
theorem stepT_root {ps : List Tx} {c : UInt8} (h : [c] ∉ ps) : stepT ps c [] = [] := by
  show longT ps [c] = []
  rw [longT, if_neg h]; rfl
theorem stepT_fall {ps : List Tx} (hw : Wf ps) {c : UInt8} {p : Tx} (h : p ++ [c] ∉ ps) (hn : p ≠ []) : stepT ps c p = stepT ps c (fallT ps p) := by
  cases p with
  | nil => exact absurd rfl hn
  | cons x p =>
    show longT ps (x :: (p ++ [c])) = longT ps (longT ps p ++ [c])
    rw [longT, if_neg (show x :: (p ++ [c]) ∉ ps from h), longT_snoc hw c p]
theorem stepT_mem {ps : List Tx} (hw : Wf ps) (c : UInt8) (p : Tx) : stepT ps c p ∈ ps := longT_mem hw _
theorem stepN_pos (ps : List Tx) (c : UInt8) (p : Tx) : 1 ≤ stepN ps c p := by
  rw [stepN]; split <;> omega
theorem step_bound {ps : List Tx} (hw : Wf ps) (c : UInt8) : ∀ (n : Nat) (p : Tx), p.length ≤ n → (stepT ps c p).length + stepN ps c p ≤ p.length + 2
  | n, p, hn => by
    by_cases h : p ++ [c] ∈ ps
    · rw [stepT_hit h, stepN_one (.inl h)]; simp
    · by_cases h0 : p = []
      · subst h0
        rw [stepN_one (.inr rfl)]
        have : (stepT ps c []).length ≤ 1 := longT_le ps [c]
        simp; omega
      · have hl := fallT_lt ps h0
        cases n with
        | zero => omega
        | succ n =>
          have := step_bound hw c n (fallT ps p) (by omega)
          rw [stepT_fall hw h h0, stepN_fall h h0]
          omega
/-- The state behind a line's first bytes: each byte is a step. -/
theorem long_take {ps : List Tx} (hw : Wf ps) (line : Tx) (k : Nat) (h : k < line.length) : longT ps (line.take (k + 1)) = stepT ps line[k] (longT ps (line.take k)) := by
  rw [List.take_succ_eq_append_getElem h, longT_snoc hw]; rfl
/-- How many look-ups a line's first bytes take. -/
def looksTo (ps : List Tx) (line : Tx) : Nat → Nat
  | 0 => 0
  | k + 1 => looksTo ps line k + (match line[k]? with | some c => stepN ps c (longT ps (line.take k)) | none => 0)
theorem looksTo_succ (ps : List Tx) (line : Tx) (k : Nat) (h : k < line.length) : looksTo ps line (k + 1) = looksTo ps line k + stepN ps line[k] (longT ps (line.take k)) := by
  rw [looksTo, List.getElem?_eq_getElem h]
theorem looks_bound {ps : List Tx} (hw : Wf ps) (line : Tx) : ∀ k, k ≤ line.length → k ≤ looksTo ps line k ∧ looksTo ps line k + (longT ps (line.take k)).length ≤ 2 * k
  | 0, _ => by simp [looksTo, longT]
  | k + 1, h => by
    obtain ⟨h1, h2⟩ := looks_bound hw line k (by omega)
    have h3 := step_bound hw line[k] _ (longT ps (line.take k)) (Nat.le_refl _)
    have h4 := stepN_pos ps line[k] (longT ps (line.take k))
    rw [looksTo_succ ps line k h, long_take hw line k h]
    omega
/-- An end that is a text: that of the longest end that is a beginning. -/
theorem ends_long {ps l : List Tx} (hl : ∀ x ∈ l, x ∈ ps) : ∀ t, endsOf l (longT ps t) = endsOf l t
  | [] => rfl
  | c :: t => by
    by_cases h : c :: t ∈ ps
    · rw [longT_of_mem h]
    · rw [longT, if_neg h, ends_long hl t]
      conv => rhs; rw [endsOf, if_neg (fun e => h (hl _ e))]
theorem mem_ends (l : List Tx) (e : Int) : ∀ t : Tx, e ∈ endsOf l t ↔ ∃ k, k < t.length ∧ t.drop k ∈ l ∧ e = (t.length : Int) - k
  | [] => by simp [endsOf]
  | c :: t => by
    have ih := mem_ends l e t
    constructor
    · intro h
      unfold endsOf at h
      split at h
      · rename_i hm
        rcases List.mem_cons.1 h with rfl | h
        · exact ⟨0, by simp, hm, by simp⟩
        · obtain ⟨k, h1, h2, h3⟩ := ih.1 h
          exact ⟨k + 1, by simpa using h1, h2, by simp; omega⟩
      · obtain ⟨k, h1, h2, h3⟩ := ih.1 h
        exact ⟨k + 1, by simpa using h1, h2, by simp; omega⟩
    · rintro ⟨k, h1, h2, h3⟩
      cases k with
      | zero =>
        unfold endsOf
        rw [if_pos (by simpa using h2), h3]
        simp
      | succ k =>
        have := ih.2 ⟨k, by simpa using h1, h2, by rw [h3]; simp; omega⟩
        unfold endsOf
        split
        · exact List.mem_cons_of_mem _ this
        · exact this
/-- The pairs of the pieces that end behind a line's first bytes, as they are met. -/
def rowOf (l : List Tx) (t : Tx) : List Pr := (endsOf l t).map fun e => ⟨(t.length : Int) - e, (t.length : Int)⟩
def hitsTo (l : List Tx) (line : Tx) : Nat → List Pr
  | 0 => []
  | k + 1 => hitsTo l line k ++ rowOf l (line.take (k + 1))
/-- A piece of a line that is a text. -/
def Hit (l : List Tx) (line : Tx) (p : Pr) : Prop := ∃ a b : Nat, a < b ∧ b ≤ line.length ∧ (line.take b).drop a ∈ l ∧ p = ⟨(a : Int), (b : Int)⟩
theorem mem_row (l : List Tx) (t : Tx) (p : Pr) : p ∈ rowOf l t ↔ ∃ a : Nat, a < t.length ∧ t.drop a ∈ l ∧ p = ⟨(a : Int), (t.length : Int)⟩ := by
  unfold rowOf
  rw [List.mem_map]
  constructor
  · rintro ⟨e, he, rfl⟩
    obtain ⟨k, h1, h2, rfl⟩ := (mem_ends l e t).1 he
    exact ⟨k, h1, h2, pr_ext (by show (t.length : Int) - (t.length - k) = k; omega) rfl⟩
  · rintro ⟨a, h1, h2, rfl⟩
    exact ⟨(t.length : Int) - a, (mem_ends l _ t).2 ⟨a, h1, h2, rfl⟩, pr_ext (by show (t.length : Int) - (t.length - a) = a; omega) rfl⟩
theorem mem_hits (l : List Tx) (line : Tx) (p : Pr) : ∀ k, k ≤ line.length → (p ∈ hitsTo l line k ↔ ∃ a b : Nat, a < b ∧ b ≤ k ∧ (line.take b).drop a ∈ l ∧ p = ⟨(a : Int), (b : Int)⟩)
  | 0, _ => by
    constructor
    · intro h; cases h
    · rintro ⟨a, b, h1, h2, _⟩; omega
  | k + 1, h => by
    have ih := mem_hits l line p k (by omega)
    have hl : (line.take (k + 1)).length = k + 1 := by rw [List.length_take]; omega
    rw [hitsTo, List.mem_append, ih, mem_row, hl]
    constructor
    · rintro (⟨a, b, h1, h2, h3⟩ | ⟨a, h1, h2, h3⟩)
      · exact ⟨a, b, h1, by omega, h3⟩
      · exact ⟨a, k + 1, h1, Nat.le_refl _, h2, h3⟩
    · rintro ⟨a, b, h1, h2, h3, h4⟩
      by_cases hb : b = k + 1
      · subst hb; exact .inr ⟨a, h1, h3, h4⟩
      · exact .inl ⟨a, b, h1, by omega, h3, h4⟩
/-- All pieces of a line that are texts, in order, each once. -/
def scanOf (l : List Tx) (line : Tx) : List Pr := norm (hitsTo l line line.length)
theorem mem_scan (l : List Tx) (line : Tx) (p : Pr) : p ∈ scanOf l line ↔ Hit l line p := by
  rw [scanOf, mem_norm, mem_hits l line p _ (Nat.le_refl _)]; rfl
theorem rise_scan (l : List Tx) (line : Tx) : Rise (scanOf l line) := rise_norm _
/-- Two lists of texts that have the same ones, the empty one left out. -/
theorem scan_congr {l m : List Tx} (h : ∀ x, x ≠ [] → (x ∈ l ↔ x ∈ m)) (line : Tx) : scanOf l line = scanOf m line := by
  refine rise_ext _ _ (rise_scan _ _) (rise_scan _ _) fun p => ?_
  rw [mem_scan, mem_scan]
  have key : ∀ a b : Nat, a < b → b ≤ line.length → ((line.take b).drop a ∈ l ↔ (line.take b).drop a ∈ m) := fun a b h1 h2 => h _ fun e => by
    have := congrArg List.length e
    simp at this
    omega
  constructor
  · rintro ⟨a, b, h1, h2, h3, h4⟩; exact ⟨a, b, h1, h2, (key a b h1 h2).1 h3, h4⟩
  · rintro ⟨a, b, h1, h2, h3, h4⟩; exact ⟨a, b, h1, h2, (key a b h1 h2).2 h3, h4⟩
theorem rise_filter (f : Pr → Bool) : ∀ l : List Pr, Rise l → Rise (l.filter f)
  | [], _ => trivial
  | p :: l, h => by
    rw [List.filter_cons]
    split
    · exact ⟨fun q hq => h.1 q (List.mem_filter.1 hq).1, rise_filter f l h.2⟩
    · exact rise_filter f l h.2
/-- The pieces of a line's first bytes. -/
theorem scan_front (l : List Tx) (line : Tx) (k : Nat) (hk : k ≤ line.length) : scanOf l (line.take k) = (scanOf l line).filter fun p => decide (p.e ≤ (k : Int)) := by
  refine rise_ext _ _ (rise_scan _ _) (rise_filter _ _ (rise_scan _ _)) fun p => ?_
  rw [List.mem_filter, mem_scan, mem_scan]
  constructor
  · rintro ⟨a, b, h1, h2, h3, rfl⟩
    have h2' : b ≤ k := by rw [List.length_take] at h2; omega
    rw [List.take_take, Nat.min_eq_left h2'] at h3
    exact ⟨⟨a, b, h1, by omega, h3, rfl⟩, decide_eq_true (by show (b : Int) ≤ k; omega)⟩
  · rintro ⟨⟨a, b, h1, h2, h3, rfl⟩, h4⟩
    have h4' : (b : Int) ≤ k := of_decide_eq_true h4
    exact ⟨a, b, h1, by rw [List.length_take]; omega, by rw [List.take_take, Nat.min_eq_left (by omega)]; exact h3, rfl⟩
/-- Row by row, as the reference goes: the pieces that begin at i, and have m bytes at most. -/
def occRow (l : List Tx) (line : Tx) (i : Nat) : Nat → List Pr
  | 0 => []
  | m + 1 => occRow l line i m ++ (if (line.take (i + m + 1)).drop i ∈ l then [⟨(i : Int), (i : Int) + m + 1⟩] else [])
def occTo (l : List Tx) (line : Tx) : Nat → List Pr
  | 0 => []
  | i + 1 => occTo l line i ++ occRow l line i (line.length - i)
theorem mem_occRow (l : List Tx) (line : Tx) (i : Nat) (p : Pr) : ∀ m, p ∈ occRow l line i m ↔ ∃ b : Nat, i < b ∧ b ≤ i + m ∧ (line.take b).drop i ∈ l ∧ p = ⟨(i : Int), (b : Int)⟩
  | 0 => by
    constructor
    · intro h; cases h
    · rintro ⟨b, h1, h2, _⟩; omega
  | m + 1 => by
    rw [occRow, List.mem_append, mem_occRow l line i p m]
    constructor
    · rintro (⟨b, h1, h2, h3⟩ | h)
      · exact ⟨b, h1, by omega, h3⟩
      · split at h
        · rename_i hm
          obtain rfl : p = _ := by simpa using h
          exact ⟨i + m + 1, by omega, by omega, hm, pr_ext rfl (by show (i : Int) + m + 1 = ((i + m + 1 : Nat) : Int); omega)⟩
        · cases h
    · rintro ⟨b, h1, h2, h3, h4⟩
      by_cases hb : b = i + m + 1
      · subst hb
        exact .inr (by rw [if_pos h3, h4]; exact List.mem_singleton.2 (pr_ext rfl (by show ((i + m + 1 : Nat) : Int) = (i : Int) + m + 1; omega)))
      · exact .inl ⟨b, h1, by omega, h3, h4⟩
theorem mem_occ (l : List Tx) (line : Tx) (p : Pr) : ∀ k, k ≤ line.length → (p ∈ occTo l line k ↔ ∃ a b : Nat, a < k ∧ a < b ∧ b ≤ line.length ∧ (line.take b).drop a ∈ l ∧ p = ⟨(a : Int), (b : Int)⟩)
  | 0, _ => by
    constructor
    · intro h; cases h
    · rintro ⟨a, b, h1, _⟩; omega
  | k + 1, h => by
    rw [occTo, List.mem_append, mem_occ l line p k (by omega), mem_occRow]
    constructor
    · rintro (⟨a, b, h1, h2, h3⟩ | ⟨b, h1, h2, h3, h4⟩)
      · exact ⟨a, b, by omega, h2, h3⟩
      · exact ⟨k, b, by omega, h1, by omega, h3, h4⟩
    · rintro ⟨a, b, h1, h2, h3, h4, h5⟩
      by_cases ha : a = k
      · subst ha; exact .inr ⟨b, h2, by omega, h4, h5⟩
      · exact .inl ⟨a, b, by omega, h2, h3, h4, h5⟩
theorem rise_append : ∀ (l m : List Pr), Rise l → Rise m → (∀ p ∈ l, ∀ q ∈ m, lt p q = true) → Rise (l ++ m)
  | [], _, _, hm, _ => hm
  | p :: l, m, hl, hm, h => by
    refine ⟨fun q hq => ?_, rise_append l m hl.2 hm fun r hr => h r (List.mem_cons_of_mem _ hr)⟩
    rcases List.mem_append.1 hq with hq | hq
    · exact hl.1 q hq
    · exact h p (by simp) q hq
theorem rise_occRow (l : List Tx) (line : Tx) (i : Nat) : ∀ m, Rise (occRow l line i m)
  | 0 => trivial
  | m + 1 => by
    rw [occRow]
    refine rise_append _ _ (rise_occRow l line i m) (by split <;> simp [Rise]) fun p hp q hq => ?_
    obtain ⟨b, h1, h2, h3, rfl⟩ := (mem_occRow l line i p m).1 hp
    split at hq
    · obtain rfl : q = _ := by simpa using hq
      rw [lt_iff]
      exact .inr ⟨rfl, by show (b : Int) < (i : Int) + m + 1; omega⟩
    · cases hq
theorem rise_occ (l : List Tx) (line : Tx) : ∀ k, k ≤ line.length → Rise (occTo l line k)
  | 0, _ => trivial
  | k + 1, h => by
    rw [occTo]
    refine rise_append _ _ (rise_occ l line k (by omega)) (rise_occRow l line k _) fun p hp q hq => ?_
    obtain ⟨a, b, h1, _, _, _, rfl⟩ := (mem_occ l line p k (by omega)).1 hp
    obtain ⟨b', _, _, _, rfl⟩ := (mem_occRow l line k q _).1 hq
    rw [lt_iff]
    exact .inl (by show (a : Int) < (k : Int); omega)
/-- The reference's list is the one that is found. -/
theorem occ_scan (l : List Tx) (line : Tx) : occTo l line line.length = scanOf l line := by
  refine rise_ext _ _ (rise_occ _ _ _ (Nat.le_refl _)) (rise_scan _ _) fun p => ?_
  rw [mem_scan, mem_occ l line p _ (Nat.le_refl _)]
  constructor
  · rintro ⟨a, b, _, h2, h3, h4, h5⟩; exact ⟨a, b, h2, h3, h4, h5⟩
  · rintro ⟨a, b, h2, h3, h4, h5⟩; exact ⟨a, b, by omega, h2, h3, h4, h5⟩
/-- Without texts nothing is found. -/
theorem scan_none {l : List Tx} (h : ∀ x ∈ l, x = []) (line : Tx) : scanOf l line = [] := by
  rw [scan_congr (m := []) (fun x hx => ⟨fun e => absurd (h x e) hx, fun e => by cases e⟩)]
  refine rise_ext _ _ (rise_scan _ _) trivial fun p => ?_
  rw [mem_scan]
  constructor
  · rintro ⟨_, _, _, _, h3, _⟩; cases h3
  · intro h; cases h
/-- .. and each byte is looked up once. -/
theorem looks_root (line : Tx) : ∀ k, k ≤ line.length → looksTo [[]] line k = k ∧ longT [[]] (line.take k) = []
  | 0, _ => ⟨rfl, rfl⟩
  | k + 1, h => by
    obtain ⟨h1, h2⟩ := looks_root line k (by omega)
    have hn : [line[k]] ∉ ([[]] : List Tx) := by simp
    refine ⟨?_, ?_⟩
    · rw [looksTo_succ _ _ _ h, h1, h2, stepN_one (.inr rfl)]
    · rw [long_take wf_root line k h, h2, stepT_root hn]
end Go.Proofs.Ytkooanahgffjgaa.Spa
