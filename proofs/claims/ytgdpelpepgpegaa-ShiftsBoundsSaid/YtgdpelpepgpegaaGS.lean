/- Package by package: SMath Sa Sb Sc Sd Se Sf Sg Sh Si. -/
import Derived.Test.YtgdpelpepgpegaaGB
import Derived.Test.YtgdpelpepgpegaaGL
import Derived.Test.YtgdpelpepgpegaaGM
import Derived.Test.YtgdpelpepgpegaaGP
import Derived.Test.YtgdpelpepgpegaaGT
import Derived.Maps.RangeWalk
import Derived.ScopeJumps
import Derived.WalkMore
/- Finding texts by a tree and falls: plain mathematics: the longest end that is a beginning, steps and how many look-ups they take, the pieces of a line that are texts. -/
namespace Go.Proofs.Ytgdpelpepgpegaa.Spa
open Go.Proofs.Ytgdpelpepgpegaa.Tri Go.Proofs.Ytgdpelpepgpegaa.Lnk Go.Proofs.Ytgdpelpepgpegaa.Prs
set_option maxRecDepth 100000

/-- The longest end of a text that is a beginning. -/
def longT (ps : List Tx) : Tx → Tx
  | [] => []
  | c :: t => if c :: t ∈ ps then c :: t else longT ps t
theorem longT_mem {ps : List Tx} (hw : Wf ps) : ∀ t, longT ps t ∈ ps
  | [] => hw.nil_mem
  | c :: t => by
    unfold longT
    split
    · rename_i h; exact h
    · exact longT_mem hw t
theorem longT_of_mem {ps : List Tx} : ∀ {t : Tx}, t ∈ ps → longT ps t = t
  | [], _ => rfl
  | c :: t, h => by rw [longT, if_pos h]
theorem longT_suffix (ps : List Tx) : ∀ t, ∃ u, t = u ++ longT ps t
  | [] => ⟨[], rfl⟩
  | c :: t => by
    unfold longT
    split
    · exact ⟨[], rfl⟩
    · obtain ⟨u, e⟩ := longT_suffix ps t
      exact ⟨c :: u, by rw [List.cons_append, ← e]⟩
theorem longT_le (ps : List Tx) (t : Tx) : (longT ps t).length ≤ t.length := by
  obtain ⟨u, e⟩ := longT_suffix ps t
  have := congrArg List.length e
  rw [List.length_append] at this
  omega
theorem longT_snoc {ps : List Tx} (hw : Wf ps) (c : UInt8) : ∀ t, longT ps (t ++ [c]) = longT ps (longT ps t ++ [c])
  | [] => rfl
  | x :: t => by
    by_cases h : x :: t ∈ ps
    · rw [longT_of_mem h]
    · have h2 : x :: (t ++ [c]) ∉ ps := fun e => h (hw.closed (p := x :: t) e)
      rw [List.cons_append, longT, if_neg h2, longT_snoc hw c t]
      conv => rhs; rw [longT, if_neg h]
/-- What is read from some place on: the first end that is a beginning. -/
theorem longT_drop (ps : List Tx) (t : Tx) (k : Nat) (h : k < t.length) : longT ps (t.drop k) = if t.drop k ∈ ps then t.drop k else longT ps (t.drop (k + 1)) := by
  rw [List.drop_eq_getElem_cons h, longT]
/-- Where a beginning falls to. -/
def fallT (ps : List Tx) : Tx → Tx
  | [] => []
  | _ :: p => longT ps p
theorem fallT_lt (ps : List Tx) {p : Tx} (h : p ≠ []) : (fallT ps p).length < p.length := by
  cases p with
  | nil => exact absurd rfl h
  | cons x p => have := longT_le ps p; simp [fallT]; omega
theorem fallT_mem {ps : List Tx} (hw : Wf ps) : ∀ p, fallT ps p ∈ ps
  | [] => hw.nil_mem
  | _ :: p => longT_mem hw p
theorem fail_fall {ps : List Tx} (hw : Wf ps) {p : Tx} (h : p ≠ []) : failOf ps p = place ps (fallT ps p) := by
  cases p with
  | nil => exact absurd rfl h
  | cons x p =>
    clear h
    show failOf ps (x :: p) = place ps (longT ps p)
    induction p generalizing x with
    | nil => rw [failOf, if_pos hw.nil_mem]; rfl
    | cons y p ih =>
      rw [failOf, longT]
      split
      · rfl
      · exact ih y
/-- A step. -/
def stepT (ps : List Tx) (c : UInt8) (p : Tx) : Tx := longT ps (p ++ [c])
/-- How many look-ups a step takes. -/
def stepN (ps : List Tx) (c : UInt8) (p : Tx) : Nat := if h : p ++ [c] ∈ ps ∨ p = [] then 1 else stepN ps c (fallT ps p) + 1
termination_by p.length
decreasing_by exact fallT_lt ps (fun e => h (.inr e))
theorem stepN_one {ps : List Tx} {c : UInt8} {p : Tx} (h : p ++ [c] ∈ ps ∨ p = []) : stepN ps c p = 1 := by rw [stepN, dif_pos h]
theorem stepN_fall {ps : List Tx} {c : UInt8} {p : Tx} (h : p ++ [c] ∉ ps) (hn : p ≠ []) : stepN ps c p = stepN ps c (fallT ps p) + 1 := by
  rw [stepN, dif_neg (fun e => e.elim h hn)]
theorem stepT_hit {ps : List Tx} {c : UInt8} {p : Tx} (h : p ++ [c] ∈ ps) : stepT ps c p = p ++ [c] := longT_of_mem h
theorem stepT_root {ps : List Tx} {c : UInt8} (h : [c] ∉ ps) : stepT ps c [] = [] := by
  show longT ps [c] = []
  rw [longT, if_neg h]; rfl
theorem stepT_fall {ps : List Tx} (hw : Wf ps) {c : UInt8} {p : Tx} (h : p ++ [c] ∉ ps) (hn : p ≠ []) : stepT ps c p = stepT ps c (fallT ps p) := by
  cases p with
  | nil => exact absurd rfl hn
  | cons x p =>
    show longT ps (x :: (p ++ [c])) = longT ps (longT ps p ++ [c])
    rw [longT, if_neg (show x :: (p ++ [c]) ∉ ps from h), longT_snoc hw c p]
theorem stepT_mem {ps : List Tx} (hw : Wf ps) (c : UInt8) (p : Tx) : stepT ps c p ∈ ps := longT_mem hw _
theorem stepN_pos (ps : List Tx) (c : UInt8) (p : Tx) : 1 ≤ stepN ps c p := by
  rw [stepN]; split <;> omega
theorem step_bound {ps : List Tx} (hw : Wf ps) (c : UInt8) : ∀ (n : Nat) (p : Tx), p.length ≤ n → (stepT ps c p).length + stepN ps c p ≤ p.length + 2
  | n, p, hn => by
    by_cases h : p ++ [c] ∈ ps
    · rw [stepT_hit h, stepN_one (.inl h)]; simp
    · by_cases h0 : p = []
      · subst h0
        rw [stepN_one (.inr rfl)]
        have : (stepT ps c []).length ≤ 1 := longT_le ps [c]
        simp; omega
      · have hl := fallT_lt ps h0
        cases n with
        | zero => omega
        | succ n =>
          have := step_bound hw c n (fallT ps p) (by omega)
          rw [stepT_fall hw h h0, stepN_fall h h0]
          omega
/-- The state behind a line's first bytes: each byte is a step. -/
theorem long_take {ps : List Tx} (hw : Wf ps) (line : Tx) (k : Nat) (h : k < line.length) : longT ps (line.take (k + 1)) = stepT ps line[k] (longT ps (line.take k)) := by
  rw [List.take_succ_eq_append_getElem h, longT_snoc hw]; rfl
/-- How many look-ups a line's first bytes take. -/
def looksTo (ps : List Tx) (line : Tx) : Nat → Nat
  | 0 => 0
  | k + 1 => looksTo ps line k + (match line[k]? with | some c => stepN ps c (longT ps (line.take k)) | none => 0)
theorem looksTo_succ (ps : List Tx) (line : Tx) (k : Nat) (h : k < line.length) : looksTo ps line (k + 1) = looksTo ps line k + stepN ps line[k] (longT ps (line.take k)) := by
  rw [looksTo, List.getElem?_eq_getElem h]
theorem looks_bound {ps : List Tx} (hw : Wf ps) (line : Tx) : ∀ k, k ≤ line.length → k ≤ looksTo ps line k ∧ looksTo ps line k + (longT ps (line.take k)).length ≤ 2 * k
  | 0, _ => by simp [looksTo, longT]
  | k + 1, h => by
    obtain ⟨h1, h2⟩ := looks_bound hw line k (by omega)
    have h3 := step_bound hw line[k] _ (longT ps (line.take k)) (Nat.le_refl _)
    have h4 := stepN_pos ps line[k] (longT ps (line.take k))
    rw [looksTo_succ ps line k h, long_take hw line k h]
    omega
/-- An end that is a text: that of the longest end that is a beginning. -/
theorem ends_long {ps l : List Tx} (hl : ∀ x ∈ l, x ∈ ps) : ∀ t, endsOf l (longT ps t) = endsOf l t
  | [] => rfl
  | c :: t => by
    by_cases h : c :: t ∈ ps
    · rw [longT_of_mem h]
    · rw [longT, if_neg h, ends_long hl t]
      conv => rhs; rw [endsOf, if_neg (fun e => h (hl _ e))]
theorem mem_ends (l : List Tx) (e : Int) : ∀ t : Tx, e ∈ endsOf l t ↔ ∃ k, k < t.length ∧ t.drop k ∈ l ∧ e = (t.length : Int) - k
  | [] => by simp [endsOf]
  | c :: t => by
    have ih := mem_ends l e t
    constructor
    · intro h
      unfold endsOf at h
      split at h
      · rename_i hm
        rcases List.mem_cons.1 h with rfl | h
        · exact ⟨0, by simp, hm, by simp⟩
        · obtain ⟨k, h1, h2, h3⟩ := ih.1 h
          exact ⟨k + 1, by simpa using h1, h2, by simp; omega⟩
      · obtain ⟨k, h1, h2, h3⟩ := ih.1 h
        exact ⟨k + 1, by simpa using h1, h2, by simp; omega⟩
    · rintro ⟨k, h1, h2, h3⟩
      cases k with
      | zero =>
        unfold endsOf
        rw [if_pos (by simpa using h2), h3]
        simp
      | succ k =>
        have := ih.2 ⟨k, by simpa using h1, h2, by rw [h3]; simp; omega⟩
        unfold endsOf
        split
        · exact List.mem_cons_of_mem _ this
        · exact this
/-- The pairs of the pieces that end behind a line's first bytes, as they are met. -/
def rowOf (l : List Tx) (t : Tx) : List Pr := (endsOf l t).map fun e => ⟨(t.length : Int) - e, (t.length : Int)⟩
def hitsTo (l : List Tx) (line : Tx) : Nat → List Pr
  | 0 => []
  | k + 1 => hitsTo l line k ++ rowOf l (line.take (k + 1))
/-- A piece of a line that is a text. -/
def Hit (l : List Tx) (line : Tx) (p : Pr) : Prop := ∃ a b : Nat, a < b ∧ b ≤ line.length ∧ (line.take b).drop a ∈ l ∧ p = ⟨(a : Int), (b : Int)⟩
theorem mem_row (l : List Tx) (t : Tx) (p : Pr) : p ∈ rowOf l t ↔ ∃ a : Nat, a < t.length ∧ t.drop a ∈ l ∧ p = ⟨(a : Int), (t.length : Int)⟩ := by
  unfold rowOf
  rw [List.mem_map]
  constructor
  · rintro ⟨e, he, rfl⟩
    obtain ⟨k, h1, h2, rfl⟩ := (mem_ends l e t).1 he
    exact ⟨k, h1, h2, pr_ext (by show (t.length : Int) - (t.length - k) = k; omega) rfl⟩
  · rintro ⟨a, h1, h2, rfl⟩
    exact ⟨(t.length : Int) - a, (mem_ends l _ t).2 ⟨a, h1, h2, rfl⟩, pr_ext (by show (t.length : Int) - (t.length - a) = a; omega) rfl⟩
theorem mem_hits (l : List Tx) (line : Tx) (p : Pr) : ∀ k, k ≤ line.length → (p ∈ hitsTo l line k ↔ ∃ a b : Nat, a < b ∧ b ≤ k ∧ (line.take b).drop a ∈ l ∧ p = ⟨(a : Int), (b : Int)⟩)
  | 0, _ => by
    constructor
    · intro h; cases h
    · rintro ⟨a, b, h1, h2, _⟩; omega
  | k + 1, h => by
    have ih := mem_hits l line p k (by omega)
    have hl : (line.take (k + 1)).length = k + 1 := by rw [List.length_take]; omega
    rw [hitsTo, List.mem_append, ih, mem_row, hl]
    constructor
    · rintro (⟨a, b, h1, h2, h3⟩ | ⟨a, h1, h2, h3⟩)
      · exact ⟨a, b, h1, by omega, h3⟩
      · exact ⟨a, k + 1, h1, Nat.le_refl _, h2, h3⟩
    · rintro ⟨a, b, h1, h2, h3, h4⟩
      by_cases hb : b = k + 1
      · subst hb; exact .inr ⟨a, h1, h3, h4⟩
      · exact .inl ⟨a, b, h1, by omega, h3, h4⟩
/-- All pieces of a line that are texts, in order, each once. -/
def scanOf (l : List Tx) (line : Tx) : List Pr := norm (hitsTo l line line.length)
theorem mem_scan (l : List Tx) (line : Tx) (p : Pr) : p ∈ scanOf l line ↔ Hit l line p := by
  rw [scanOf, mem_norm, mem_hits l line p _ (Nat.le_refl _)]; rfl
theorem rise_scan (l : List Tx) (line : Tx) : Rise (scanOf l line) := rise_norm _
/-- Two lists of texts that have the same ones, the empty one left out. -/
theorem scan_congr {l m : List Tx} (h : ∀ x, x ≠ [] → (x ∈ l ↔ x ∈ m)) (line : Tx) : scanOf l line = scanOf m line := by
  refine rise_ext _ _ (rise_scan _ _) (rise_scan _ _) fun p => ?_
  rw [mem_scan, mem_scan]
  have key : ∀ a b : Nat, a < b → b ≤ line.length → ((line.take b).drop a ∈ l ↔ (line.take b).drop a ∈ m) := fun a b h1 h2 => h _ fun e => by
    have := congrArg List.length e
    simp at this
    omega
  constructor
  · rintro ⟨a, b, h1, h2, h3, h4⟩; exact ⟨a, b, h1, h2, (key a b h1 h2).1 h3, h4⟩
  · rintro ⟨a, b, h1, h2, h3, h4⟩; exact ⟨a, b, h1, h2, (key a b h1 h2).2 h3, h4⟩
theorem rise_filter (f : Pr → Bool) : ∀ l : List Pr, Rise l → Rise (l.filter f)
  | [], _ => trivial
  | p :: l, h => by
    rw [List.filter_cons]
    split
    · exact ⟨fun q hq => h.1 q (List.mem_filter.1 hq).1, rise_filter f l h.2⟩
    · exact rise_filter f l h.2
/-- The pieces of a line's first bytes. -/
theorem scan_front (l : List Tx) (line : Tx) (k : Nat) (hk : k ≤ line.length) : scanOf l (line.take k) = (scanOf l line).filter fun p => decide (p.e ≤ (k : Int)) := by
  refine rise_ext _ _ (rise_scan _ _) (rise_filter _ _ (rise_scan _ _)) fun p => ?_
  rw [List.mem_filter, mem_scan, mem_scan]
  constructor
  · rintro ⟨a, b, h1, h2, h3, rfl⟩
    have h2' : b ≤ k := by rw [List.length_take] at h2; omega
    rw [List.take_take, Nat.min_eq_left h2'] at h3
    exact ⟨⟨a, b, h1, by omega, h3, rfl⟩, decide_eq_true (by show (b : Int) ≤ k; omega)⟩
  · rintro ⟨⟨a, b, h1, h2, h3, rfl⟩, h4⟩
    have h4' : (b : Int) ≤ k := of_decide_eq_true h4
    exact ⟨a, b, h1, by rw [List.length_take]; omega, by rw [List.take_take, Nat.min_eq_left (by omega)]; exact h3, rfl⟩
/-- Row by row, as the reference goes: the pieces that begin at i, and have m bytes at most. -/
def occRow (l : List Tx) (line : Tx) (i : Nat) : Nat → List Pr
  | 0 => []
  | m + 1 => occRow l line i m ++ (if (line.take (i + m + 1)).drop i ∈ l then [⟨(i : Int), (i : Int) + m + 1⟩] else [])
def occTo (l : List Tx) (line : Tx) : Nat → List Pr
  | 0 => []
  | i + 1 => occTo l line i ++ occRow l line i (line.length - i)
theorem mem_occRow (l : List Tx) (line : Tx) (i : Nat) (p : Pr) : ∀ m, p ∈ occRow l line i m ↔ ∃ b : Nat, i < b ∧ b ≤ i + m ∧ (line.take b).drop i ∈ l ∧ p = ⟨(i : Int), (b : Int)⟩
  | 0 => by
    constructor
    · intro h; cases h
    · rintro ⟨b, h1, h2, _⟩; omega
  | m + 1 => by
    rw [occRow, List.mem_append, mem_occRow l line i p m]
    constructor
    · rintro (⟨b, h1, h2, h3⟩ | h)
      · exact ⟨b, h1, by omega, h3⟩
      · split at h
        · rename_i hm
          obtain rfl : p = _ := by simpa using h
          exact ⟨i + m + 1, by omega, by omega, hm, pr_ext rfl (by show (i : Int) + m + 1 = ((i + m + 1 : Nat) : Int); omega)⟩
        · cases h
    · rintro ⟨b, h1, h2, h3, h4⟩
      by_cases hb : b = i + m + 1
      · subst hb
        exact .inr (by rw [if_pos h3, h4]; exact List.mem_singleton.2 (pr_ext rfl (by show ((i + m + 1 : Nat) : Int) = (i : Int) + m + 1; omega)))
      · exact .inl ⟨b, h1, by omega, h3, h4⟩
theorem mem_occ (l : List Tx) (line : Tx) (p : Pr) : ∀ k, k ≤ line.length → (p ∈ occTo l line k ↔ ∃ a b : Nat, a < k ∧ a < b ∧ b ≤ line.length ∧ (line.take b).drop a ∈ l ∧ p = ⟨(a : Int), (b : Int)⟩)
  | 0, _ => by
    constructor
    · intro h; cases h
    · rintro ⟨a, b, h1, _⟩; omega
  | k + 1, h => by
    rw [occTo, List.mem_append, mem_occ l line p k (by omega), mem_occRow]
    constructor
    · rintro (⟨a, b, h1, h2, h3⟩ | ⟨b, h1, h2, h3, h4⟩)
      · exact ⟨a, b, by omega, h2, h3⟩
      · exact ⟨k, b, by omega, h1, by omega, h3, h4⟩
    · rintro ⟨a, b, h1, h2, h3, h4, h5⟩
      by_cases ha : a = k
      · subst ha; exact .inr ⟨b, h2, by omega, h4, h5⟩
      · exact .inl ⟨a, b, by omega, h2, h3, h4, h5⟩
theorem rise_append : ∀ (l m : List Pr), Rise l → Rise m → (∀ p ∈ l, ∀ q ∈ m, lt p q = true) → Rise (l ++ m)
  | [], _, _, hm, _ => hm
  | p :: l, m, hl, hm, h => by
    refine ⟨fun q hq => ?_, rise_append l m hl.2 hm fun r hr => h r (List.mem_cons_of_mem _ hr)⟩
    rcases List.mem_append.1 hq with hq | hq
    · exact hl.1 q hq
    · exact h p (by simp) q hq
theorem rise_occRow (l : List Tx) (line : Tx) (i : Nat) : ∀ m, Rise (occRow l line i m)
  | 0 => trivial
  | m + 1 => by
    rw [occRow]
    refine rise_append _ _ (rise_occRow l line i m) (by split <;> simp [Rise]) fun p hp q hq => ?_
    obtain ⟨b, h1, h2, h3, rfl⟩ := (mem_occRow l line i p m).1 hp
    split at hq
    · obtain rfl : q = _ := by simpa using hq
      rw [lt_iff]
      exact .inr ⟨rfl, by show (b : Int) < (i : Int) + m + 1; omega⟩
    · cases hq
theorem rise_occ (l : List Tx) (line : Tx) : ∀ k, k ≤ line.length → Rise (occTo l line k)
  | 0, _ => trivial
  | k + 1, h => by
    rw [occTo]
    refine rise_append _ _ (rise_occ l line k (by omega)) (rise_occRow l line k _) fun p hp q hq => ?_
    obtain ⟨a, b, h1, _, _, _, rfl⟩ := (mem_occ l line p k (by omega)).1 hp
    obtain ⟨b', _, _, _, rfl⟩ := (mem_occRow l line k q _).1 hq
    rw [lt_iff]
    exact .inl (by show (a : Int) < (k : Int); omega)
/-- The reference's list is the one that is found. -/
theorem occ_scan (l : List Tx) (line : Tx) : occTo l line line.length = scanOf l line := by
  refine rise_ext _ _ (rise_occ _ _ _ (Nat.le_refl _)) (rise_scan _ _) fun p => ?_
  rw [mem_scan, mem_occ l line p _ (Nat.le_refl _)]
  constructor
  · rintro ⟨a, b, _, h2, h3, h4, h5⟩; exact ⟨a, b, h2, h3, h4, h5⟩
  · rintro ⟨a, b, h2, h3, h4, h5⟩; exact ⟨a, b, by omega, h2, h3, h4, h5⟩
/-- Without texts nothing is found. -/
theorem scan_none {l : List Tx} (h : ∀ x ∈ l, x = []) (line : Tx) : scanOf l line = [] := by
  rw [scan_congr (m := []) (fun x hx => ⟨fun e => absurd (h x e) hx, fun e => by cases e⟩)]
  refine rise_ext _ _ (rise_scan _ _) trivial fun p => ?_
  rw [mem_scan]
  constructor
  · rintro ⟨_, _, _, _, h3, _⟩; cases h3
  · intro h; cases h
/-- .. and each byte is looked up once. -/
theorem looks_root (line : Tx) : ∀ k, k ≤ line.length → looksTo [[]] line k = k ∧ longT [[]] (line.take k) = []
  | 0, _ => ⟨rfl, rfl⟩
  | k + 1, h => by
    obtain ⟨h1, h2⟩ := looks_root line k (by omega)
    have hn : [line[k]] ∉ ([[]] : List Tx) := by simp
    refine ⟨?_, ?_⟩
    · rw [looksTo_succ _ _ _ h, h1, h2, stepN_one (.inr rfl)]
    · rw [long_take wf_root line k h, h2, stepT_root hn]
end Go.Proofs.Ytgdpelpepgpegaa.Spa
/- The edges of a tree, as rows. -/
namespace Go.Proofs.Ytgdpelpepgpegaa.Spa
open Go.RowKit Go.Maps
open Go.Proofs.Ytgdpelpepgpegaa.Tri Go.Proofs.Ytgdpelpepgpegaa.Lnk
set_option maxRecDepth 100000
abbrev Rw := Met.Rw
def rowsOf (ps : List Tx) (k : Nat) : List Rw := (kidsOf ps (k : Int)).map fun c => ⟨(k : Int), c, stepOf ps (k : Int) c⟩
def edgesTo (ps : List Tx) : Nat → List Rw
  | 0 => []
  | k + 1 => edgesTo ps k ++ rowsOf ps k
def edges (ps : List Tx) : List Rw := edgesTo ps ps.length
theorem spar_rows (k : Int) (f : UInt8 → Int) (s : Int) (c : UInt8) : ∀ (cs : List UInt8) (l : List Rw), Met.spar (l ++ cs.map fun c => ⟨k, c, f c⟩) s c = if k = s ∧ c ∈ cs then f c else Met.spar l s c
  | [], l => by simp
  | x :: cs, l => by
    have e : l ++ (x :: cs).map (fun c => (⟨k, c, f c⟩ : Rw)) = (l ++ [⟨k, x, f x⟩]) ++ cs.map fun c => ⟨k, c, f c⟩ := by simp
    rw [e, spar_rows k f s c cs, Met.spar_snoc]
    by_cases h1 : k = s
    · by_cases h2 : c ∈ cs
      · simp [h1, h2]
      · by_cases h3 : x = c
        · subst h3; simp [h1]
        · have : ¬ c = x := fun e => h3 e.symm
          simp [h1, h2, h3, this]
    · simp [h1]
theorem spar_to {ps : List Tx} (s : Int) (c : UInt8) : ∀ k, k ≤ ps.length → Met.spar (edgesTo ps k) s c = if 0 ≤ s ∧ s < (k : Int) then stepOf ps s c else -1
  | 0, _ => by
    rw [if_neg (by omega)]; rfl
  | k + 1, h => by
    rw [edgesTo, rowsOf, spar_rows, spar_to s c k (by omega)]
    by_cases e : (k : Int) = s
    · subst e
      rw [if_pos (show 0 ≤ (k : Int) ∧ (k : Int) < ((k + 1 : Nat) : Int) by omega), if_neg (by omega : ¬ (0 ≤ (k : Int) ∧ (k : Int) < (k : Int)))]
      by_cases hc : c ∈ kidsOf ps (k : Int)
      · rw [if_pos ⟨rfl, hc⟩]
      · rw [if_neg (fun q => hc q.2)]
        have h1 : ¬ (0 ≤ stepOf ps (k : Int) c) := fun q => hc ((mem_kidsTo _ c).2 (by simpa using q))
        have h2 := stepOf_ge ps (k : Int) c
        omega
    · rw [if_neg (fun q => e q.1)]
      by_cases h2 : 0 ≤ s ∧ s < (k : Int)
      · rw [if_pos h2, if_pos (by omega)]
      · rw [if_neg h2, if_neg (by omega)]
theorem spar_edges (ps : List Tx) (s : Int) (c : UInt8) : Met.spar (edges ps) s c = stepOf ps s c := by
  rw [edges, spar_to s c _ (Nat.le_refl _)]
  by_cases h : 0 ≤ s ∧ s < (ps.length : Int)
  · rw [if_pos h]
  · rw [if_neg h, stepOf, pathOf_none h]
theorem kidsOf_len (ps : List Tx) (n : Int) : (kidsOf ps n).length ≤ 256 := kidsTo_len _ 256
theorem edgesTo_len (ps : List Tx) : ∀ k, (edgesTo ps k).length ≤ k * 256
  | 0 => by simp [edgesTo]
  | k + 1 => by
    have := edgesTo_len ps k
    have h2 := kidsOf_len ps (k : Int)
    rw [edgesTo, List.length_append, rowsOf, List.length_map]; omega
theorem edges_len (ps : List Tx) (h : ps.length ≤ 3900) : (edges ps).length ≤ 1000000 := by
  have := edgesTo_len ps ps.length
  unfold edges; omega
theorem edges_wf (ps : List Tx) (h : ps.length ≤ 3900) : ∀ k, k ≤ ps.length → Met.WfR (edgesTo ps k)
  | 0, _ => fun r hr => by cases hr
  | k + 1, hk => fun r hr => by
    rw [edgesTo] at hr
    rcases List.mem_append.1 hr with hr | hr
    · exact edges_wf ps h k (by omega) r hr
    · obtain ⟨c, _, rfl⟩ := List.mem_map.1 hr
      have h1 := stepOf_ge ps (k : Int) c
      have h2 := stepOf_lt ps (k : Int) c
      exact ⟨wf_nat (show -1 ≤ (k : Int) by omega) (show (k : Int) ≤ 1000000000000 by omega), wf_nat h1 (show stepOf ps (k : Int) c ≤ 1000000000000 by omega)⟩
theorem rows_snoc (ps : List Tx) (k q : Nat) (h : q < (kidsOf ps (k : Int)).length) : (rowsOf ps k).take (q + 1) = (rowsOf ps k).take q ++ [⟨(k : Int), (kidsOf ps (k : Int))[q], stepOf ps (k : Int) (kidsOf ps (k : Int))[q]⟩] := by
  have h2 : q < (rowsOf ps k).length := by rw [rowsOf, List.length_map]; exact h
  rw [List.take_succ_eq_append_getElem h2]
  simp [rowsOf]
theorem rows_all (ps : List Tx) (k : Nat) : (rowsOf ps k).take (kidsOf ps (k : Int)).length = rowsOf ps k := List.take_of_length_le (by rw [rowsOf, List.length_map]; exact Nat.le_refl _)
theorem rows_take_len (ps : List Tx) (k q : Nat) : ((rowsOf ps k).take q).length ≤ 256 := by
  have := kidsOf_len ps (k : Int)
  rw [List.length_take, rowsOf, List.length_map]; omega
/-! Rows in memory. -/
theorem rvals_one (l : List Rw) : ∀ v ∈ Met.rvals l, v.oneCell' = true := by
  intro v hv
  obtain ⟨r, _, h⟩ := List.mem_flatMap.1 hv
  simp [Met.rcells] at h
  rcases h with rfl | rfl | rfl <;> rfl
end Go.Proofs.Ytgdpelpepgpegaa.Spa
/- An automaton in memory; New, States, Path. -/
namespace Go.Proofs.Ytgdpelpepgpegaa.Spa
open Go.RowKit Go.Maps
open Go.Proofs.Ytgdpelpepgpegaa.Tri Go.Proofs.Ytgdpelpepgpegaa.Lnk
set_option maxRecDepth 100000
theorem le_tot : ∀ (l : List Tx) (x : Tx), x ∈ l → x.length ≤ tot l
  | [], x, h => by cases h
  | y :: l, x, h => by
    have e : tot (y :: l) = y.length + tot l := by simp [tot]
    rw [e]
    rcases List.mem_cons.1 h with rfl | h
    · omega
    · have := le_tot l x h
      omega
theorem pathD_le {ps : List Tx} {b : Nat} (h : ∀ p ∈ ps, p.length ≤ b) (n : Int) : (pathD ps n).length ≤ b := by
  unfold pathD
  cases e : pathOf ps n with
  | none => simp
  | some p =>
    obtain ⟨i, hi, _, rfl⟩ := pathOf_some e
    exact h _ (List.getElem_mem hi)
end Go.Proofs.Ytgdpelpepgpegaa.Spa
/- A step, by a handle on the edges. -/
namespace Go.Proofs.Ytgdpelpepgpegaa.Spa
open Go.RowKit Go.Maps
open Go.Proofs.Ytgdpelpepgpegaa.Tri Go.Proofs.Ytgdpelpepgpegaa.Lnk
set_option maxRecDepth 100000
theorem pathD_place {ps : List Tx} {p : Tx} (h : p ∈ ps) : pathD ps (place ps p) = p := by
  obtain ⟨i, hi, e, e2, _⟩ := place_mem h
  rw [e, pathD_at hi, e2]
theorem place_zero {ps : List Tx} (hw : Wf ps) {p : Tx} (h : p ∈ ps) : place ps p = 0 ↔ p = [] := by
  constructor
  · intro e
    obtain ⟨i, hi, e1, e2, _⟩ := place_mem h
    rw [e1] at e
    obtain rfl : i = 0 := by omega
    rw [← e2]; exact hw.at0
  · rintro rfl; exact place_nil hw
/-- A label at the head of a scope, and jumps back to it: one pass is enough. -/
theorem wp_goto_head {P : Program} {body : Code} {Q : Exit → Act → World → Prop} {a : Act} {w : World} (l : Nat) (J : Act → World → Prop) (μ : Act → World → Nat) (h0 : J a w)
    (pass : ∀ a w, J a w → body.wp P (Exit.jump l (fun a' w' => J a' w' ∧ μ a' w' < μ a w) Q) a w) : (Code.scope ((Code.label l).seq body)).wp P Q a w := by
  refine wp_scope_jumps (rest := Code.skip.seq body) l J μ (by simp [findLabel]) ?_ ?_
  · refine wp_seq (wp_label (Code.wp_mono ?_ (pass a w h0)))
    intro e1 a1 w1 h1
    cases e1 with
    | goto l1 => exact ⟨h1.1, h1.2.1⟩
    | _ => exact h1
  · exact fun a w h => wp_seq (wp_skip (pass a w h))
end Go.Proofs.Ytgdpelpepgpegaa.Spa
/- The numbers of Ends in a row of the call's own; Step. -/
namespace Go.Proofs.Ytgdpelpepgpegaa.Spa
open Go.RowKit Go.Maps
open Go.Proofs.Ytgdpelpepgpegaa.Tri Go.Proofs.Ytgdpelpepgpegaa.Lnk
set_option maxRecDepth 100000
def GivesOwn (w : World) (l : List Int) (e : Ending) (w' : World) : Prop := ∃ v, e = .returned v ∧ w'.ownsRow w.heap.size 3 1 v l.length (ivals l) ∧ Below w.heap.size w w'
/-! What an append to pairs of the call's own leaves. -/
theorem ne52 {w : World} {r : Option Nat} (hr : ∀ g, r = some g → ∃ cs fr, w.heap[g]? = some (.cells cs 48 fr)) {k : Nat} {cs : Array Value} {t : TypeId} {fr : Nat × Nat} (h : w.heap[k]? = some (.cells cs t fr)) (ht : t ≠ 48) : some k ≠ r := fun e => by
  obtain ⟨cs', fr', h'⟩ := hr k e.symm
  rw [h] at h'
  obtain ⟨_, e2, _⟩ := Obj.cells.inj (Option.some.inj h')
  exact ht e2
/-! Step. -/
end Go.Proofs.Ytgdpelpepgpegaa.Spa
/- Scan. -/
namespace Go.Proofs.Ytgdpelpepgpegaa.Spa
open Go.RowKit Go.Maps
open Go.Proofs.Ytgdpelpepgpegaa.Tri Go.Proofs.Ytgdpelpepgpegaa.Lnk Go.Proofs.Ytgdpelpepgpegaa.Reg Go.Proofs.Ytgdpelpepgpegaa.Prs
set_option maxRecDepth 100000
theorem row_len (l : List Tx) (t : Tx) : (rowOf l t).length ≤ t.length := by
  rw [rowOf, List.length_map]; exact ends_len l t
theorem hits_len (l : List Tx) (line : Tx) (m : Nat) (hm : line.length ≤ m) : ∀ k, (hitsTo l line k).length ≤ k * m
  | 0 => by simp [hitsTo]
  | k + 1 => by
    have h1 := hits_len l line m hm k
    have h2 := row_len l (line.take (k + 1))
    have h3 : (line.take (k + 1)).length ≤ m := by rw [List.length_take]; omega
    rw [hitsTo, List.length_append, Nat.succ_mul]; omega
theorem row_snoc (l : List Tx) (t : Tx) (j : Nat) (h : j < (endsOf l t).length) : (rowOf l t).take (j + 1) = (rowOf l t).take j ++ [⟨(t.length : Int) - (endsOf l t)[j], (t.length : Int)⟩] := by
  have h2 : j < (rowOf l t).length := by rw [rowOf, List.length_map]; exact h
  rw [List.take_succ_eq_append_getElem h2]
  simp [rowOf]
theorem row_all (l : List Tx) (t : Tx) : (rowOf l t).take (endsOf l t).length = rowOf l t := List.take_of_length_le (by rw [rowOf, List.length_map]; exact Nat.le_refl _)
theorem ends_bound (l : List Tx) (t : Tx) (j : Nat) (h : j < (endsOf l t).length) : 1 ≤ (endsOf l t)[j] ∧ (endsOf l t)[j] ≤ (t.length : Int) := by
  obtain ⟨k, h1, _, e⟩ := (mem_ends l (endsOf l t)[j] t).1 (List.getElem_mem h)
  omega
theorem own_is' {w : World} {base n : Nat} {v : Value} {l : List Int} (h : w.ownsRow base 3 1 v n (ivals l)) : ∃ a cap, v = .slice a l.length cap := by
  obtain ⟨a, cap, e, _⟩ := own_is h
  exact ⟨a, cap, e⟩
theorem is_cell {w : World} {base n cap : Nat} {a : Option Addr} {l : List Int} (h : w.ownsRow base 3 1 (.slice a l.length cap) n (ivals l)) (j : Nat) (hj : j < l.length) : ∃ b off, a = some ⟨b, off, none⟩ ∧ w.cell? ⟨b, off + j, none⟩ = some (.int .i64 l[j]) := by
  obtain ⟨a', cap', e, hi, _⟩ := own_is h
  cases e
  obtain ⟨b, off, e, _, hc⟩ := hi (by omega)
  exact ⟨b, off, e, hc j hj⟩
theorem is_far {w w' : World} {base base2 n n2 : Nat} {v v2 : Value} {xs ys : List Value} (h : w.ownsRow base 3 1 v n xs) (h2 : w.ownsRow base2 48 2 v2 n2 ys) (hg : w.grownBy w' v2.ownBlock) : w'.ownsRow base 3 1 v n xs := by
  refine h.kept hg ?_
  cases hv : v.ownBlock with
  | none => exact Or.inl rfl
  | some g =>
    obtain ⟨_, _, cs, hh⟩ := own_block_lt h hv
    refine Or.inr fun e => ?_
    obtain ⟨_, _, cs2, hh2⟩ := own_block_lt h2 e.symm
    rw [hh] at hh2
    simp at hh2
end Go.Proofs.Ytgdpelpepgpegaa.Spa
/- The reference's Step, Looks, Longest; few. -/
namespace Go.Proofs.Ytgdpelpepgpegaa.Spa
open Go.RowKit Go.Maps
open Go.Proofs.Ytgdpelpepgpegaa.Tri Go.Proofs.Ytgdpelpepgpegaa.Lnk Go.Proofs.Ytgdpelpepgpegaa.Prs
set_option maxRecDepth 100000
end Go.Proofs.Ytgdpelpepgpegaa.Spa
/- The reference's Occ. -/
namespace Go.Proofs.Ytgdpelpepgpegaa.Spa
open Go.RowKit Go.Maps
open Go.Proofs.Ytgdpelpepgpegaa.Tri Go.Proofs.Ytgdpelpepgpegaa.Lnk Go.Proofs.Ytgdpelpepgpegaa.Prs
set_option maxRecDepth 100000
theorem str_mid (x : Tx) (i j : Nat) : (str x).extract i j = str ((x.take j).drop i) := by
  unfold str
  rw [ByteArray.extract_mk]
  simp [List.drop_take]
theorem run_mid (x : Tx) (i m : Nat) (h : i + m + 1 ≤ x.length) (w : World) : (Instr.slice 9 (.string (str x)) (some (.int .i64 (i : Int))) (some (.int .i64 ((i : Int) + (m : Int) + 1))) none).run Try.prog w = .ok (.string (str ((x.take (i + m + 1)).drop i))) w := by
  have hz := str_size x
  rw [run_slice_string (P := Try.prog) w 9 (str x) .i64 .i64 (i : Int) ((i : Int) + (m : Int) + 1) und9 (by omega) (by omega) (by rw [hz]; omega)]
  have e1 : (i : Int).toNat = i := by omega
  have e2 : ((i : Int) + (m : Int) + 1).toNat = i + m + 1 := by omega
  rw [e1, e2, str_mid]
theorem occRow_len (l : List Tx) (line : Tx) (i : Nat) : ∀ m, (occRow l line i m).length ≤ m
  | 0 => by simp [occRow]
  | m + 1 => by
    have := occRow_len l line i m
    rw [occRow, List.length_append]
    split <;> simp <;> omega
theorem occTo_len (l : List Tx) (line : Tx) : ∀ k, (occTo l line k).length ≤ k * line.length
  | 0 => by simp [occTo]
  | k + 1 => by
    have h1 := occTo_len l line k
    have h2 := occRow_len l line k (line.length - k)
    rw [occTo, List.length_append, Nat.succ_mul]; omega
set_option maxHeartbeats 8000000 in
theorem rocc_any (w : World) (line : Tx) (ws : List Tx) (a : Option Addr) (cap : Nat) (hs : Ss w a ws) (hw : ws.length ≤ 1000000) (hwl : ∀ x ∈ ws, x.length ≤ 1000000) (hl : line.length ≤ 1000) :
    Calls Try.prog 24 #[.string (str line), .slice a ws.length cap] w (Gives w (occTo ws line line.length)) := by
  have HS := Lib.hid hs
  have HWL := Lib.hid hwl
  have hz := str_size line
  clear hs hwl
  go_enter Try.func24, Try.ntmps24
  go_wp2
  go_loopw [5, 6] (fun v x wr => ∃ i : Nat, i ≤ line.length ∧ x = .int .i64 (i : Int) ∧ wr.ownsRow w.heap.size 48 2 v (occTo ws line i).length (cellsOf (occTo ws line i)) ∧ Below w.heap.size w wr) (fun _ x _ => line.length - (intOf x).toNat)
  case atStart => exact ⟨0, by omega, rfl, World.ownsRow_nil _ _ _ _, Below.refl _ _⟩
  case round =>
    obtain ⟨i, hi, rfl, ho, hb⟩ := hrel
    have HO := Lib.hid ho
    have HB := Lib.hid hb
    clear ho hb
    have hol := occTo_len ws line i
    have hol2 : i * line.length ≤ 1000 * 1000 := Nat.mul_le_mul (by omega) hl
    by_cases hlt : i < line.length
    · have hlt2 : (i : Int) < (line.length : Int) := by omega
      have HSU : Hid (occTo ws line (i + 1) = occTo ws line i ++ occRow ws line i (line.length - i)) := Lib.hid rfl
      go_wp2
      go_loopw [5, 7] (fun v x wm => ∃ m : Nat, i + m ≤ line.length ∧ x = .int .i64 ((i : Int) + (m : Int) + 1) ∧ wm.ownsRow w.heap.size 48 2 v (occTo ws line i ++ occRow ws line i m).length (cellsOf (occTo ws line i ++ occRow ws line i m)) ∧ Below w.heap.size w wm) (fun _ x _ => line.length + 1 - (intOf x).toNat)
      case atStart => exact ⟨0, by omega, by simp, by simpa [occRow] using HO.out, HB.out⟩
      case round =>
        obtain ⟨m, hm, rfl, ho, hb⟩ := hrel
        have HO1 := Lib.hid ho
        have HB1 := Lib.hid hb
        clear ho hb
        have hrl := occRow_len ws line i m
        by_cases hm2 : i + m + 1 ≤ line.length
        · have hm3 : (i : Int) + (m : Int) + 1 ≤ (line.length : Int) := by omega
          have HRS : Hid (occRow ws line i (m + 1) = occRow ws line i m ++ (if (line.take (i + m + 1)).drop i ∈ ws then [⟨(i : Int), (i : Int) + m + 1⟩] else [])) := Lib.hid rfl
          have hpl : ((line.take (i + m + 1)).drop i).length = m + 1 := by rw [List.length_drop, List.length_take]; omega
          have HPL := Lib.hid hpl
          have hrun := run_mid line i m hm2
          clear hpl
          generalize (line.take (i + m + 1)).drop i = y at *
          go_wp2
          go_loopw [8, 9] (fun v x wi => ∃ k : Nat, k ≤ ws.length ∧ x = .int .i64 (k : Int) ∧ v = .bool (decide (y ∈ ws.take k)) ∧ wi.ownsRow w.heap.size 48 2 u5 (occTo ws line i ++ occRow ws line i m).length (cellsOf (occTo ws line i ++ occRow ws line i m)) ∧ Below w.heap.size w wi) (fun v x _ => ws.length - (intOf x).toNat)
          case atStart => exact ⟨0, by omega, rfl, by simp, HO1.out, HB1.out⟩
          case round =>
            obtain ⟨k, hk, rfl, rfl, ho, hb⟩ := hrel
            have HO2 := Lib.hid ho
            have HB2 := Lib.hid hb
            have hsz2 := hb.size
            clear ho hb
            by_cases hk2 : k < ws.length
            · have hk3 : (k : Int) < (ws.length : Int) := by omega
              by_cases hin : y ∈ ws.take k
              · have hd := decide_eq_true hin
                rw [hd]
                have HIN : Hid (y ∈ ws) := Lib.hid (List.mem_of_mem_take hin)
                clear hin hd
                go_wp2_with (at_builtin; refine app_ps rfl _ _ rfl w.heap.size _ _ (occTo ws line i ++ occRow ws line i m) rfl (HO2.out.alloc _) (some ⟨wr.heap.size, 0, none⟩) [⟨(i : Int), (i : Int) + (m : Int) + 1⟩] 1 (wr.heap.size + 1) rfl (by have := ps_one wr ⟨(i : Int), (i : Int) + (m : Int) + 1⟩ (0, 0); rwa [World.size_alloc] at this) (fun e => by cases e) (by simp only [List.length_append, List.length_cons, List.length_nil]; omega) (by simp; omega) ?_; intro v7 w7 hown7 hg7)
                go_roundw
                case rel =>
                  refine ⟨m + 1, by omega, by go_num, ?_, (HB2.out.alloc hsz2 _).grown hg7 (by simp; omega) (fun j hj => own_ge HO2.out hj)⟩
                  rw [HRS.out, if_pos HIN.out, ← List.append_assoc, List.length_append (bs := [_])]
                  exact hown7
                case measure => simp [intOf]; omega
              · have hd := decide_eq_false hin
                rw [hd]
                have hne : ∀ x, x ∈ ws.take (k + 1) ↔ x ∈ ws.take k ∨ x = ws[k] := fun x => by rw [List.take_succ_eq_append_getElem hk2, List.mem_append, List.mem_singleton]
                have HNE := Lib.hid hne
                have HNI := Lib.hid hin
                obtain ⟨bs, os, es, hbs, hcs⟩ := (HS.out.keep HB2.out) (by omega)
                have hcell := hcs k hk2
                have hbd := HWL.out _ (List.getElem_mem hk2)
                have hzk := str_size ws[k]
                have hbq := str_beq y ws[k]
                clear hne hin hd hcs
                subst es
                generalize ws[k] = z at *
                by_cases hlen : z.length = m + 1
                · have hg1 : ((z.length : Int) == (i : Int) + (m : Int) + 1 - (i : Int)) = true := by simp; omega
                  clear hlen
                  go_wp2
                  go_quiet (fail)
                  go_wp2
                  go_roundw
                  case rel =>
                    refine ⟨k + 1, by omega, by go_num, ?_, own_keep HO2.out (below_drews (Below.refl _ _) nq), below_drews HB2.out nq⟩
                    congr 1
                    rw [Bool.eq_iff_iff, decide_eq_true_iff, decide_eq_true_iff, HNE.out]
                    exact ⟨fun h => .inr h, fun h => h.resolve_left HNI.out⟩
                  case measure => simp [intOf]; omega
                · have hg1 : ((z.length : Int) == (i : Int) + (m : Int) + 1 - (i : Int)) = false := by simp; omega
                  have HLN : Hid (y ≠ z) := Lib.hid (fun e => hlen (by rw [← e, HPL.out]))
                  clear hlen
                  go_wp2
                  go_quiet (fail)
                  go_wp2
                  go_roundw
                  case rel =>
                    refine ⟨k + 1, by omega, by go_num, ?_, own_keep HO2.out (below_drews (Below.refl _ _) nq), below_drews HB2.out nq⟩
                    congr 1
                    rw [eq_comm, decide_eq_false_iff_not, HNE.out]
                    exact fun h => h.elim HNI.out HLN.out
                  case measure => simp [intOf]; omega
            · have hke : k = ws.length := by omega
              have hk3 : ¬ (k : Int) < (ws.length : Int) := by omega
              have hall : ws.take k = ws := List.take_of_length_le (by omega)
              rw [hall]
              clear hke hall
              by_cases hin : y ∈ ws
              · have hd := decide_eq_true hin
                rw [hd]
                have HIN := Lib.hid hin
                clear hin hd
                go_wp2_with (at_builtin; refine app_ps rfl _ _ rfl w.heap.size _ _ (occTo ws line i ++ occRow ws line i m) rfl (HO2.out.alloc _) (some ⟨wr.heap.size, 0, none⟩) [⟨(i : Int), (i : Int) + (m : Int) + 1⟩] 1 (wr.heap.size + 1) rfl (by have := ps_one wr ⟨(i : Int), (i : Int) + (m : Int) + 1⟩ (0, 0); rwa [World.size_alloc] at this) (fun e => by cases e) (by simp only [List.length_append, List.length_cons, List.length_nil]; omega) (by simp; omega) ?_; intro v7 w7 hown7 hg7)
                go_roundw
                case rel =>
                  refine ⟨m + 1, by omega, by go_num, ?_, (HB2.out.alloc hsz2 _).grown hg7 (by simp; omega) (fun j hj => own_ge HO2.out hj)⟩
                  rw [HRS.out, if_pos HIN.out, ← List.append_assoc, List.length_append (bs := [_])]
                  exact hown7
                case measure => simp [intOf]; omega
              · have hd := decide_eq_false hin
                rw [hd]
                have HIN := Lib.hid hin
                clear hin hd
                go_wp2
                go_roundw
                case rel => exact ⟨m + 1, by omega, by go_num, by rw [HRS.out, if_neg HIN.out, List.append_nil]; exact HO2.out, HB2.out⟩
                case measure => simp [intOf]; omega
        · have hme : line.length - i = m := by omega
          have hm3 : ¬ (i : Int) + (m : Int) + 1 ≤ (line.length : Int) := by omega
          have HME : Hid (occTo ws line i ++ occRow ws line i m = occTo ws line (i + 1)) := Lib.hid (by rw [HSU.out, hme])
          clear hme
          go_wp2
          go_roundw
          case rel => exact ⟨i + 1, by omega, by go_num, by rw [← HME.out]; exact HO1.out, HB1.out⟩
          case measure => simp [intOf]; omega
    · have hie : i = line.length := by omega
      have hi3 : ¬ (i : Int) < (line.length : Int) := by omega
      have HIE : Hid (occTo ws line i = occTo ws line line.length) := Lib.hid (by rw [hie])
      clear hie
      obtain ⟨a8, c8, rfl, hc8, hn8, hp8⟩ := own_ps HO.out rfl
      have HP8 := Lib.hid hp8
      clear hp8
      go_wp2
      go_ret
      refine ⟨a8, c8, by rw [← HIE.out]; rfl, by rw [← HIE.out]; exact hc8, hn8, by rw [← HIE.out]; exact HP8.out, HB.out⟩
end Go.Proofs.Ytgdpelpepgpegaa.Spa
/- The contract of 'awake': the document's example. -/
namespace Go.Proofs.Ytgdpelpepgpegaa.Spa
open Go.RowKit Go.Maps
open Go.Proofs.Ytgdpelpepgpegaa.Tri Go.Proofs.Ytgdpelpepgpegaa.Lnk Go.Proofs.Ytgdpelpepgpegaa.Prs
set_option maxRecDepth 100000
abbrev exl : List Tx := [[104, 101], [115, 104, 101]]
abbrev exp : List Tx := [[], [104], [104, 101], [115], [115, 104], [115, 104, 101]]
theorem ex_paths : paths exl = exp := by decide
theorem ex_wf : Wf exp := by rw [← ex_paths]; exact paths_wf _
abbrev ex1 : List Pr := [⟨1, 4⟩, ⟨2, 4⟩]
abbrev ex2 : List Pr := [⟨2, 4⟩]
theorem ex_scan1 : scanOf exl [117, 115, 104, 101] = ex1 := by decide
theorem ex_scan2 : scanOf exl [115, 104, 104, 101] = ex2 := by decide
theorem ex_looks1 : looksTo exp [117, 115, 104, 101] 4 = 4 := by
  have h0 : looksTo exp [117, 115, 104, 101] 1 = looksTo exp [117, 115, 104, 101] 0 + 1 := by
    have := looksTo_succ exp [117, 115, 104, 101] 0 (by decide)
    rw [stepN_one (by decide)] at this
    exact this
  have h1 : looksTo exp [117, 115, 104, 101] 2 = looksTo exp [117, 115, 104, 101] 1 + 1 := by
    have := looksTo_succ exp [117, 115, 104, 101] 1 (by decide)
    rw [stepN_one (by decide)] at this
    exact this
  have h2 : looksTo exp [117, 115, 104, 101] 3 = looksTo exp [117, 115, 104, 101] 2 + 1 := by
    have := looksTo_succ exp [117, 115, 104, 101] 2 (by decide)
    rw [stepN_one (by decide)] at this
    exact this
  have h3 : looksTo exp [117, 115, 104, 101] 4 = looksTo exp [117, 115, 104, 101] 3 + 1 := by
    have := looksTo_succ exp [117, 115, 104, 101] 3 (by decide)
    rw [stepN_one (by decide)] at this
    exact this
  rw [h3, h2, h1, h0]; rfl
theorem ex_looks2 : looksTo exp [115, 104, 104, 101] 4 = 6 := by
  have h0 : looksTo exp [115, 104, 104, 101] 1 = looksTo exp [115, 104, 104, 101] 0 + 1 := by
    have := looksTo_succ exp [115, 104, 104, 101] 0 (by decide)
    rw [stepN_one (by decide)] at this
    exact this
  have h1 : looksTo exp [115, 104, 104, 101] 2 = looksTo exp [115, 104, 104, 101] 1 + 1 := by
    have := looksTo_succ exp [115, 104, 104, 101] 1 (by decide)
    rw [stepN_one (by decide)] at this
    exact this
  have h2 : looksTo exp [115, 104, 104, 101] 3 = looksTo exp [115, 104, 104, 101] 2 + 3 := by
    have := looksTo_succ exp [115, 104, 104, 101] 2 (by decide)
    rw [stepN_fall (by decide) (by decide), stepN_fall (by decide) (by decide), stepN_one (by decide)] at this
    exact this
  have h3 : looksTo exp [115, 104, 104, 101] 4 = looksTo exp [115, 104, 104, 101] 3 + 1 := by
    have := looksTo_succ exp [115, 104, 104, 101] 3 (by decide)
    rw [stepN_one (by decide)] at this
    exact this
  rw [h3, h2, h1, h0]; rfl
theorem const_at (w : World) (g : Nat) (hg : g = w.heap.size) (C : Array Value) (n c : Nat) :
    (convert 44 44 (.slice (some ⟨g, 0, none⟩) n c)).run Try.prog (w.alloc (.cells C 5)) = .ok (.slice (some ⟨g, 0, none⟩) n c) (w.alloc (.cells C 5 (C.size, C.size + 1))) := by
  subst hg
  exact Lib.run_convert_bytes_const w 44 5 C n c Try.underlying44 Try.underlying5
theorem bs_lit_at (w : World) (g : Nat) (l : List UInt8) (fr : Nat × Nat) (cs : Array Value) (hg : g = w.heap.size) (hcs : cs = (l.map fun c => Value.int .u8 (c.toNat : Int)).toArray) :
    Bs (w.alloc (.cells cs 5 fr)) (w.alloc (.cells cs 5 fr)).heap.size (some ⟨g, 0, none⟩) l := by
  subst hg; exact bs_lit w l fr cs hcs
theorem below_new (w : World) (x : Obj) : Below w.heap.size w (w.alloc x) := (Below.refl _ _).alloc (Nat.le_refl _) _
theorem ps_two (w : World) (p q : Pr) : Ps (w.alloc (.cells #[.int .i64 p.s, .int .i64 p.e, .int .i64 q.s, .int .i64 q.e] 48)) (w.alloc (.cells #[.int .i64 p.s, .int .i64 p.e, .int .i64 q.s, .int .i64 q.e] 48)).heap.size (some ⟨w.heap.size, 0, none⟩) [p, q] := fun _ => by
  refine ⟨w.heap.size, 0, rfl, by simp, fun i hi => ?_⟩
  have hh := heap_alloc_new w (.cells #[.int .i64 p.s, .int .i64 p.e, .int .i64 q.s, .int .i64 q.e] 48)
  have hi' : i < 2 := hi
  rw [cell_of_row _ _ _ _ 48 (0, 0) hh, cell_of_row _ _ _ _ 48 (0, 0) hh]
  rcases i with _ | _ | i
  · exact ⟨rfl, rfl⟩
  · exact ⟨rfl, rfl⟩
  · omega
abbrev exw (w : World) : World := ((w.alloc (.cells #[.int .u8 104, .int .u8 101] 5 (2, 3))).alloc (.cells #[.int .u8 115, .int .u8 104, .int .u8 101] 5 (3, 4))).alloc (.cells #[.slice (some ⟨w.heap.size, 0, none⟩) 2 2, .slice (some ⟨w.heap.size + 1, 0, none⟩) 3 3] 44)
def exx (w : World) : List TxV := [⟨[104, 101], some ⟨w.heap.size, 0, none⟩, 2, fun e => by cases e⟩, ⟨[115, 104, 101], some ⟨w.heap.size + 1, 0, none⟩, 3, fun e => by cases e⟩]
theorem ex_ts (w : World) : Ts (exw w) (some ⟨w.heap.size + 1 + 1, 0, none⟩) (exx w) := by
  refine ⟨fun _ => ⟨_, _, rfl, by simp, fun i hi => ?_⟩, fun x hx => ?_⟩
  · have hh : (exw w).heap[w.heap.size + 1 + 1]? = some (.cells #[.slice (some ⟨w.heap.size, 0, none⟩) 2 2, .slice (some ⟨w.heap.size + 1, 0, none⟩) 3 3] 44 (0, 0)) := by
      have := heap_alloc_new ((w.alloc (.cells #[.int .u8 104, .int .u8 101] 5 (2, 3))).alloc (.cells #[.int .u8 115, .int .u8 104, .int .u8 101] 5 (3, 4))) (.cells #[.slice (some ⟨w.heap.size, 0, none⟩) 2 2, .slice (some ⟨w.heap.size + 1, 0, none⟩) 3 3] 44)
      simpa using this
    rw [cell_of_row _ _ _ _ 44 (0, 0) hh]
    have hi' : i < 2 := hi
    rcases i with _ | _ | i
    · rfl
    · rfl
    · omega
  · have b1 := below_new w (.cells #[.int .u8 104, .int .u8 101] 5 (2, 3))
    have b2 := below_new (w.alloc (.cells #[.int .u8 104, .int .u8 101] 5 (2, 3))) (.cells #[.int .u8 115, .int .u8 104, .int .u8 101] 5 (3, 4))
    have b3 := below_new ((w.alloc (.cells #[.int .u8 104, .int .u8 101] 5 (2, 3))).alloc (.cells #[.int .u8 115, .int .u8 104, .int .u8 101] 5 (3, 4))) (.cells #[.slice (some ⟨w.heap.size, 0, none⟩) 2 2, .slice (some ⟨w.heap.size + 1, 0, none⟩) 3 3] 44)
    have k1 := bs_lit_at w w.heap.size [104, 101] (2, 3) #[.int .u8 104, .int .u8 101] rfl rfl
    have k2 := bs_lit_at (w.alloc (.cells #[.int .u8 104, .int .u8 101] 5 (2, 3))) (w.heap.size + 1) [115, 104, 101] (3, 4) #[.int .u8 115, .int .u8 104, .int .u8 101] (by simp) rfl
    simp only [exx, List.mem_cons, List.not_mem_nil, or_false] at hx
    rcases hx with rfl | rfl
    · exact ((((k1.keep b2).more b2.size).keep b3).more b3.size)
    · exact ((k2.keep b3).more b3.size)
theorem ex_below (w : World) : Below w.heap.size w (exw w) := (((Below.refl _ _).alloc (Nat.le_refl _) _).alloc (by simp) _).alloc (by simp; omega) _
theorem mt_grown (W w' : World) (g : Nat) (hg : W.heap.size ≤ g) (h : W.grownBy w' (some g)) : Below W.heap.size W w' := (Below.refl _ _).grown h (Nat.le_refl _) (fun k e => by obtain rfl := Option.some.inj e; exact hg)
end Go.Proofs.Ytgdpelpepgpegaa.Spa
/- What the walks of layer 8 share. -/
namespace Go.Proofs.Ytgdpelpepgpegaa.Spa
open Go.RowKit Go.Maps
open Go.Proofs.Ytgdpelpepgpegaa.Tri Go.Proofs.Ytgdpelpepgpegaa.Lnk Go.Proofs.Ytgdpelpepgpegaa.Prs
set_option maxRecDepth 100000
theorem few_tot {xs : List TxV} (h0 : xs.length ≤ 12) (hx : ∀ x ∈ xs, x.text.length ≤ 40) : tot (xs.map TxV.text) ≤ 480 := by
  have := tot_le (xs.map TxV.text) 40 (fun x h => by
    obtain ⟨y, hy, rfl⟩ := List.mem_map.1 h
    exact hx y hy)
  rw [List.length_map] at this
  omega
theorem grown_below {g : Nat} {w X Y : World} (h : Below w.heap.size w X) (hg : X.grownBy Y (some g)) (hB : w.heap.size ≤ g) : Below w.heap.size w Y := h.grown hg h.size (fun k e => by obtain rfl := Option.some.inj e; exact hB)
end Go.Proofs.Ytgdpelpepgpegaa.Spa
