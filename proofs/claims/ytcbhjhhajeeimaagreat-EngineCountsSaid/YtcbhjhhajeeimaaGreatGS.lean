/- Package by package: SMath Sa Sb Sc Sd Se Sf Sg Sh Si. -/
import Derived.Test.YtcbhjhhajeeimaaGreatGB
import Derived.Test.YtcbhjhhajeeimaaGreatGL
import Derived.Test.YtcbhjhhajeeimaaGreatGM
import Derived.Test.YtcbhjhhajeeimaaGreatGP
import Derived.Test.YtcbhjhhajeeimaaGreatGT
import Derived.Maps.RangeWalk
import Derived.ScopeJumps
import Derived.WalkMore
/- Finding texts by a tree and falls: plain mathematics: the longest end that is a beginning, steps and how many look-ups they take, the pieces of a line that are texts. -/
namespace Go.Proofs.YtcbhjhhajeeimaaGreat.Spa
open Go.Proofs.YtcbhjhhajeeimaaGreat.Tri Go.Proofs.YtcbhjhhajeeimaaGreat.Lnk Go.Proofs.YtcbhjhhajeeimaaGreat.Prs
set_option maxRecDepth 100000

/-- The longest end of a text that is a beginning. -/
def longT (ps : List Tx) : Tx → Tx
  | [] => []
  | c :: t => if c :: t ∈ ps then c :: t else longT ps t
theorem longT_mem {ps : List Tx} (hw : Wf ps) : ∀ t, longT ps t ∈ ps
  | [] => hw.nil_mem
  | c :: t => by
    unfold longT
    split
    · rename_i h; exact h
    · exact longT_mem hw t
theorem longT_of_mem {ps : List Tx} : ∀ {t : Tx}, t ∈ ps → longT ps t = t
  | [], _ => rfl
  | c :: t, h => by rw [longT, if_pos h]
theorem longT_suffix (ps : List Tx) : ∀ t, ∃ u, t = u ++ longT ps t
  | [] => ⟨[], rfl⟩
  | c :: t => by
    unfold longT
    split
    · exact ⟨[], rfl⟩
    · obtain ⟨u, e⟩ := longT_suffix ps t
      exact ⟨c :: u, by rw [List.cons_append, ← e]⟩
theorem longT_le (ps : List Tx) (t : Tx) : (longT ps t).length ≤ t.length := by
  obtain ⟨u, e⟩ := longT_suffix ps t
  have := congrArg List.length e
  rw [List.length_append] at this
  omega
theorem longT_snoc {ps : List Tx} (hw : Wf ps) (c : UInt8) : ∀ t, longT ps (t ++ [c]) = longT ps (longT ps t ++ [c])
  | [] => rfl
  | x :: t => by
    by_cases h : x :: t ∈ ps
    · rw [longT_of_mem h]
    · have h2 : x :: (t ++ [c]) ∉ ps := fun e => h (hw.closed (p := x :: t) e)
      rw [List.cons_append, longT, if_neg h2, longT_snoc hw c t]
      conv => rhs; rw [longT, if_neg h]
/-- What is read from some place on: the first end that is a beginning. -/
theorem longT_drop (ps : List Tx) (t : Tx) (k : Nat) (h : k < t.length) : longT ps (t.drop k) = if t.drop k ∈ ps then t.drop k else longT ps (t.drop (k + 1)) := by
  rw [List.drop_eq_getElem_cons h, longT]
/-- Where a beginning falls to. -/
def fallT (ps : List Tx) : Tx → Tx
  | [] => []
  | _ :: p => longT ps p
theorem fallT_lt (ps : List Tx) {p : Tx} (h : p ≠ []) : (fallT ps p).length < p.length := by
  cases p with
  | nil => exact absurd rfl h
  | cons x p => have := longT_le ps p; simp [fallT]; omega
theorem fallT_mem {ps : List Tx} (hw : Wf ps) : ∀ p, fallT ps p ∈ ps
  | [] => hw.nil_mem
  | _ :: p => longT_mem hw p
theorem fail_fall {ps : List Tx} (hw : Wf ps) {p : Tx} (h : p ≠ []) : failOf ps p = place ps (fallT ps p) := by
  cases p with
  | nil => exact absurd rfl h
  | cons x p =>
    clear h
    show failOf ps (x :: p) = place ps (longT ps p)
    induction p generalizing x with
    | nil => rw [failOf, if_pos hw.nil_mem]; rfl
    | cons y p ih =>
      rw [failOf, longT]
      split
      · rfl
      · exact ih y
/-- A step. -/
def stepT (ps : List Tx) (c : UInt8) (p : Tx) : Tx := longT ps (p ++ [c])
/-- How many look-ups a step takes. -/
def stepN (ps : List Tx) (c : UInt8) (p : Tx) : Nat := if h : p ++ [c] ∈ ps ∨ p = [] then 1 else stepN ps c (fallT ps p) + 1
termination_by p.length
decreasing_by exact fallT_lt ps (fun e => h (.inr e))
theorem stepN_one {ps : List Tx} {c : UInt8} {p : Tx} (h : p ++ [c] ∈ ps ∨ p = []) : stepN ps c p = 1 := by rw [stepN, dif_pos h]
theorem stepN_fall {ps : List Tx} {c : UInt8} {p : Tx} (h : p ++ [c] ∉ ps) (hn : p ≠ []) : stepN ps c p = stepN ps c (fallT ps p) + 1 := by
  rw [stepN, dif_neg (fun e => e.elim h hn)]
theorem stepT_hit {ps : List Tx} {c : UInt8} {p : Tx} (h : p ++ [c] ∈ ps) : stepT ps c p = p ++ [c] := longT_of_mem h
theorem stepT_root {ps : List Tx} {c : UInt8} (h : [c] ∉ ps) : stepT ps c [] = [] := by
  show longT ps [c] = []
  rw [longT, if_neg h]; rfl
theorem stepT_fall {ps : List Tx} (hw : Wf ps) {c : UInt8} {p : Tx} (h : p ++ [c] ∉ ps) (hn : p ≠ []) : stepT ps c p = stepT ps c (fallT ps p) := by
  cases p with
  | nil => exact absurd rfl hn
  | cons x p =>
    show longT ps (x :: (p ++ [c])) = longT ps (longT ps p ++ [c])
    rw [longT, if_neg (show x :: (p ++ [c]) ∉ ps from h), longT_snoc hw c p]
theorem stepT_mem {ps : List Tx} (hw : Wf ps) (c : UInt8) (p : Tx) : stepT ps c p ∈ ps := longT_mem hw _
theorem stepN_pos (ps : List Tx) (c : UInt8) (p : Tx) : 1 ≤ stepN ps c p := by
  rw [stepN]; split <;> omega
theorem step_bound {ps : List Tx} (hw : Wf ps) (c : UInt8) : ∀ (n : Nat) (p : Tx), p.length ≤ n → (stepT ps c p).length + stepN ps c p ≤ p.length + 2
  | n, p, hn => by
    by_cases h : p ++ [c] ∈ ps
    · rw [stepT_hit h, stepN_one (.inl h)]; simp
    · by_cases h0 : p = []
      · subst h0
        rw [stepN_one (.inr rfl)]
        have : (stepT ps c []).length ≤ 1 := longT_le ps [c]
        simp; omega
      · have hl := fallT_lt ps h0
        cases n with
        | zero => omega
        | succ n =>
          have := step_bound hw c n (fallT ps p) (by omega)
          rw [stepT_fall hw h h0, stepN_fall h h0]
          omega
/-- The state behind a line's first bytes: each byte is a step. -/
theorem long_take {ps : List Tx} (hw : Wf ps) (line : Tx) (k : Nat) (h : k < line.length) : longT ps (line.take (k + 1)) = stepT ps line[k] (longT ps (line.take k)) := by
  rw [List.take_succ_eq_append_getElem h, longT_snoc hw]; rfl
/-- How many look-ups a line's first bytes take. -/
def looksTo (ps : List Tx) (line : Tx) : Nat → Nat
  | 0 => 0
  | k + 1 => looksTo ps line k + (match line[k]? with | some c => stepN ps c (longT ps (line.take k)) | none => 0)
theorem looksTo_succ (ps : List Tx) (line : Tx) (k : Nat) (h : k < line.length) : looksTo ps line (k + 1) = looksTo ps line k + stepN ps line[k] (longT ps (line.take k)) := by
  rw [looksTo, List.getElem?_eq_getElem h]
theorem looks_bound {ps : List Tx} (hw : Wf ps) (line : Tx) : ∀ k, k ≤ line.length → k ≤ looksTo ps line k ∧ looksTo ps line k + (longT ps (line.take k)).length ≤ 2 * k
  | 0, _ => by simp [looksTo, longT]
  | k + 1, h => by
    obtain ⟨h1, h2⟩ := looks_bound hw line k (by omega)
    have h3 := step_bound hw line[k] _ (longT ps (line.take k)) (Nat.le_refl _)
    have h4 := stepN_pos ps line[k] (longT ps (line.take k))
    rw [looksTo_succ ps line k h, long_take hw line k h]
    omega
/-- An end that is a text: that of the longest end that is a beginning. -/
theorem ends_long {ps l : List Tx} (hl : ∀ x ∈ l, x ∈ ps) : ∀ t, endsOf l (longT ps t) = endsOf l t
  | [] => rfl
  | c :: t => by
    by_cases h : c :: t ∈ ps
    · rw [longT_of_mem h]
    · rw [longT, if_neg h, ends_long hl t]
      conv => rhs; rw [endsOf, if_neg (fun e => h (hl _ e))]
theorem mem_ends (l : List Tx) (e : Int) : ∀ t : Tx, e ∈ endsOf l t ↔ ∃ k, k < t.length ∧ t.drop k ∈ l ∧ e = (t.length : Int) - k
  | [] => by simp [endsOf]
  | c :: t => by
    have ih := mem_ends l e t
    constructor
    · intro h
      unfold endsOf at h
      split at h
      · rename_i hm
        rcases List.mem_cons.1 h with rfl | h
        · exact ⟨0, by simp, hm, by simp⟩
        · obtain ⟨k, h1, h2, h3⟩ := ih.1 h
          exact ⟨k + 1, by simpa using h1, h2, by simp; omega⟩
      · obtain ⟨k, h1, h2, h3⟩ := ih.1 h
        exact ⟨k + 1, by simpa using h1, h2, by simp; omega⟩
    · rintro ⟨k, h1, h2, h3⟩
      cases k with
      | zero =>
        unfold endsOf
        rw [if_pos (by simpa using h2), h3]
        simp
      | succ k =>
        have := ih.2 ⟨k, by simpa using h1, h2, by rw [h3]; simp; omega⟩
        unfold endsOf
        split
        · exact List.mem_cons_of_mem _ this
        · exact this
/-- The pairs of the pieces that end behind a line's first bytes, as they are met. -/
def rowOf (l : List Tx) (t : Tx) : List Pr := (endsOf l t).map fun e => ⟨(t.length : Int) - e, (t.length : Int)⟩
def hitsTo (l : List Tx) (line : Tx) : Nat → List Pr
  | 0 => []
  | k + 1 => hitsTo l line k ++ rowOf l (line.take (k + 1))
/-- A piece of a line that is a text. -/
def Hit (l : List Tx) (line : Tx) (p : Pr) : Prop := ∃ a b : Nat, a < b ∧ b ≤ line.length ∧ (line.take b).drop a ∈ l ∧ p = ⟨(a : Int), (b : Int)⟩
theorem mem_row (l : List Tx) (t : Tx) (p : Pr) : p ∈ rowOf l t ↔ ∃ a : Nat, a < t.length ∧ t.drop a ∈ l ∧ p = ⟨(a : Int), (t.length : Int)⟩ := by
  unfold rowOf
  rw [List.mem_map]
  constructor
  · rintro ⟨e, he, rfl⟩
    obtain ⟨k, h1, h2, rfl⟩ := (mem_ends l e t).1 he
    exact ⟨k, h1, h2, pr_ext (by show (t.length : Int) - (t.length - k) = k; omega) rfl⟩
  · rintro ⟨a, h1, h2, rfl⟩
    exact ⟨(t.length : Int) - a, (mem_ends l _ t).2 ⟨a, h1, h2, rfl⟩, pr_ext (by show (t.length : Int) - (t.length - a) = a; omega) rfl⟩
theorem mem_hits (l : List Tx) (line : Tx) (p : Pr) : ∀ k, k ≤ line.length → (p ∈ hitsTo l line k ↔ ∃ a b : Nat, a < b ∧ b ≤ k ∧ (line.take b).drop a ∈ l ∧ p = ⟨(a : Int), (b : Int)⟩)
  | 0, _ => by
    constructor
    · intro h; cases h
    · rintro ⟨a, b, h1, h2, _⟩; omega
  | k + 1, h => by
    have ih := mem_hits l line p k (by omega)
    have hl : (line.take (k + 1)).length = k + 1 := by rw [List.length_take]; omega
    rw [hitsTo, List.mem_append, ih, mem_row, hl]
    constructor
    · rintro (⟨a, b, h1, h2, h3⟩ | ⟨a, h1, h2, h3⟩)
      · exact ⟨a, b, h1, by omega, h3⟩
      · exact ⟨a, k + 1, h1, Nat.le_refl _, h2, h3⟩
    · rintro ⟨a, b, h1, h2, h3, h4⟩
      by_cases hb : b = k + 1
      · subst hb; exact .inr ⟨a, h1, h3, h4⟩
      · exact .inl ⟨a, b, h1, by omega, h3, h4⟩
/-- All pieces of a line that are texts, in order, each once. -/
def scanOf (l : List Tx) (line : Tx) : List Pr := norm (hitsTo l line line.length)
theorem mem_scan (l : List Tx) (line : Tx) (p : Pr) : p ∈ scanOf l line ↔ Hit l line p := by
  rw [scanOf, mem_norm, mem_hits l line p _ (Nat.le_refl _)]; rfl
theorem rise_scan (l : List Tx) (line : Tx) : Rise (scanOf l line) := rise_norm _
/-- Two lists of texts that have the same ones, the empty one left out. -/
theorem scan_congr {l m : List Tx} (h : ∀ x, x ≠ [] → (x ∈ l ↔ x ∈ m)) (line : Tx) : scanOf l line = scanOf m line := by
  refine rise_ext _ _ (rise_scan _ _) (rise_scan _ _) fun p => ?_
  rw [mem_scan, mem_scan]
  have key : ∀ a b : Nat, a < b → b ≤ line.length → ((line.take b).drop a ∈ l ↔ (line.take b).drop a ∈ m) := fun a b h1 h2 => h _ fun e => by
    have := congrArg List.length e
    simp at this
    omega
  constructor
  · rintro ⟨a, b, h1, h2, h3, h4⟩; exact ⟨a, b, h1, h2, (key a b h1 h2).1 h3, h4⟩
  · rintro ⟨a, b, h1, h2, h3, h4⟩; exact ⟨a, b, h1, h2, (key a b h1 h2).2 h3, h4⟩
theorem rise_filter (f : Pr → Bool) : ∀ l : List Pr, Rise l → Rise (l.filter f)
  | [], _ => trivial
  | p :: l, h => by
    rw [List.filter_cons]
    split
    · exact ⟨fun q hq => h.1 q (List.mem_filter.1 hq).1, rise_filter f l h.2⟩
    · exact rise_filter f l h.2
/-- The pieces of a line's first bytes. -/
theorem scan_front (l : List Tx) (line : Tx) (k : Nat) (hk : k ≤ line.length) : scanOf l (line.take k) = (scanOf l line).filter fun p => decide (p.e ≤ (k : Int)) := by
  refine rise_ext _ _ (rise_scan _ _) (rise_filter _ _ (rise_scan _ _)) fun p => ?_
  rw [List.mem_filter, mem_scan, mem_scan]
  constructor
  · rintro ⟨a, b, h1, h2, h3, rfl⟩
    have h2' : b ≤ k := by rw [List.length_take] at h2; omega
    rw [List.take_take, Nat.min_eq_left h2'] at h3
    exact ⟨⟨a, b, h1, by omega, h3, rfl⟩, decide_eq_true (by show (b : Int) ≤ k; omega)⟩
  · rintro ⟨⟨a, b, h1, h2, h3, rfl⟩, h4⟩
    have h4' : (b : Int) ≤ k := of_decide_eq_true h4
    exact ⟨a, b, h1, by rw [List.length_take]; omega, by rw [List.take_take, Nat.min_eq_left (by omega)]; exact h3, rfl⟩
/-- Row by row, as the reference goes: the pieces that begin at i, and have m bytes at most. -/
def occRow (l : List Tx) (line : Tx) (i : Nat) : Nat → List Pr
  | 0 => []
  | m + 1 => occRow l line i m ++ (if (line.take (i + m + 1)).drop i ∈ l then [⟨(i : Int), (i : Int) + m + 1⟩] else [])
def occTo (l : List Tx) (line : Tx) : Nat → List Pr
  | 0 => []
  | i + 1 => occTo l line i ++ occRow l line i (line.length - i)
theorem mem_occRow (l : List Tx) (line : Tx) (i : Nat) (p : Pr) : ∀ m, p ∈ occRow l line i m ↔ ∃ b : Nat, i < b ∧ b ≤ i + m ∧ (line.take b).drop i ∈ l ∧ p = ⟨(i : Int), (b : Int)⟩
  | 0 => by
    constructor
    · intro h; cases h
    · rintro ⟨b, h1, h2, _⟩; omega
  | m + 1 => by
    rw [occRow, List.mem_append, mem_occRow l line i p m]
    constructor
    · rintro (⟨b, h1, h2, h3⟩ | h)
      · exact ⟨b, h1, by omega, h3⟩
      · split at h
        · rename_i hm
          obtain rfl : p = _ := by simpa using h
          exact ⟨i + m + 1, by omega, by omega, hm, pr_ext rfl (by show (i : Int) + m + 1 = ((i + m + 1 : Nat) : Int); omega)⟩
        · cases h
    · rintro ⟨b, h1, h2, h3, h4⟩
      by_cases hb : b = i + m + 1
      · subst hb
        exact .inr (by rw [if_pos h3, h4]; exact List.mem_singleton.2 (pr_ext rfl (by show ((i + m + 1 : Nat) : Int) = (i : Int) + m + 1; omega)))
      · exact .inl ⟨b, h1, by omega, h3, h4⟩
theorem mem_occ (l : List Tx) (line : Tx) (p : Pr) : ∀ k, k ≤ line.length → (p ∈ occTo l line k ↔ ∃ a b : Nat, a < k ∧ a < b ∧ b ≤ line.length ∧ (line.take b).drop a ∈ l ∧ p = ⟨(a : Int), (b : Int)⟩)
  | 0, _ => by
    constructor
    · intro h; cases h
    · rintro ⟨a, b, h1, _⟩; omega
  | k + 1, h => by
    rw [occTo, List.mem_append, mem_occ l line p k (by omega), mem_occRow]
    constructor
    · rintro (⟨a, b, h1, h2, h3⟩ | ⟨b, h1, h2, h3, h4⟩)
      · exact ⟨a, b, by omega, h2, h3⟩
      · exact ⟨k, b, by omega, h1, by omega, h3, h4⟩
    · rintro ⟨a, b, h1, h2, h3, h4, h5⟩
      by_cases ha : a = k
      · subst ha; exact .inr ⟨b, h2, by omega, h4, h5⟩
      · exact .inl ⟨a, b, by omega, h2, h3, h4, h5⟩
theorem rise_append : ∀ (l m : List Pr), Rise l → Rise m → (∀ p ∈ l, ∀ q ∈ m, lt p q = true) → Rise (l ++ m)
  | [], _, _, hm, _ => hm
  | p :: l, m, hl, hm, h => by
    refine ⟨fun q hq => ?_, rise_append l m hl.2 hm fun r hr => h r (List.mem_cons_of_mem _ hr)⟩
    rcases List.mem_append.1 hq with hq | hq
    · exact hl.1 q hq
    · exact h p (by simp) q hq
theorem rise_occRow (l : List Tx) (line : Tx) (i : Nat) : ∀ m, Rise (occRow l line i m)
  | 0 => trivial
  | m + 1 => by
    rw [occRow]
    refine rise_append _ _ (rise_occRow l line i m) (by split <;> simp [Rise]) fun p hp q hq => ?_
    obtain ⟨b, h1, h2, h3, rfl⟩ := (mem_occRow l line i p m).1 hp
    split at hq
    · obtain rfl : q = _ := by simpa using hq
      rw [lt_iff]
      exact .inr ⟨rfl, by show (b : Int) < (i : Int) + m + 1; omega⟩
    · cases hq
theorem rise_occ (l : List Tx) (line : Tx) : ∀ k, k ≤ line.length → Rise (occTo l line k)
  | 0, _ => trivial
  | k + 1, h => by
    rw [occTo]
    refine rise_append _ _ (rise_occ l line k (by omega)) (rise_occRow l line k _) fun p hp q hq => ?_
    obtain ⟨a, b, h1, _, _, _, rfl⟩ := (mem_occ l line p k (by omega)).1 hp
    obtain ⟨b', _, _, _, rfl⟩ := (mem_occRow l line k q _).1 hq
    rw [lt_iff]
    exact .inl (by show (a : Int) < (k : Int); omega)
/-- The reference's list is the one that is found. -/
theorem occ_scan (l : List Tx) (line : Tx) : occTo l line line.length = scanOf l line := by
  refine rise_ext _ _ (rise_occ _ _ _ (Nat.le_refl _)) (rise_scan _ _) fun p => ?_
  rw [mem_scan, mem_occ l line p _ (Nat.le_refl _)]
  constructor
  · rintro ⟨a, b, _, h2, h3, h4, h5⟩; exact ⟨a, b, h2, h3, h4, h5⟩
  · rintro ⟨a, b, h2, h3, h4, h5⟩; exact ⟨a, b, by omega, h2, h3, h4, h5⟩
/-- Without texts nothing is found. -/
theorem scan_none {l : List Tx} (h : ∀ x ∈ l, x = []) (line : Tx) : scanOf l line = [] := by
  rw [scan_congr (m := []) (fun x hx => ⟨fun e => absurd (h x e) hx, fun e => by cases e⟩)]
  refine rise_ext _ _ (rise_scan _ _) trivial fun p => ?_
  rw [mem_scan]
  constructor
  · rintro ⟨_, _, _, _, h3, _⟩; cases h3
  · intro h; cases h
/-- .. and each byte is looked up once. -/
theorem looks_root (line : Tx) : ∀ k, k ≤ line.length → looksTo [[]] line k = k ∧ longT [[]] (line.take k) = []
  | 0, _ => ⟨rfl, rfl⟩
  | k + 1, h => by
    obtain ⟨h1, h2⟩ := looks_root line k (by omega)
    have hn : [line[k]] ∉ ([[]] : List Tx) := by simp
    refine ⟨?_, ?_⟩
    · rw [looksTo_succ _ _ _ h, h1, h2, stepN_one (.inr rfl)]
    · rw [long_take wf_root line k h, h2, stepT_root hn]
end Go.Proofs.YtcbhjhhajeeimaaGreat.Spa
/- The edges of a tree, as rows. -/
namespace Go.Proofs.YtcbhjhhajeeimaaGreat.Spa
open Go.RowKit Go.Maps
open Go.Proofs.YtcbhjhhajeeimaaGreat.Tri Go.Proofs.YtcbhjhhajeeimaaGreat.Lnk
set_option maxRecDepth 100000
abbrev Rw := Met.Rw
def rowsOf (ps : List Tx) (k : Nat) : List Rw := (kidsOf ps (k : Int)).map fun c => ⟨(k : Int), c, stepOf ps (k : Int) c⟩
def edgesTo (ps : List Tx) : Nat → List Rw
  | 0 => []
  | k + 1 => edgesTo ps k ++ rowsOf ps k
def edges (ps : List Tx) : List Rw := edgesTo ps ps.length
theorem spar_rows (k : Int) (f : UInt8 → Int) (s : Int) (c : UInt8) : ∀ (cs : List UInt8) (l : List Rw), Met.spar (l ++ cs.map fun c => ⟨k, c, f c⟩) s c = if k = s ∧ c ∈ cs then f c else Met.spar l s c
  | [], l => by simp
  | x :: cs, l => by
    have e : l ++ (x :: cs).map (fun c => (⟨k, c, f c⟩ : Rw)) = (l ++ [⟨k, x, f x⟩]) ++ cs.map fun c => ⟨k, c, f c⟩ := by simp
    rw [e, spar_rows k f s c cs, Met.spar_snoc]
    by_cases h1 : k = s
    · by_cases h2 : c ∈ cs
      · simp [h1, h2]
      · by_cases h3 : x = c
        · subst h3; simp [h1]
        · have : ¬ c = x := fun e => h3 e.symm
          simp [h1, h2, h3, this]
    · simp [h1]
theorem spar_to {ps : List Tx} (s : Int) (c : UInt8) : ∀ k, k ≤ ps.length → Met.spar (edgesTo ps k) s c = if 0 ≤ s ∧ s < (k : Int) then stepOf ps s c else -1
  | 0, _ => by
    rw [if_neg (by omega)]; rfl
  | k + 1, h => by
    rw [edgesTo, rowsOf, spar_rows, spar_to s c k (by omega)]
    by_cases e : (k : Int) = s
    · subst e
      rw [if_pos (show 0 ≤ (k : Int) ∧ (k : Int) < ((k + 1 : Nat) : Int) by omega), if_neg (by omega : ¬ (0 ≤ (k : Int) ∧ (k : Int) < (k : Int)))]
      by_cases hc : c ∈ kidsOf ps (k : Int)
      · rw [if_pos ⟨rfl, hc⟩]
      · rw [if_neg (fun q => hc q.2)]
        have h1 : ¬ (0 ≤ stepOf ps (k : Int) c) := fun q => hc ((mem_kidsTo _ c).2 (by simpa using q))
        have h2 := stepOf_ge ps (k : Int) c
        omega
    · rw [if_neg (fun q => e q.1)]
      by_cases h2 : 0 ≤ s ∧ s < (k : Int)
      · rw [if_pos h2, if_pos (by omega)]
      · rw [if_neg h2, if_neg (by omega)]
theorem spar_edges (ps : List Tx) (s : Int) (c : UInt8) : Met.spar (edges ps) s c = stepOf ps s c := by
  rw [edges, spar_to s c _ (Nat.le_refl _)]
  by_cases h : 0 ≤ s ∧ s < (ps.length : Int)
  · rw [if_pos h]
  · rw [if_neg h, stepOf, pathOf_none h]
theorem kidsOf_len (ps : List Tx) (n : Int) : (kidsOf ps n).length ≤ 256 := kidsTo_len _ 256
theorem edgesTo_len (ps : List Tx) : ∀ k, (edgesTo ps k).length ≤ k * 256
  | 0 => by simp [edgesTo]
  | k + 1 => by
    have := edgesTo_len ps k
    have h2 := kidsOf_len ps (k : Int)
    rw [edgesTo, List.length_append, rowsOf, List.length_map]; omega
theorem edges_len (ps : List Tx) (h : ps.length ≤ 3900) : (edges ps).length ≤ 1000000 := by
  have := edgesTo_len ps ps.length
  unfold edges; omega
theorem edges_wf (ps : List Tx) (h : ps.length ≤ 3900) : ∀ k, k ≤ ps.length → Met.WfR (edgesTo ps k)
  | 0, _ => fun r hr => by cases hr
  | k + 1, hk => fun r hr => by
    rw [edgesTo] at hr
    rcases List.mem_append.1 hr with hr | hr
    · exact edges_wf ps h k (by omega) r hr
    · obtain ⟨c, _, rfl⟩ := List.mem_map.1 hr
      have h1 := stepOf_ge ps (k : Int) c
      have h2 := stepOf_lt ps (k : Int) c
      exact ⟨wf_nat (show -1 ≤ (k : Int) by omega) (show (k : Int) ≤ 1000000000000 by omega), wf_nat h1 (show stepOf ps (k : Int) c ≤ 1000000000000 by omega)⟩
theorem rows_snoc (ps : List Tx) (k q : Nat) (h : q < (kidsOf ps (k : Int)).length) : (rowsOf ps k).take (q + 1) = (rowsOf ps k).take q ++ [⟨(k : Int), (kidsOf ps (k : Int))[q], stepOf ps (k : Int) (kidsOf ps (k : Int))[q]⟩] := by
  have h2 : q < (rowsOf ps k).length := by rw [rowsOf, List.length_map]; exact h
  rw [List.take_succ_eq_append_getElem h2]
  simp [rowsOf]
theorem rows_all (ps : List Tx) (k : Nat) : (rowsOf ps k).take (kidsOf ps (k : Int)).length = rowsOf ps k := List.take_of_length_le (by rw [rowsOf, List.length_map]; exact Nat.le_refl _)
theorem rows_take_len (ps : List Tx) (k q : Nat) : ((rowsOf ps k).take q).length ≤ 256 := by
  have := kidsOf_len ps (k : Int)
  rw [List.length_take, rowsOf, List.length_map]; omega
/-! Rows in memory. -/
theorem info91 : (Tryz.prog.info? 147).map (fun i => (i.zero, i.size, i.bytes)) = some (some (.agg #[.int .i64 0, .int .u8 0, .int .i64 0]), 3, 24) := by kernel_rfl
theorem rvals_one (l : List Rw) : ∀ v ∈ Met.rvals l, v.oneCell' = true := by
  intro v hv
  obtain ⟨r, _, h⟩ := List.mem_flatMap.1 hv
  simp [Met.rcells] at h
  rcases h with rfl | rfl | rfl <;> rfl
theorem own_rs {W : World} {base n : Nat} {v : Value} {xs : List Rw} (h : W.ownsRow base 147 3 v n (Met.rvals xs)) (hn : n = xs.length) :
    ∃ a cap, v = .slice a xs.length cap ∧ Met.Rs W W.heap.size a xs := by
  subst hn
  rcases h.2 with ⟨rfl, h0⟩ | ⟨g, cap, cur, rfl, hg, hh, hnc, _, hs, htk⟩
  · exact ⟨none, 0, by rw [h0], fun h1 => by omega⟩
  · refine ⟨some ⟨g, 0, none⟩, cap, rfl, fun _ => ⟨g, 0, rfl, txt_lt hh, fun i hi => ?_⟩⟩
    have key : ∀ j, j < 3 → W.cell? ⟨g, 0 + i * 3 + j, none⟩ = (Met.rcells xs[i])[j]? := fun j hj => by
      rw [cell_of_row W g _ _ 147 (0, 0) hh, Nat.zero_add, ← Met.rvals_at xs i j hj hi, ← htk, List.getElem?_take_of_lt (by omega), Array.getElem?_toList]
    exact ⟨key 0 (by omega), key 1 (by omega), key 2 (by omega)⟩
theorem rcell_new (w : World) (r : Rw) : ∀ j u, (Met.rcells r)[j]? = some u → (w.alloc (.cells #[.int .i64 r.s, .int .u8 (r.b.toNat : Int), .int .i64 r.t] 147)).cell? ((⟨w.heap.size, 0, none⟩ : Addr).add j) = some u := by
  intro j u h
  have ea : (⟨w.heap.size, 0, none⟩ : Addr).add j = ⟨w.heap.size, j, none⟩ := by unfold Addr.add; split <;> simp_all
  rw [ea, cell_of_row _ w.heap.size _ _ 147 (0, 0) (heap_alloc_new w _)]
  simpa [Met.rcells] using h
theorem app_rs {w : World} {ops : Array Oper} {rest : List Oper} {o : Oper} {a : Act} {Q : Exit → Act → World → Prop} (hgd : o.guard = none) (s x : Operand)
    (ho : o.op = .call { callee := .builtin .append, args := #[s, x], argTypes := #[102, 102] })
    (base : Nat) (v : Value) (n : Nat) (xs : List Rw) (y : Rw) (hs : a.eval s = v) (hown : w.ownsRow base 147 3 v n (Met.rvals xs))
    (ad : Addr) (hx : a.eval x = .slice (some ad) 1 1) (hc : ∀ j u, (Met.rcells y)[j]? = some u → w.cell? (ad.add j) = some u)
    (hn : n ≤ 1000000000) (hbase : base ≤ w.heap.size)
    (h : ∀ v' w', w'.ownsRow base 147 3 v' (n + 1) (Met.rvals (xs ++ [y])) → w.grownBy w' v.ownBlock → wpList Tryz.prog ops Q rest (a.put o.dst v') w') : wpList Tryz.prog ops Q (o :: rest) a w := by
  obtain ⟨i0, hi, hz0, hz1, hz2⟩ := info_parts info91
  rw [Met.rvals_append] at h
  have e1 : Met.rvals [y] = Met.rcells y := by simp [Met.rvals]
  rw [e1] at h
  refine wpList_append_own w hgd s x 102 ho base 147 i0 (.agg #[.int .i64 0, .int .u8 0, .int .i64 0]) 3 24 Tryz.underlying102 hi hz0 hz1 hz2 rfl (by decide) v n (Met.rvals xs) hs hown ad 1 1 (Met.rcells y) hx (by rfl) hc ?_ (by unfold maxLen; omega) (by omega) hbase (fun v' w' h1 h2 _ => h v' w' h1 h2)
  intro u hu
  exact rvals_one [y] u (by rw [e1]; exact hu)
def GivesRs (w : World) (xs : List Rw) (e : Ending) (w' : World) : Prop := ∃ v, e = .returned v ∧ w'.ownsRow w.heap.size 147 3 v xs.length (Met.rvals xs) ∧ Below w.heap.size w w'
set_option maxHeartbeats 4000000 in
theorem edges_any (w : World) (s t : Nat) (ps l : List Tx) (h : Tr w s t ps l) (hn : ps.length ≤ 3900) : Calls Tryz.prog 46 #[.pointer (some ⟨t, 0, none⟩)] w (GivesRs w (edges ps)) := by
  have HH := Lib.hid h
  clear h
  have HN : Hid (Calls Tryz.prog 47 #[.pointer (some ⟨t, 0, none⟩)] w fun e w' => e = .returned (.int .i64 (ps.length : Int)) ∧ w = w') := Lib.hid (nodes_any w s t ps l HH.out)
  go_enter Tryz.func46, Tryz.ntmps46
  go_wp2_with (go_at_call 47; (with_reducible refine HN.out.mono ?_); rintro e w2 ⟨rfl, rfl⟩)
  go_loopw [3, 9] (fun v i wr => ∃ k : Nat, k ≤ ps.length ∧ i = .int .i64 (k : Int) ∧ wr.ownsRow w.heap.size 147 3 v (edgesTo ps k).length (Met.rvals (edgesTo ps k)) ∧ Below w.heap.size w wr) (fun _ i _ => ps.length - (intOf i).toNat)
  case atStart => exact ⟨0, by omega, rfl, World.ownsRow_nil _ _ _ _, Below.refl _ _⟩
  case round =>
    obtain ⟨k, hk, rfl, hown, hbel⟩ := hrel
    have hkl := edgesTo_len ps k
    have HO := Lib.hid hown
    have HB := Lib.hid hbel
    clear hown hbel
    by_cases hlt : k < ps.length
    · have hlt2 : (k : Int) < (ps.length : Int) := by omega
      have HK : Hid (Calls Tryz.prog 65 #[.pointer (some ⟨t, 0, none⟩), .int .i64 (k : Int)] wr (GivesText wr (kidsOf ps (k : Int)))) := Lib.hid (kids_any wr s t ps l (HH.out.keep HB.out) (k : Int) (wf_nat (by omega) (by omega)))
      go_wp2_with (go_at_call 65; (with_reducible refine HK.out.mono ?_); rintro e w2 ⟨a2, cap2, rfl, ht2, hc2, _, hb2⟩)
      have hL := kidsOf_len ps (k : Int)
      have HS : Hid (∀ q (h : q < (kidsOf ps (k : Int)).length), (rowsOf ps k).take (q + 1) = (rowsOf ps k).take q ++ [⟨(k : Int), (kidsOf ps (k : Int))[q], stepOf ps (k : Int) (kidsOf ps (k : Int))[q]⟩]) := Lib.hid (rows_snoc ps k)
      have HA := Lib.hid (rows_all ps k)
      generalize kidsOf ps (k : Int) = cs at *
      have HT2 := Lib.hid ht2
      have HB2 := Lib.hid (HB.out.trans (hb2.mono HB.out.size))
      have HO2 := Lib.hid (own_keep HO.out hb2)
      clear ht2 hb2 hc2
      go_loopw [3, 16] (fun v i wi => ∃ q : Nat, q ≤ cs.length ∧ i = .int .i64 (q : Int) ∧ wi.ownsRow w.heap.size 147 3 v (edgesTo ps k ++ (rowsOf ps k).take q).length (Met.rvals (edgesTo ps k ++ (rowsOf ps k).take q)) ∧ Txt wi 0 a2 cs ∧ Below w.heap.size w wi) (fun _ i _ => cs.length - (intOf i).toNat)
      case atStart => exact ⟨0, by omega, rfl, by simpa using HO2.out, HT2.out.less (by omega), HB2.out⟩
      case round =>
        obtain ⟨q, hq, rfl, ho, ht, hb⟩ := hrel
        have hr := rows_take_len ps k q
        have HO3 := Lib.hid ho
        have HT3 := Lib.hid ht
        have HB3 := Lib.hid hb
        clear ho ht hb
        by_cases hq2 : q < cs.length
        · have hq3 : (q : Int) < (cs.length : Int) := by omega
          have HC : Hid (Calls Tryz.prog 66 #[.pointer (some ⟨t, 0, none⟩), .int .i64 (k : Int), .int .u8 (cs[q].toNat : Int)] wr fun e w' => e = .returned (.int .i64 (stepOf ps (k : Int) cs[q])) ∧ wr = w') := Lib.hid (step_any wr s t ps l (HH.out.keep HB3.out) (k : Int) (wf_nat (by omega) (by omega)) cs[q])
          obtain ⟨b3, off3, e3, hb3, hc3⟩ := HT3.out.bs (by omega)
          have hcell := hc3 q hq2
          subst e3
          have HN3 := Lib.hid (HS.out q hq2)
          clear hc3
          have hsz := HB3.out.size
          generalize cs[q] = c at *
          generalize stepOf ps (k : Int) c = x at *
          go_wp2_with (first
            | (go_at_call 66; (with_reducible refine HC.out.mono ?_); rintro e w2 ⟨rfl, rfl⟩)
            | (at_builtin; refine app_rs rfl _ _ rfl w.heap.size _ _ (edgesTo ps k ++ (rowsOf ps k).take q) ⟨(k : Int), c, x⟩ rfl (HO3.out.alloc _) ⟨wr.heap.size, 0, none⟩ rfl (rcell_new wr ⟨(k : Int), c, x⟩) (by simp only [List.length_append]; omega) (by simp; omega) ?_; intro v4 w4 hown4 hg4))
          go_roundw
          case rel =>
            refine ⟨q + 1, by omega, by go_num, ?_, ?_, (HB3.out.alloc hsz _).grown hg4 (by simp; omega) (fun j hj => own_ge HO3.out hj)⟩
            · rw [HN3.out, ← List.append_assoc, List.length_append (bs := [_])]
              exact hown4
            · refine txt_grown (HT3.out.keep ((Below.refl _ _).alloc (Nat.le_refl _) _)) hg4 fun r cs' fr e he => ?_
              obtain ⟨_, hlt4, _, hh⟩ := own_block_lt HO3.out e
              rw [Below.heap_alloc _ _ _ hlt4, hh] at he
              simp at he
          case measure => simp [intOf]; omega
        · have hqe : q = cs.length := by omega
          have hq3 : ¬ (q : Int) < (cs.length : Int) := by omega
          have HQ : Hid (edgesTo ps k ++ (rowsOf ps k).take q = edgesTo ps (k + 1)) := Lib.hid (by rw [hqe, HA.out, edgesTo])
          clear hqe
          go_wp2
          go_roundw
          case rel => exact ⟨k + 1, by omega, by go_num, by rw [← HQ.out]; exact HO3.out, HB3.out⟩
          case measure => simp [intOf]; omega
    · have hke : k = ps.length := by omega
      have hk2 : ¬ (k : Int) < (ps.length : Int) := by omega
      have HE : Hid (edgesTo ps k = edges ps) := Lib.hid (by rw [edges, hke])
      clear hke
      go_wp2
      go_ret
      exact ⟨_, rfl, by rw [← HE.out]; exact HO.out, HB.out⟩
end Go.Proofs.YtcbhjhhajeeimaaGreat.Spa
/- An automaton in memory; New, States, Path. -/
namespace Go.Proofs.YtcbhjhhajeeimaaGreat.Spa
open Go.RowKit Go.Maps
open Go.Proofs.YtcbhjhhajeeimaaGreat.Tri Go.Proofs.YtcbhjhhajeeimaaGreat.Lnk
set_option maxRecDepth 100000
theorem own_adds {w w' : World} {base e size n : Nat} {v : Value} {xs : List Value} {q : Option Addr} {a b c d : Int} (h : w.ownsRow base e size v n xs) (hg : w.grownBy w' (Met.blk q)) (hM : Met.Mt w q a b c d) (he : e ≠ 71) : w'.ownsRow base e size v n xs := by
  refine h.kept hg ?_
  cases hv : v.ownBlock with
  | none => exact Or.inl rfl
  | some g =>
    obtain ⟨_, _, cs, hh⟩ := own_block_lt h hv
    exact Or.inr (hM.not hh he)
theorem map_adds {w w' : World} {g n : Nat} {f : Int → UInt8 → Int} {q : Option Addr} {a b c d : Int} (h : MapT w g n f) (hg : w.grownBy w' (Met.blk q)) (hM : Met.Mt w q a b c d) : MapT w' g n f := by
  refine h.same (hg.block g h.lt fun e => ?_)
  rcases hM with rfl | ⟨k, rfl, hk⟩
  · cases e
  · obtain rfl := Option.some.inj e
    exact h.not hk
theorem blk2_adds {w w' : World} {g : Nat} {t : TypeId} {u0 u1 : Value} {q : Option Addr} {a b c d : Int} (h : Blk2 w g t u0 u1) (hg : w.grownBy w' (Met.blk q)) (hM : Met.Mt w q a b c d) (he : t ≠ 71) : Blk2 w' g t u0 u1 := h.grown hg (hM.not h he)
theorem tr_adds {w w' : World} {s t : Nat} {ps l : List Tx} {q : Option Addr} {a b c d : Int} (h : Tr w s t ps l) (hg : w.grownBy w' (Met.blk q)) (hM : Met.Mt w q a b c d) : Tr w' s t ps l := by
  obtain ⟨h1, h2, h3, h4, g, cap, m, n, h5, h6, h7, h8, h9⟩ := h
  exact ⟨h1, h2, h3, h4, g, cap, m, n, blk2_adds h5 hg hM (by decide), own_adds h6 hg hM (by decide), map_adds h7 hg hM, h8, h9⟩
theorem li_adds {w w' : World} {s t : Nat} {ps l : List Tx} {q : Option Addr} {a b c d : Int} (h : Li w s t ps l) (hg : w.grownBy w' (Met.blk q)) (hM : Met.Mt w q a b c d) : Li w' s t ps l := by
  obtain ⟨h1, h2, h3, h4, g, cap, vo, h5, h6, h7⟩ := h
  exact ⟨h1, h2, h3, h4, g, cap, vo, blk2_adds h5 hg hM (by decide), own_adds h6 hg hM (by decide), own_adds h7 hg hM (by decide)⟩
theorem blk3_adds {w w' : World} {g : Nat} {t : TypeId} {u0 u1 u2 : Value} {q : Option Addr} {a b c d : Int} (h : Blk3 w g t u0 u1 u2) (hg : w.grownBy w' (Met.blk q)) (hM : Met.Mt w q a b c d) (he : t ≠ 71) : Blk3 w' g t u0 u1 u2 := (hg.block g h.lt (hM.not h he)).trans h
/-- An automaton at block t: its tree has the paths ps, and the texts l. -/
def Au (w : World) (t : Nat) (ps l : List Tx) : Prop :=
  Wf ps ∧ (∀ x ∈ l, x ∈ ps) ∧ ps.length ≤ 3900 ∧ (∀ p ∈ ps, p.length ≤ 1000000) ∧ ∃ tt lt v, Blk3 w t 105 (.pointer (some ⟨tt, 0, none⟩)) (.pointer (some ⟨lt, 0, none⟩)) v ∧ Tr w 0 tt ps l ∧ Li w 0 lt ps l ∧ w.ownsRow 0 147 3 v (edges ps).length (Met.rvals (edges ps))
theorem Au.keep {w w' : World} {t : Nat} {ps l : List Tx} (h : Au w t ps l) (hb : Below w.heap.size w w') : Au w' t ps l := by
  obtain ⟨h1, h2, h3, h0, tt, lt, v, h4, h5, h6, h7⟩ := h
  exact ⟨h1, h2, h3, h0, tt, lt, v, h4.keep hb h4.lt, h5.keep hb, h6.keep hb, own_keep h7 hb⟩
theorem Au.adds {w w' : World} {t : Nat} {ps l : List Tx} {q : Option Addr} {a b c d : Int} (h : Au w t ps l) (hg : w.grownBy w' (Met.blk q)) (hM : Met.Mt w q a b c d) : Au w' t ps l := by
  obtain ⟨h1, h2, h3, h0, tt, lt, v, h4, h5, h6, h7⟩ := h
  exact ⟨h1, h2, h3, h0, tt, lt, v, blk3_adds h4 hg hM (by decide), tr_adds h5 hg hM, li_adds h6 hg hM, own_adds h7 hg hM (by decide)⟩
theorem Au.lt {w : World} {t : Nat} {ps l : List Tx} (h : Au w t ps l) : t < w.heap.size := by
  obtain ⟨h1, h2, h3, h0, tt, lt, v, h4, h5, h6, h7⟩ := h
  exact h4.lt
theorem Li.less {w : World} {s s' t : Nat} {ps l : List Tx} (h : Li w s t ps l) (hs : s' ≤ s) : Li w s' t ps l := by
  obtain ⟨h1, h2, h3, h4, g, cap, vo, h5, h6, h7⟩ := h
  exact ⟨h1, h2, h3, by omega, g, cap, vo, h5, own_base h6 hs, own_base h7 hs⟩
theorem le_tot : ∀ (l : List Tx) (x : Tx), x ∈ l → x.length ≤ tot l
  | [], x, h => by cases h
  | y :: l, x, h => by
    have e : tot (y :: l) = y.length + tot l := by simp [tot]
    rw [e]
    rcases List.mem_cons.1 h with rfl | h
    · omega
    · have := le_tot l x h
      omega
def GivesAu (w : World) (ps l : List Tx) (e : Ending) (w' : World) : Prop := ∃ t, e = .returned (.pointer (some ⟨t, 0, none⟩)) ∧ w.heap.size ≤ t ∧ Au w' t ps l ∧ Below w.heap.size w w'
set_option maxHeartbeats 4000000 in
theorem snew_any (w : World) (xs : List TxV) (a : Option Addr) (cap : Nat) (hts : Ts w a xs) (hl : xs.length ≤ 1000000) (hz : tot (xs.map TxV.text) ≤ 3000) :
    Calls Tryz.prog 34 #[.slice a xs.length cap] w (GivesAu w (paths (xs.map TxV.text)) (xs.map TxV.text)) := by
  have HB : Hid (Calls Tryz.prog 44 #[.slice a xs.length cap] w (GivesTr w (paths (xs.map TxV.text)) (xs.map TxV.text))) := Lib.hid (build_any w xs a cap hts hl (by omega))
  have hp := paths_len (xs.map TxV.text)
  have HW := Lib.hid (paths_wf (xs.map TxV.text))
  have HS := Lib.hid (paths_sub (xs.map TxV.text))
  have HD : Hid (∀ p ∈ paths (xs.map TxV.text), p.length ≤ 1000000) := Lib.hid fun p hp' => by
    rcases (paths_mem _ p).1 hp' with rfl | ⟨x, hx, q, e⟩
    · simp
    · have h1 : x.length ≤ tot (xs.map TxV.text) := le_tot _ x hx
      have h2 : p.length + q.length = x.length := by rw [← e, List.length_append]
      omega
  generalize xs.map TxV.text = l at *
  generalize paths l = ps at *
  have hps : ps.length ≤ 3900 := by omega
  clear hts hz hp
  go_enter Tryz.func34, Tryz.ntmps34
  go_wp2_with (go_at_call 44; (with_reducible refine HB.out.mono ?_); rintro e w2 ⟨tt, rfl, htr, hb2⟩; have HT := Lib.hid htr; have HB2 := Lib.hid hb2; clear htr hb2; have HL := Lib.hid (lbuild_any w2 w.heap.size tt ps l HT.out (by omega)))
  go_wp2_with (go_at_call 45; (with_reducible refine HL.out.mono ?_); rintro e w3 ⟨lt, rfl, hli, hb3⟩; have HLI := Lib.hid hli; have HB3 := Lib.hid hb3; clear hli hb3; have HE := Lib.hid (edges_any w3 w.heap.size tt ps l (HT.out.keep HB3.out) hps))
  go_wp2_with (go_at_call 46; (with_reducible refine HE.out.mono ?_); rintro e w4 ⟨v, rfl, hown, hb4⟩; obtain ⟨ae, ce, rfl, _⟩ := own_rs hown rfl; have HO := Lib.hid hown; have HB4 := Lib.hid hb4; clear hown hb4)
  go_ret
  have B1 : Below w4.heap.size w4 (w4.alloc (Obj.cells #[.pointer (some ⟨tt, 0, none⟩), .pointer (some ⟨lt, 0, none⟩), .slice ae (edges ps).length ce] 105)) := (Below.refl _ _).alloc (Nat.le_refl _) _
  have s2 := HB2.out.size
  have s3 := HB3.out.size
  have s4 := HB4.out.size
  refine ⟨_, rfl, by omega, ⟨HW.out, HS.out, hps, HD.out, tt, lt, _, new_cells _ _ _ _ _, ((HT.out.keep HB3.out).keep HB4.out |>.keep B1).less (by omega), Li.less ((HLI.out.keep HB4.out).keep B1) (by omega), own_base (own_keep HO.out B1) (by omega)⟩, ?_⟩
  exact (HB2.out.trans (HB3.out.mono s2)).trans (HB4.out.mono (by omega)) |>.trans (B1.mono (by omega))
theorem states_none (w : World) : Calls Tryz.prog 126 #[.pointer none] w fun e w' => e = .returned (.int .i64 0) ∧ w = w' := by
  go_enter Tryz.func126, Tryz.ntmps126
  go_wp2
  go_ret
  exact ⟨rfl, rfl⟩
theorem states_any (w : World) (t : Nat) (ps l : List Tx) (h : Au w t ps l) : Calls Tryz.prog 126 #[.pointer (some ⟨t, 0, none⟩)] w fun e w' => e = .returned (.int .i64 (ps.length : Int)) ∧ w = w' := by
  obtain ⟨h1, h2, h3, h0, tt, lt, v, h4, h5, h6, h7⟩ := h
  obtain ⟨c0, c1, c2⟩ := h4.cells
  have HN : Hid (Calls Tryz.prog 47 #[.pointer (some ⟨tt, 0, none⟩)] w fun e w' => e = .returned (.int .i64 (ps.length : Int)) ∧ w = w') := Lib.hid (nodes_any w 0 tt ps l h5)
  clear h5 h6 h7 h4 h2
  go_enter Tryz.func126, Tryz.ntmps126
  go_wp2_with (go_at_call 47; (with_reducible refine HN.out.mono ?_); rintro e w2 ⟨rfl, rfl⟩)
  go_ret
  exact ⟨rfl, rfl⟩
theorem pathD_le {ps : List Tx} {b : Nat} (h : ∀ p ∈ ps, p.length ≤ b) (n : Int) : (pathD ps n).length ≤ b := by
  unfold pathD
  cases e : pathOf ps n with
  | none => simp
  | some p =>
    obtain ⟨i, hi, _, rfl⟩ := pathOf_some e
    exact h _ (List.getElem_mem hi)
end Go.Proofs.YtcbhjhhajeeimaaGreat.Spa
/- A step, by a handle on the edges. -/
namespace Go.Proofs.YtcbhjhhajeeimaaGreat.Spa
open Go.RowKit Go.Maps
open Go.Proofs.YtcbhjhhajeeimaaGreat.Tri Go.Proofs.YtcbhjhhajeeimaaGreat.Lnk
set_option maxRecDepth 100000
theorem pathD_place {ps : List Tx} {p : Tx} (h : p ∈ ps) : pathD ps (place ps p) = p := by
  obtain ⟨i, hi, e, e2, _⟩ := place_mem h
  rw [e, pathD_at hi, e2]
theorem place_zero {ps : List Tx} (hw : Wf ps) {p : Tx} (h : p ∈ ps) : place ps p = 0 ↔ p = [] := by
  constructor
  · intro e
    obtain ⟨i, hi, e1, e2, _⟩ := place_mem h
    rw [e1] at e
    obtain rfl : i = 0 := by omega
    rw [← e2]; exact hw.at0
  · rintro rfl; exact place_nil hw
/-- A label at the head of a scope, and jumps back to it: one pass is enough. -/
theorem wp_goto_head {P : Program} {body : Code} {Q : Exit → Act → World → Prop} {a : Act} {w : World} (l : Nat) (J : Act → World → Prop) (μ : Act → World → Nat) (h0 : J a w)
    (pass : ∀ a w, J a w → body.wp P (Exit.jump l (fun a' w' => J a' w' ∧ μ a' w' < μ a w) Q) a w) : (Code.scope ((Code.label l).seq body)).wp P Q a w := by
  refine wp_scope_jumps (rest := Code.skip.seq body) l J μ (by simp [findLabel]) ?_ ?_
  · refine wp_seq (wp_label (Code.wp_mono ?_ (pass a w h0)))
    intro e1 a1 w1 h1
    cases e1 with
    | goto l1 => exact ⟨h1.1, h1.2.1⟩
    | _ => exact h1
  · exact fun a w h => wp_seq (wp_skip (pass a w h))
/-- A look at the edges. -/
theorem slook_any (w : World) (ps : List Tx) (hn : ps.length ≤ 3900) (u t : Nat) (p : Option Addr) (h : Met.Tb w u t p (edges ps)) (q : Tx) (hq : q ∈ ps) (c : UInt8) (a b e d : Int) (hM : Met.Mt w p a b e d) (ha : 0 ≤ a ∧ a ≤ 1000000000000) (hb : 0 ≤ b ∧ b ≤ 1000000000000) (hc : 0 ≤ e ∧ e ≤ 1000000000000) (hd : 0 ≤ d ∧ d ≤ 1000000000000) :
    Calls Tryz.prog 135 #[.pointer (some ⟨t, 0, none⟩), .int .i64 (place ps q), .int .u8 (c.toNat : Int)] w (Met.Adds w p a (b + 1) e d (.int .i64 (place ps (q ++ [c])))) := by
  have h1 := place_ge ps q
  have h2 := place_lt ps q
  have := Met.look_some w u t p (edges ps) h (place ps q) c (wf_nat h1 (by omega)) a b e d hM ha hb hc hd
  rwa [spar_edges, step_eq hq] at this
/-- A fall. -/
theorem sfall_any (w : World) (s t : Nat) (ps l : List Tx) (h : Li w s t ps l) (q : Tx) (hq : q ∈ ps) (hn : q ≠ []) :
    Calls Tryz.prog 71 #[.pointer (some ⟨t, 0, none⟩), .int .i64 (place ps q)] w fun e w' => e = .returned (.int .i64 (place ps (fallT ps q))) ∧ Below w.heap.size w w' := by
  have := fail_any w s t ps l h (place ps q)
  rwa [lkAt_place l hq, lkOf, show (Lk.mk (failOf ps q) (outOf ps l q) (own l q)).fail = failOf ps q from rfl, fail_fall h.1 hn] at this
set_option maxHeartbeats 4000000 in
theorem sstep_any (w : World) (t : Nat) (ps l : List Tx) (hA : Au w t ps l) (u tb : Nat) (p : Option Addr) (hT : Met.Tb w u tb p (edges ps)) (q : Tx) (hq : q ∈ ps) (c : UInt8) (a b e d : Int) (hM : Met.Mt w p a b e d)
    (ha : 0 ≤ a ∧ a ≤ 1000000000000) (hb : 0 ≤ b ∧ b + (stepN ps c q : Int) ≤ 1000000000000) (hc : 0 ≤ e ∧ e ≤ 1000000000000) (hd : 0 ≤ d ∧ d ≤ 1000000000000) :
    Calls Tryz.prog 130 #[.pointer (some ⟨t, 0, none⟩), .pointer (some ⟨tb, 0, none⟩), .int .i64 (place ps q), .int .u8 (c.toNat : Int)] w (Met.Adds w p a (b + (stepN ps c q : Int)) e d (.int .i64 (place ps (stepT ps c q)))) := by
  have HA := Lib.hid hA
  have HT := Lib.hid hT
  have HM := Lib.hid hM
  have HQ := Lib.hid hq
  have HW := Lib.hid hA.1
  clear hA hT hM hq
  go_enter Tryz.func130, Tryz.ntmps130
  go_wp2
  refine wp_goto_head 0 (fun a' w' => ∃ (q' : Tx) (k : Nat) (u9 u10 u11 u12 u13 u14 u15 u16 u17 u18 u19 u20 u21 u22 u23 u24 : Value), q' ∈ ps ∧ stepT ps c q' = stepT ps c q ∧ stepN ps c q = stepN ps c q' + k ∧ a' = { tmps := #[.pointer (some ⟨t, 0, none⟩), .pointer (some ⟨tb, 0, none⟩), .int .i64 (place ps q'), .int .u8 (c.toNat : Int), undef, undef, undef, undef, .int .i64 0, u9, u10, u11, u12, u13, u14, u15, u16, u17, u18, u19, u20, u21, u22, u23, u24], defers := [] } ∧ Met.Mt w' p a (b + (k : Int)) e d ∧ w.grownBy w' (Met.blk p)) (fun a' _ => (pathD ps (intOf (a'.tmps.getD 2 undef))).length) ⟨q, 0, undef, undef, undef, undef, undef, undef, undef, undef, undef, undef, undef, undef, undef, undef, undef, undef, HQ.out, rfl, rfl, rfl, by simpa using HM.out, World.grownBy.refl _ _⟩ ?_
  · rintro a' w' ⟨q', k, u9, u10, u11, u12, u13, u14, u15, u16, u17, u18, u19, u20, u21, u22, u23, u24, hq', hs, hn, rfl, hM', hg'⟩
    have HQ' := Lib.hid hq'
    have HS := Lib.hid hs
    have HN := Lib.hid hn
    have HM' := Lib.hid hM'
    have HG' := Lib.hid hg'
    have HA' := Lib.hid (HA.out.adds HG'.out HM.out)
    have hp3 := HA.out.2.2.1
    have h1N := stepN_pos ps c q'
    have HL := Lib.hid (slook_any w' ps hp3 u tb p (HT.out.adds HG'.out HM.out) q' HQ'.out c a (b + (k : Int)) e d HM'.out ha (by omega) hc hd)
    clear hq' hs hn hM' hg'
    by_cases hit : q' ++ [c] ∈ ps
    · have HI := Lib.hid hit
      have hp := (place_nonneg ps (q' ++ [c])).2 hit
      clear hit
      go_wp2_with (go_at_call 135; (with_reducible refine HL.out.mono ?_); rintro e w2 ⟨rfl, hM2, hg2⟩; have HM2 := Lib.hid hM2; have HG2 := Lib.hid hg2; clear hM2 hg2)
      simp only [Exit.jump]
      go_ret
      have e1 : stepN ps c q = 1 + k := by rw [HN.out, stepN_one (.inl HI.out)]
      refine ⟨by rw [← HS.out, stepT_hit HI.out]; rfl, ?_, HG'.out.trans HG2.out⟩
      have e2 : b + (stepN ps c q : Int) = b + (k : Int) + 1 := by rw [e1]; omega
      rw [e2]; exact HM2.out
    · have hp := (place_neg ps (q' ++ [c])).2 hit
      have HI := Lib.hid hit
      clear hit
      by_cases h0 : q' = []
      · have hz : (place ps q' == 0) = true := by rw [(place_zero HW.out HQ'.out).2 h0]; rfl
        have H0 := Lib.hid h0
        clear h0
        go_wp2_with (go_at_call 135; (with_reducible refine HL.out.mono ?_); rintro e w2 ⟨rfl, hM2, hg2⟩; have HM2 := Lib.hid hM2; have HG2 := Lib.hid hg2; clear hM2 hg2)
        simp only [Exit.jump]
        go_ret
        have e1 : stepN ps c q = 1 + k := by rw [HN.out, stepN_one (.inr H0.out)]
        have e3 : place ps (stepT ps c q) = 0 := by
          have hi := HI.out
          rw [← HS.out, H0.out, stepT_root (by rw [H0.out] at hi; simpa using hi), place_nil HW.out]
        refine ⟨by rw [e3]; rfl, ?_, HG'.out.trans HG2.out⟩
        have e2 : b + (stepN ps c q : Int) = b + (k : Int) + 1 := by rw [e1]; omega
        rw [e2]; exact HM2.out
      · have hz : (place ps q' == 0) = false := by
          rw [beq_eq_false_iff_ne]; exact fun e => h0 ((place_zero HW.out HQ'.out).1 e)
        have H0 := Lib.hid h0
        clear h0
        go_wp2_with (go_at_call 135; (with_reducible refine HL.out.mono ?_); rintro e w2 ⟨rfl, hM2, hg2⟩; have HM2 := Lib.hid hM2; have HG2 := Lib.hid hg2; clear hM2 hg2; have hA2 := HA'.out.adds HG2.out HM'.out; obtain ⟨_, _, _, _, tt, lt, v, hB, _, hL, _⟩ := hA2; obtain ⟨c0, c1, c2⟩ := hB.cells; have HF := Lib.hid (sfall_any w2 0 lt ps l hL q' HQ'.out H0.out); clear hB hL c0 c2)
        go_wp2_with (go_at_call 71; (with_reducible refine HF.out.mono ?_); rintro e w3 ⟨rfl, hb3⟩; have HB3 := Lib.hid hb3; clear hb3)
        go_step3
        refine ⟨rfl, ⟨fallT ps q', k + 1, _, _, _, _, _, _, _, _, _, _, _, _, _, _, _, _, fallT_mem HW.out q', ?_, ?_, rfl, ?_, ?_⟩, ?_⟩
        · rw [← HS.out, stepT_fall HW.out HI.out H0.out]
        · rw [HN.out, stepN_fall HI.out H0.out]; omega
        · have e2 : b + ((k + 1 : Nat) : Int) = b + (k : Int) + 1 := by omega
          rw [e2]; exact HM2.out.keep HB3.out
        · exact (HG'.out.trans HG2.out).trans ((grown_of_below HB3.out).but _)
        · show (pathD ps (place ps (fallT ps q'))).length < (pathD ps (place ps q')).length
          rw [pathD_place (fallT_mem HW.out q'), pathD_place HQ'.out]
          exact fallT_lt ps H0.out
end Go.Proofs.YtcbhjhhajeeimaaGreat.Spa
/- The numbers of Ends in a row of the call's own; Step. -/
namespace Go.Proofs.YtcbhjhhajeeimaaGreat.Spa
open Go.RowKit Go.Maps
open Go.Proofs.YtcbhjhhajeeimaaGreat.Tri Go.Proofs.YtcbhjhhajeeimaaGreat.Lnk
set_option maxRecDepth 100000
def GivesOwn (w : World) (l : List Int) (e : Ending) (w' : World) : Prop := ∃ v, e = .returned v ∧ w'.ownsRow w.heap.size 3 1 v l.length (ivals l) ∧ Below w.heap.size w w'
set_option maxHeartbeats 2000000 in
theorem ends_own (w : World) (s t : Nat) (ps l : List Tx) (h : Li w s t ps l) (n : Int) (hd : (pathD ps n).length ≤ 1000000) :
    Calls Tryz.prog 132 #[.pointer (some ⟨t, 0, none⟩), .int .i64 n] w (GivesOwn w (endsOf l (pathD ps n))) := by
  have HA := Lib.hid (lat_any w s t ps l h n)
  have HAT : Hid (∀ X m, Below w.heap.size w X → Calls Tryz.prog 92 #[.pointer (some ⟨t, 0, none⟩), .int .i64 m] X fun e w' => e = .returned (lkV (lkAt ps l m)) ∧ Below X.heap.size X w') := Lib.hid fun X m hX => lat_any X s t ps l (h.keep hX) m
  rw [lk_path] at HA
  have HL := Lib.hid h.2.1
  clear h
  generalize pathD ps n = p at *
  have HSP := Lib.hid (ends_split l p)
  have HEL := Lib.hid (ends_len l p)
  by_cases ho : 0 < own l p
  · have ho2 : (0 : Int) < (own l p : Int) := by omega
    go_enter Tryz.func132, Tryz.ntmps132
    go_wp2_with fail
    refine HA.out.mono ?_
    rintro e w1 ⟨rfl, hb⟩
    have HB1 := Lib.hid hb
    have hsz := hb.size
    clear hb
    have HK1 := Lib.hid (new_cells w1 (.int .i64 (failOf ps p)) (.int .i64 (outOf ps l p)) (.int .i64 (own l p : Int)) 141)
    go_wp2_with (at_builtin; refine app_is rfl _ _ rfl (w1.heap.size + 1) _ 0 [] (own l p : Int) rfl (World.ownsRow_nil _ _ _ _) ⟨w1.heap.size + 1, 0, none⟩ rfl (cell_new_at _ _ (by simp)) (by omega) (by simp) ?_; intro v2 w2 hown2 hg2)
    have hk1 : Blk3 w2 w1.heap.size 141 (.int .i64 (failOf ps p)) (.int .i64 (outOf ps l p)) (.int .i64 (own l p : Int)) := (hg2.block _ (by simp; omega) (fun e => by cases e)).trans ((Below.heap_alloc _ _ _ (by simp)).trans HK1.out)
    have hb1 : Below w.heap.size w w2 := ((HB1.out.alloc hsz _).alloc (by simp; omega) _).grown hg2 (by simp; omega) (fun k hk => by cases hk)
    have HE : Hid ([(own l p : Int)] ++ tailE l p = endsOf l p) := Lib.hid (by rw [HSP.out, if_pos ho])
    clear hg2 HK1 HA HB1 HSP ho ho2
    generalize w1.heap.size = gx at *
    have hgw : w.heap.size ≤ gx := hsz
    go_loopw [5] (fun v wr => ∃ (es : List Int) (q : Tx), es ++ tailE l q = endsOf l p ∧ Blk3 wr gx 141 (.int .i64 (failOf ps q)) (.int .i64 (outOf ps l q)) (.int .i64 (own l q : Int)) ∧ wr.ownsRow (gx + 1) 3 1 v es.length (ivals es) ∧ Below w.heap.size w wr) (fun v _ => (endsOf l p).length - lenOf v)
    case atStart => exact ⟨[(own l p : Int)], p, HE.out, hk1, hown2, hb1⟩
    case round =>
      obtain ⟨es, q, he, hk, hown, hbel⟩ := hrel
      obtain ⟨c0, c1, c2⟩ := hk.cells
      obtain ⟨f0, f1, f2⟩ := hk.free
      have hgx := hk.lt
      rcases out_split HL.out q with ⟨e1, e2⟩ | ⟨z, z1, z2, z3, z4, z5, z6, z7⟩
      · have hx : outOf ps l q < 0 := by omega
        have HE : Hid (es = endsOf l p) := Lib.hid (by rw [← he, e2, List.append_nil])
        have HO := Lib.hid hown
        have HB := Lib.hid hbel
        clear hown hbel hk he e1 e2 f0 f1 f2
        generalize outOf ps l q = y at *
        go_wp2
        go_ret
        exact ⟨_, rfl, by rw [← HE.out]; exact own_base HO.out (by omega), HB.out⟩
      · have hx : 0 ≤ outOf ps l q := by rw [z5]; exact (place_nonneg ps z).2 z3
        have hlen : es.length + (tailE l q).length = (endsOf l p).length := by rw [← he, List.length_append]
        have HLT : Hid (0 < (tailE l q).length) := Lib.hid (by rw [z6, ends_split, if_pos (own_pos.2 ⟨z2, z1⟩)]; simp)
        have hlt2 := HLT.out
        have hel := HEL.out
        have HC : Hid (Calls Tryz.prog 92 #[.pointer (some ⟨t, 0, none⟩), .int .i64 (outOf ps l q)] wr fun e w' => e = .returned (.agg #[.int .i64 (failOf ps z), .int .i64 (outOf ps l z), .int .i64 (own l z : Int)]) ∧ Below wr.heap.size wr w') := Lib.hid (by
          have := HAT.out wr (outOf ps l q) hbel
          rw [z5] at this ⊢
          rwa [lkAt_place l z3] at this)
        have HE : Hid ((es ++ [(own l z : Int)]) ++ tailE l z = endsOf l p) := Lib.hid (by
          rw [← he, z6, ends_split l z, if_pos (own_pos.2 ⟨z2, z1⟩)]
          simp)
        have HO := Lib.hid hown
        have HB := Lib.hid hbel
        have HK := Lib.hid hk
        clear hown hbel hk he z1 z2 z3 z4 z5 z6 z7
        obtain ⟨av, cv, rfl, _, _⟩ := own_is HO.out
        generalize outOf ps l q = y at *
        generalize failOf ps q = y0 at *
        generalize own l q = y2 at *
        go_wp2_with (first
          | (go_at_call 92; (with_reducible refine HC.out.mono ?_); rintro e w2 ⟨rfl, hb⟩; have HB2 := Lib.hid hb; clear hb; have hk2 := HK.out.keep HB2.out hgx; obtain ⟨d0, d1, d2⟩ := hk2.cells; obtain ⟨g0, g1, g2⟩ := hk2.free; have hgx2 := hk2.lt; have HK2 := Lib.hid hk2; clear hk2)
          | (at_builtin; refine app_is rfl _ _ rfl (gx + 1) _ _ es (own l z : Int) rfl ((own_put3 (own_keep HO.out HB2.out) (Nat.lt_succ_self gx)).alloc _) ⟨w2.heap.size, 0, none⟩ rfl (cell_new_at _ _ (by simp)) (by omega) (by simp; omega) ?_; intro v3 w3 hown3 hg3))
        have hb3 : Below w.heap.size w (put3 w2 gx (.int .i64 (failOf ps z)) (.int .i64 (outOf ps l z)) (.int .i64 (own l z : Int))) := below_put3 (HB.out.trans (HB2.out.mono HB.out.size)) hgw _ _ _
        have hk3 : Blk3 w3 gx 141 (.int .i64 (failOf ps z)) (.int .i64 (outOf ps l z)) (.int .i64 (own l z : Int)) := (hg3.block _ (by simp; omega) (own_far HO.out gx (Nat.lt_succ_self gx))).trans ((Below.heap_alloc _ _ _ (by simp; omega)).trans (HK2.out.put _ _ _))
        refine ⟨⟨es ++ [(own l z : Int)], z, HE.out, hk3, by rw [List.length_append]; exact hown3, (hb3.alloc hb3.size _).grown hg3 (by have := hb3.size; simp [put3] at this ⊢; omega) (fun k hk => by have := own_ge HO.out hk; omega)⟩, ?_⟩
        obtain ⟨g3, cap3, rfl⟩ := own_succ hown3
        simp [lenOf]
        omega
  · have ho2 : ¬ (0 : Int) < (own l p : Int) := by omega
    go_enter Tryz.func132, Tryz.ntmps132
    go_wp2_with fail
    refine HA.out.mono ?_
    rintro e w1 ⟨rfl, hb⟩
    have HB1 := Lib.hid hb
    have hsz := hb.size
    clear hb
    have HK1 := Lib.hid (new_cells w1 (.int .i64 (failOf ps p)) (.int .i64 (outOf ps l p)) (.int .i64 (own l p : Int)) 141)
    go_wp2
    have hk1 : Blk3 (w1.alloc (.cells #[.int .i64 (failOf ps p), .int .i64 (outOf ps l p), .int .i64 (own l p : Int)] 141)) w1.heap.size 141 (.int .i64 (failOf ps p)) (.int .i64 (outOf ps l p)) (.int .i64 (own l p : Int)) := HK1.out
    have hb1 := HB1.out.alloc hsz (.cells #[.int .i64 (failOf ps p), .int .i64 (outOf ps l p), .int .i64 (own l p : Int)] 141)
    have HE : Hid ([] ++ tailE l p = endsOf l p) := Lib.hid (by rw [HSP.out, if_neg ho])
    clear HK1 HA HB1 HSP ho ho2
    generalize w1.alloc (.cells #[.int .i64 (failOf ps p), .int .i64 (outOf ps l p), .int .i64 (own l p : Int)] 141) = w2 at *
    generalize w1.heap.size = gx at *
    have hgw : w.heap.size ≤ gx := hsz
    go_loopw [5] (fun v wr => ∃ (es : List Int) (q : Tx), es ++ tailE l q = endsOf l p ∧ Blk3 wr gx 141 (.int .i64 (failOf ps q)) (.int .i64 (outOf ps l q)) (.int .i64 (own l q : Int)) ∧ wr.ownsRow (gx + 1) 3 1 v es.length (ivals es) ∧ Below w.heap.size w wr) (fun v _ => (endsOf l p).length - lenOf v)
    case atStart => exact ⟨[], p, HE.out, hk1, World.ownsRow_nil _ _ _ _, hb1⟩
    case round =>
      obtain ⟨es, q, he, hk, hown, hbel⟩ := hrel
      obtain ⟨c0, c1, c2⟩ := hk.cells
      obtain ⟨f0, f1, f2⟩ := hk.free
      have hgx := hk.lt
      rcases out_split HL.out q with ⟨e1, e2⟩ | ⟨z, z1, z2, z3, z4, z5, z6, z7⟩
      · have hx : outOf ps l q < 0 := by omega
        have HE : Hid (es = endsOf l p) := Lib.hid (by rw [← he, e2, List.append_nil])
        have HO := Lib.hid hown
        have HB := Lib.hid hbel
        clear hown hbel hk he e1 e2 f0 f1 f2
        generalize outOf ps l q = y at *
        go_wp2
        go_ret
        exact ⟨_, rfl, by rw [← HE.out]; exact own_base HO.out (by omega), HB.out⟩
      · have hx : 0 ≤ outOf ps l q := by rw [z5]; exact (place_nonneg ps z).2 z3
        have hlen : es.length + (tailE l q).length = (endsOf l p).length := by rw [← he, List.length_append]
        have HLT : Hid (0 < (tailE l q).length) := Lib.hid (by rw [z6, ends_split, if_pos (own_pos.2 ⟨z2, z1⟩)]; simp)
        have hlt2 := HLT.out
        have hel := HEL.out
        have HC : Hid (Calls Tryz.prog 92 #[.pointer (some ⟨t, 0, none⟩), .int .i64 (outOf ps l q)] wr fun e w' => e = .returned (.agg #[.int .i64 (failOf ps z), .int .i64 (outOf ps l z), .int .i64 (own l z : Int)]) ∧ Below wr.heap.size wr w') := Lib.hid (by
          have := HAT.out wr (outOf ps l q) hbel
          rw [z5] at this ⊢
          rwa [lkAt_place l z3] at this)
        have HE : Hid ((es ++ [(own l z : Int)]) ++ tailE l z = endsOf l p) := Lib.hid (by
          rw [← he, z6, ends_split l z, if_pos (own_pos.2 ⟨z2, z1⟩)]
          simp)
        have HO := Lib.hid hown
        have HB := Lib.hid hbel
        have HK := Lib.hid hk
        clear hown hbel hk he z1 z2 z3 z4 z5 z6 z7
        obtain ⟨av, cv, rfl, _, _⟩ := own_is HO.out
        generalize outOf ps l q = y at *
        generalize failOf ps q = y0 at *
        generalize own l q = y2 at *
        go_wp2_with (first
          | (go_at_call 92; (with_reducible refine HC.out.mono ?_); rintro e w5 ⟨rfl, hb⟩; have HB2 := Lib.hid hb; clear hb; have hk2 := HK.out.keep HB2.out hgx; obtain ⟨d0, d1, d2⟩ := hk2.cells; obtain ⟨g0, g1, g2⟩ := hk2.free; have hgx2 := hk2.lt; have HK2 := Lib.hid hk2; clear hk2)
          | (at_builtin; refine app_is rfl _ _ rfl (gx + 1) _ _ es (own l z : Int) rfl ((own_put3 (own_keep HO.out HB2.out) (Nat.lt_succ_self gx)).alloc _) ⟨w5.heap.size, 0, none⟩ rfl (cell_new_at _ _ (by simp)) (by omega) (by simp; omega) ?_; intro v3 w3 hown3 hg3))
        have hb3 : Below w.heap.size w (put3 w5 gx (.int .i64 (failOf ps z)) (.int .i64 (outOf ps l z)) (.int .i64 (own l z : Int))) := below_put3 (HB.out.trans (HB2.out.mono HB.out.size)) hgw _ _ _
        have hk3 : Blk3 w3 gx 141 (.int .i64 (failOf ps z)) (.int .i64 (outOf ps l z)) (.int .i64 (own l z : Int)) := (hg3.block _ (by simp; omega) (own_far HO.out gx (Nat.lt_succ_self gx))).trans ((Below.heap_alloc _ _ _ (by simp; omega)).trans (HK2.out.put _ _ _))
        refine ⟨⟨es ++ [(own l z : Int)], z, HE.out, hk3, by rw [List.length_append]; exact hown3, (hb3.alloc hb3.size _).grown hg3 (by have := hb3.size; simp [put3] at this ⊢; omega) (fun k hk => by have := own_ge HO.out hk; omega)⟩, ?_⟩
        obtain ⟨g3, cap3, rfl⟩ := own_succ hown3
        simp [lenOf]
        omega
/-! What an append to pairs of the call's own leaves. -/
theorem ne52 {w : World} {r : Option Nat} (hr : ∀ g, r = some g → ∃ cs fr, w.heap[g]? = some (.cells cs 57 fr)) {k : Nat} {cs : Array Value} {t : TypeId} {fr : Nat × Nat} (h : w.heap[k]? = some (.cells cs t fr)) (ht : t ≠ 57) : some k ≠ r := fun e => by
  obtain ⟨cs', fr', h'⟩ := hr k e.symm
  rw [h] at h'
  obtain ⟨_, e2, _⟩ := Obj.cells.inj (Option.some.inj h')
  exact ht e2
theorem tx_far {w w' : World} {r : Option Nat} {s t : Nat} {p : Option Addr} {l : Tx} (h : Met.Tx w s t p l) (hg : w.grownBy w' r) (hr : ∀ g, r = some g → ∃ cs fr, w.heap[g]? = some (.cells cs 57 fr)) : Met.Tx w' s t p l := by
  obtain ⟨h1, a, cap, h2, h3⟩ := h
  exact ⟨h1, a, cap, h2.same (hg.block _ h2.lt (ne52 hr h2 (by decide))), txt_grown h3 hg fun r' cs fr e he => ne52 hr he (by decide) e.symm⟩
theorem tb_far {w w' : World} {r : Option Nat} {s t : Nat} {p : Option Addr} {l : List Rw} (h : Met.Tb w s t p l) (hg : w.grownBy w' r) (hr : ∀ g, r = some g → ∃ cs fr, w.heap[g]? = some (.cells cs 57 fr)) : Met.Tb w' s t p l := by
  obtain ⟨h1, v, g, n, h2, h3, h4⟩ := h
  exact ⟨h1, v, g, n, h2.same (hg.block _ h2.lt (ne52 hr h2 (by decide))), (hg.block _ (txt_lt h3) (ne52 hr h3 (by decide))).trans h3, h4.same (hg.block _ h4.lt fun e => by
    obtain ⟨cs, fr, h'⟩ := hr g e.symm
    exact h4.not h')⟩
theorem mt_far {w w' : World} {r : Option Nat} {p : Option Addr} {a b c d : Int} (h : Met.Mt w p a b c d) (hg : w.grownBy w' r) (hr : ∀ g, r = some g → ∃ cs fr, w.heap[g]? = some (.cells cs 57 fr)) : Met.Mt w' p a b c d := by
  rcases h with e | ⟨g, e, h⟩
  · exact .inl e
  · exact .inr ⟨g, e, h.same (hg.block _ h.lt (ne52 hr h (by decide)))⟩
/-- Two handles of one meter, and what it has counted. -/
def Sc (w : World) (p : Option Addr) (ps : List Tx) (line : Tx) (s1 tx s2 tb : Nat) (a b e d : Int) (wr : World) : Prop :=
  Met.Tx wr s1 tx p line ∧ Met.Tb wr s2 tb p (edges ps) ∧ Met.Mt wr p a b e d ∧ w.grownBy wr (Met.blk p)
theorem Sc.keep {w wr w' : World} {p : Option Addr} {ps : List Tx} {line : Tx} {s1 tx s2 tb : Nat} {a b e d : Int} (h : Sc w p ps line s1 tx s2 tb a b e d wr) (hb : Below wr.heap.size wr w') : Sc w p ps line s1 tx s2 tb a b e d w' :=
  ⟨h.1.keep hb, h.2.1.keep hb, h.2.2.1.keep hb, h.2.2.2.trans ((grown_of_below hb).but _)⟩
theorem Sc.adds {w wr w' : World} {p : Option Addr} {ps : List Tx} {line : Tx} {s1 tx s2 tb : Nat} {a b e d a' b' e' d' : Int} (h : Sc w p ps line s1 tx s2 tb a b e d wr) (hg : wr.grownBy w' (Met.blk p)) (hM : Met.Mt w' p a' b' e' d') : Sc w p ps line s1 tx s2 tb a' b' e' d' w' :=
  ⟨h.1.adds hg h.2.2.1, h.2.1.adds hg h.2.2.1, hM, h.2.2.2.trans hg⟩
theorem Sc.far {w wr w' : World} {p : Option Addr} {ps : List Tx} {line : Tx} {s1 tx s2 tb : Nat} {a b e d : Int} {v : Value} {n : Nat} {xs : List Value} (h : Sc w p ps line s1 tx s2 tb a b e d wr) (ho : wr.ownsRow w.heap.size 57 2 v n xs) (hg : wr.grownBy w' v.ownBlock) : Sc w p ps line s1 tx s2 tb a b e d w' := by
  have hr : ∀ g, v.ownBlock = some g → ∃ cs fr, wr.heap[g]? = some (.cells cs 57 fr) := fun g hg => by
    obtain ⟨_, _, cs, hh⟩ := own_block_lt ho hg
    exact ⟨cs, _, hh⟩
  exact ⟨tx_far h.1 hg hr, tb_far h.2.1 hg hr, mt_far h.2.2.1 hg hr, h.2.2.2.andThen hg fun j hj => .inl (own_ge ho hj)⟩
/-! Step. -/
end Go.Proofs.YtcbhjhhajeeimaaGreat.Spa
/- Scan. -/
namespace Go.Proofs.YtcbhjhhajeeimaaGreat.Spa
open Go.RowKit Go.Maps
open Go.Proofs.YtcbhjhhajeeimaaGreat.Tri Go.Proofs.YtcbhjhhajeeimaaGreat.Lnk Go.Proofs.YtcbhjhhajeeimaaGreat.Reg Go.Proofs.YtcbhjhhajeeimaaGreat.Prs
set_option maxRecDepth 100000
theorem scan_nil (w : World) (p : Option Addr) (a : Option Addr) (n cap : Nat) : Calls Tryz.prog 125 #[.pointer none, .pointer p, .slice a n cap] w fun e w' => e = .returned (.slice none 0 0) ∧ w = w' := by
  have HS := Lib.hid (states_none w)
  go_enter Tryz.func125, Tryz.ntmps125
  go_wp2_with (go_at_call 126; (with_reducible refine HS.out.mono ?_); rintro e w2 ⟨rfl, rfl⟩)
  go_ret
  exact ⟨rfl, rfl⟩
theorem row_len (l : List Tx) (t : Tx) : (rowOf l t).length ≤ t.length := by
  rw [rowOf, List.length_map]; exact ends_len l t
theorem hits_len (l : List Tx) (line : Tx) (m : Nat) (hm : line.length ≤ m) : ∀ k, (hitsTo l line k).length ≤ k * m
  | 0 => by simp [hitsTo]
  | k + 1 => by
    have h1 := hits_len l line m hm k
    have h2 := row_len l (line.take (k + 1))
    have h3 : (line.take (k + 1)).length ≤ m := by rw [List.length_take]; omega
    rw [hitsTo, List.length_append, Nat.succ_mul]; omega
theorem row_snoc (l : List Tx) (t : Tx) (j : Nat) (h : j < (endsOf l t).length) : (rowOf l t).take (j + 1) = (rowOf l t).take j ++ [⟨(t.length : Int) - (endsOf l t)[j], (t.length : Int)⟩] := by
  have h2 : j < (rowOf l t).length := by rw [rowOf, List.length_map]; exact h
  rw [List.take_succ_eq_append_getElem h2]
  simp [rowOf]
theorem row_all (l : List Tx) (t : Tx) : (rowOf l t).take (endsOf l t).length = rowOf l t := List.take_of_length_le (by rw [rowOf, List.length_map]; exact Nat.le_refl _)
theorem ends_bound (l : List Tx) (t : Tx) (j : Nat) (h : j < (endsOf l t).length) : 1 ≤ (endsOf l t)[j] ∧ (endsOf l t)[j] ≤ (t.length : Int) := by
  obtain ⟨k, h1, _, e⟩ := (mem_ends l (endsOf l t)[j] t).1 (List.getElem_mem h)
  omega
theorem own_is' {w : World} {base n : Nat} {v : Value} {l : List Int} (h : w.ownsRow base 3 1 v n (ivals l)) : ∃ a cap, v = .slice a l.length cap := by
  obtain ⟨a, cap, e, _⟩ := own_is h
  exact ⟨a, cap, e⟩
theorem is_cell {w : World} {base n cap : Nat} {a : Option Addr} {l : List Int} (h : w.ownsRow base 3 1 (.slice a l.length cap) n (ivals l)) (j : Nat) (hj : j < l.length) : ∃ b off, a = some ⟨b, off, none⟩ ∧ w.cell? ⟨b, off + j, none⟩ = some (.int .i64 l[j]) := by
  obtain ⟨a', cap', e, hi, _⟩ := own_is h
  cases e
  obtain ⟨b, off, e, _, hc⟩ := hi (by omega)
  exact ⟨b, off, e, hc j hj⟩
theorem is_far {w w' : World} {base base2 n n2 : Nat} {v v2 : Value} {xs ys : List Value} (h : w.ownsRow base 3 1 v n xs) (h2 : w.ownsRow base2 57 2 v2 n2 ys) (hg : w.grownBy w' v2.ownBlock) : w'.ownsRow base 3 1 v n xs := by
  refine h.kept hg ?_
  cases hv : v.ownBlock with
  | none => exact Or.inl rfl
  | some g =>
    obtain ⟨_, _, cs, hh⟩ := own_block_lt h hv
    refine Or.inr fun e => ?_
    obtain ⟨_, _, cs2, hh2⟩ := own_block_lt h2 e.symm
    rw [hh] at hh2
    simp at hh2
/-- What Scan gives. -/
def Scans (w : World) (p : Option Addr) (out : List Pr) (a b e d : Int) (x : Ending) (w' : World) : Prop :=
  ∃ A cap, x = .returned (.slice A out.length cap) ∧ Ps w' w'.heap.size A out ∧ (A = none → cap = 0) ∧ Met.Mt w' p a b e d ∧ w.grownBy w' (Met.blk p)
/-- The same, with room. -/
def ScansC (w : World) (p : Option Addr) (out : List Pr) (a b e d : Int) (x : Ending) (w' : World) : Prop :=
  ∃ A cap, x = .returned (.slice A out.length cap) ∧ Ps w' w'.heap.size A out ∧ (A = none → cap = 0) ∧ Met.Mt w' p a b e d ∧ w.grownBy w' (Met.blk p) ∧ out.length ≤ cap
theorem ScansC.less {w w' : World} {p : Option Addr} {out : List Pr} {a b e d : Int} {x : Ending} (h : ScansC w p out a b e d x w') : Scans w p out a b e d x w' := by
  obtain ⟨A, cap, h1, h2, h3, h4, h5, _⟩ := h
  exact ⟨A, cap, h1, h2, h3, h4, h5⟩
set_option maxHeartbeats 8000000 in
theorem scan_full (w : World) (t : Nat) (ps l : List Tx) (hA : Au w t ps l) (p : Option Addr) (line : Tx) (al : Option Addr) (cl : Nat) (hb : Bs w w.heap.size al line) (hl : line.length ≤ 1000) (a b e d : Int) (hM : Met.Mt w p a b e d)
    (ha : 0 ≤ a ∧ a ≤ 1000000000) (hb' : 0 ≤ b ∧ b ≤ 1000000000) (hc : 0 ≤ e ∧ e ≤ 1000000000000) (hd : 0 ≤ d ∧ d ≤ 1000000000000) :
    Calls Tryz.prog 125 #[.pointer (some ⟨t, 0, none⟩), .pointer p, .slice al line.length cl] w (ScansC w p (scanOf l line) (a + (line.length : Int)) (b + (looksTo ps line line.length : Int)) e d) := by
  have HS := Lib.hid (states_any w t ps l hA)
  have HA := Lib.hid hA
  have HM := Lib.hid hM
  have HW := Lib.hid hA.1
  have HLP := Lib.hid hA.2.1
  have hn := hA.2.2.1
  have hpos := hA.1.pos
  have HTX : Hid (∀ X, Below w.heap.size w X → Calls Tryz.prog 127 #[.pointer p, .slice al line.length cl] X (Met.GivesTx X p line)) := Lib.hid fun X hX => Met.text_any X p line al cl (by omega) ((hb.keep hX).more hX.size)
  obtain ⟨tt, lt, v, hB, _, hL, hO⟩ := hA.2.2.2.2
  obtain ⟨ae, ce, rfl, hR⟩ := own_rs hO rfl
  obtain ⟨c0, c1, c2⟩ := hB.cells
  have HLD : Hid (∀ X, Below w.heap.size w X → X.cell? ⟨t, 2, none⟩ = some (.slice ae (edges ps).length ce)) := Lib.hid fun X hX => (hB.keep hX hB.lt).cells.2.2
  have HTB : Hid (∀ X, Below w.heap.size w X → Calls Tryz.prog 128 #[.pointer p, .slice ae (edges ps).length ce] X (Met.GivesTb X p (edges ps))) := Lib.hid fun X hX => Met.sparse_any X p (edges ps) ae ce (edges_len ps hn) ((hR.keep hX).more hX.size) (edges_wf ps hn _ (Nat.le_refl _))
  have HB0 := Lib.hid (Below.refl w.heap.size w)
  have hz : ((ps.length : Int) == 0) = false := by rw [beq_eq_false_iff_ne]; omega
  clear hB hO hR hL hM hA hb c0 c1 c2
  go_enter Tryz.func125, Tryz.ntmps125
  go_wp2_with (go_at_call 126; (with_reducible refine HS.out.mono ?_); rintro e w2 ⟨rfl, rfl⟩)
  refine wp_region_held_drew (S := fun w' => Below w.drew.heap.size w.drew w') (by kernel_rfl) (Below.refl _ _) (fun hH0 => ?_)
  have B0 := Lib.hid (below_drews HB0.out 1)
  change Hid (Below _ _ w.drew) at B0
  generalize w.drew = x0 at *
  refine held_take (i := 0) (d := 17) (oi := _) (v := ?_) rfl rfl (by kernel_rfl) (by kernel_rfl) (by kernel_rfl) (fun _ _ _ h => h) (Or.inl ⟨by rfl, ?_⟩) (by assumption) ?_
  rotate_left
  · (intro w hSw; clear hSw; go_simp; (try with_reducible rfl))
  simp only [Act.put, List.setIfInBounds_toArray, List.set_cons_zero, List.set_cons_succ]
  refine held_take (i := 1) (d := 18) (oi := _) (v := ?_) rfl rfl (by kernel_rfl) (by kernel_rfl) (by kernel_rfl) (fun _ _ _ h => h) (Or.inl ⟨by rfl, ?_⟩) (by assumption) ?_
  rotate_left
  · (intro w hSw; clear hSw; go_simp; (try with_reducible rfl))
  simp only [Act.put, List.setIfInBounds_toArray, List.set_cons_zero, List.set_cons_succ]
  refine held_take (i := 3) (d := 20) (oi := _) (v := ?_) rfl rfl (by kernel_rfl) (by kernel_rfl) (by kernel_rfl) (fun _ _ _ h => h) (Or.inl ⟨by rfl, ?_⟩) (by assumption) ?_
  rotate_left
  · (intro w hSw; clear hSw; go_simp; (try with_reducible rfl))
  simp only [Act.put, List.setIfInBounds_toArray, List.set_cons_zero, List.set_cons_succ]
  refine held_take (i := 4) (d := 21) (oi := _) (v := ?_) rfl rfl (by kernel_rfl) (by kernel_rfl) (by kernel_rfl) (fun _ _ _ h => h) (Or.inl ⟨by rfl, ?_⟩) (by assumption) ?_
  rotate_left
  · (intro w hSw; clear hSw; go_simp; (try with_reducible rfl))
  simp only [Act.put, List.setIfInBounds_toArray, List.set_cons_zero, List.set_cons_succ]
  refine held_take (i := 5) (d := 22) (oi := _) (v := ?_) rfl rfl (by kernel_rfl) (by kernel_rfl) (by kernel_rfl) (fun _ _ _ h => h) (Or.inl ⟨by rfl, ?_⟩) (by assumption) ?_
  rotate_left
  · (intro w hSw; clear hSw; go_simp; (try with_reducible rfl))
  simp only [Act.put, List.setIfInBounds_toArray, List.set_cons_zero, List.set_cons_succ]
  refine held_take (i := 6) (d := 23) (oi := _) (v := ?_) rfl rfl (by kernel_rfl) (by kernel_rfl) (by kernel_rfl) (fun _ _ _ h => h) (Or.inl ⟨by rfl, ?_⟩) (by assumption) ?_
  rotate_left
  · (intro w hSw; clear hSw; go_simp; (try with_reducible rfl))
  simp only [Act.put, List.setIfInBounds_toArray, List.set_cons_zero, List.set_cons_succ]
  refine held_take (i := 7) (d := 24) (oi := _) (v := ?_) rfl rfl (by kernel_rfl) (by kernel_rfl) (by kernel_rfl) (fun _ _ _ h => h) (Or.inl ⟨by rfl, ?_⟩) (by assumption) ?_
  rotate_left
  · (intro w hSw; have hld := HLD.out w (B0.out.trans (hSw.mono B0.out.size)); clear hSw; go_simp; (try with_reducible rfl))
  simp only [Act.put, List.setIfInBounds_toArray, List.set_cons_zero, List.set_cons_succ]
  refine wpAnyH_ready (rs := [2]) (by kernel_rfl) (by simp) ?_
  refine AllReadyH.cons rfl (fun K hK => ?_) AllReadyH.nil
  go_simp
  go_wp2_with (go_at_call 127; (with_reducible refine (HTX.out _ B0.out).mono ?_); rintro e x1 ⟨tx, rfl, htx, hb⟩)
  have X1 := Lib.hid htx
  clear htx
  refine hK.out _ _ hb (fun _ => ?_)
  have B1 := Lib.hid (B0.out.trans (hb.mono B0.out.size))
  refine wpAnyH_more (S' := fun w' => Below x1.heap.size x1 w') (fun w' h => hb.trans (h.mono hb.size)) _ _ _ _ ?_
  have hH1 : Below x1.heap.size x1 x1 := Below.refl _ _
  clear hK K hH0 hb B0
  refine wpAnyH_ready (rs := [8]) (by kernel_rfl) (by simp) ?_
  refine AllReadyH.cons rfl (fun K hK => ?_) AllReadyH.nil
  go_simp
  go_wp2_with (go_at_call 128; (with_reducible refine (HTB.out _ B1.out).mono ?_); rintro e x2 ⟨tb, rfl, htb, hb⟩)
  have X2 := Lib.hid htb
  have X3 := Lib.hid (X1.out.keep hb)
  clear htb X1
  refine hK.out _ _ hb (fun _ => ?_)
  have B2 := Lib.hid (B1.out.trans (hb.mono B1.out.size))
  refine wpAnyH_more (S' := fun w' => Below x2.heap.size x2 w') (fun w' h => hb.trans (h.mono hb.size)) _ _ _ _ ?_
  have hH2 : Below x2.heap.size x2 x2 := Below.refl _ _
  clear hK K hH1 hb B1
  refine held_take (i := 9) (d := 7) (oi := _) (v := ?_) rfl rfl (by kernel_rfl) (by kernel_rfl) (by kernel_rfl) (fun _ _ _ h => h) (Or.inl ⟨by rfl, ?_⟩) (by assumption) ?_
  rotate_left
  · (intro w hSw; clear hSw; go_simp; (try with_reducible rfl))
  simp only [Act.put, List.setIfInBounds_toArray, List.set_cons_zero, List.set_cons_succ]
  refine held_take (i := 10) (d := 8) (oi := _) (v := ?_) rfl rfl (by kernel_rfl) (by kernel_rfl) (by kernel_rfl) (fun _ _ _ h => h) (Or.inl ⟨by rfl, ?_⟩) (by assumption) ?_
  rotate_left
  · (intro w hSw; clear hSw; go_simp; (try with_reducible rfl))
  simp only [Act.put, List.setIfInBounds_toArray, List.set_cons_zero, List.set_cons_succ]
  refine wpAnyH_done (by kernel_rfl) ?_ _
  have HS0 : Hid (Sc w p ps line x0.heap.size tx x1.heap.size tb a b e d x2) := Lib.hid ⟨X3.out, X2.out, HM.out.keep B2.out, (grown_of_below B2.out).but _⟩
  have hsz0 := B2.out.size
  clear X2 X3 HTX HTB HLD HB0 HS hH2
  generalize x0.heap.size = s1 at *
  generalize x1.heap.size = s2 at *
  have HLEN := Lib.hid (Met.len_some x2 s1 tx p line HS0.out.1)
  go_wp2_with (go_at_call 129; (with_reducible refine HLEN.out.mono ?_); rintro e w2 ⟨rfl, rfl⟩)
  go_loopw [9, 10, 28] (fun v st i wr => ∃ k : Nat, k ≤ line.length ∧ i = .int .i64 (k : Int) ∧ st = .int .i64 (place ps (longT ps (line.take k))) ∧ wr.ownsRow w.heap.size 57 2 v (hitsTo l line k).length (cellsOf (hitsTo l line k)) ∧ Sc w p ps line s1 tx s2 tb (a + (k : Int)) (b + (looksTo ps line k : Int)) e d wr) (fun _ _ i _ => line.length - (intOf i).toNat)
  case atStart => exact ⟨0, by omega, rfl, by rw [List.take_zero, longT, place_nil HW.out], World.ownsRow_nil _ _ _ _, by simpa [looksTo] using HS0.out⟩
  case round =>
    obtain ⟨k, hk, rfl, rfl, hown, hsc⟩ := hrel
    have HO := Lib.hid hown
    have HSC := Lib.hid hsc
    clear hown hsc
    have hhl := hits_len l line 1000 hl k
    by_cases hlt : k < line.length
    · have hlt2 : (k : Int) < (line.length : Int) := by omega
      have hlb := (looks_bound HW.out line (k + 1) (by omega)).2
      have hle := looksTo_succ ps line k hlt
      have HLE := Lib.hid hle
      have HST := Lib.hid (long_take HW.out line k hlt)
      have HQM := Lib.hid (longT_mem HW.out (line.take k))
      have hwr : IntKind.u8.wrap (line[k].toNat : Int) = (line[k].toNat : Int) := by
        have := line[k].toNat_lt
        simp [IntKind.wrap, IntKind.bits, IntKind.signed]; omega
      have hbk : b + (looksTo ps line k : Int) + (stepN ps line[k] (longT ps (line.take k)) : Int) ≤ 1000000000000 := by omega
      have hbk0 : 0 ≤ b + (looksTo ps line k : Int) := by omega
      have hbk2 : b + (looksTo ps line k : Int) ≤ 1000000000000 := by omega
      clear hlb hle
      have HAT := Lib.hid (Met.at_in wr s1 tx p line HSC.out.1 k hlt (by omega) (a + (k : Int)) (b + (looksTo ps line k : Int)) e d HSC.out.2.2.1 (by omega) ⟨hbk0, hbk2⟩ hc hd)
      generalize line[k] = c at *
      generalize hqq : longT ps (line.take k) = q at *
      go_wp2_with (go_at_call 131; (with_reducible refine HAT.out.mono ?_); rintro e w3 ⟨rfl, hM3, hg3⟩; have HG3 := Lib.hid hg3; have HS3 := Lib.hid (HSC.out.adds hg3 hM3); have HA3 := Lib.hid (HA.out.adds HS3.out.2.2.2 HM.out); clear hM3 hg3; have HSTEP := Lib.hid (sstep_any w3 t ps l HA3.out s2 tb p HS3.out.2.1 q HQM.out c (a + (k : Int) + 1) (b + (looksTo ps line k : Int)) e d HS3.out.2.2.1 (by omega) ⟨hbk0, hbk⟩ hc hd))
      go_wp2_with (go_at_call 130; (with_reducible refine HSTEP.out.mono ?_); rintro e w4 ⟨rfl, hM4, hg4⟩; have HG4 := Lib.hid hg4; have HS4 := Lib.hid (HS3.out.adds hg4 hM4); have hA4 := HA.out.adds HS4.out.2.2.2 HM.out; clear hM4 hg4; obtain ⟨_, _, _, hdeep, tt4, lt4, v4, hB4, _, hL4, _⟩ := hA4; obtain ⟨c0, c1, c2⟩ := hB4.cells; have HE4 := Lib.hid (ends_own w4 0 lt4 ps l hL4 (place ps (stepT ps c q)) (pathD_le hdeep _)); clear hB4 hL4 hdeep c0 c2)
      have HES : Hid (endsOf l (pathD ps (place ps (stepT ps c q))) = endsOf l (line.take (k + 1))) := Lib.hid (by rw [pathD_place (stepT_mem HW.out c q), ← HST.out, ends_long HLP.out])
      rw [HES.out] at HE4
      have ht1 : (line.take (k + 1)).length = k + 1 := by rw [List.length_take]; omega
      have HRS : Hid (∀ j (h : j < (endsOf l (line.take (k + 1))).length), (rowOf l (line.take (k + 1))).take (j + 1) = (rowOf l (line.take (k + 1))).take j ++ [⟨(k : Int) + 1 - (endsOf l (line.take (k + 1)))[j], (k : Int) + 1⟩]) := Lib.hid fun j h => by
        rw [row_snoc l _ j h, ht1]; rfl
      have HBD : Hid (∀ j (h : j < (endsOf l (line.take (k + 1))).length), 1 ≤ (endsOf l (line.take (k + 1)))[j] ∧ (endsOf l (line.take (k + 1)))[j] ≤ (k : Int) + 1) := Lib.hid fun j h => by
        have := ends_bound l (line.take (k + 1)) j h
        rw [ht1] at this; exact this
      have HRA := Lib.hid (row_all l (line.take (k + 1)))
      have hrl := row_len l (line.take (k + 1))
      have hel := ends_len l (line.take (k + 1))
      rw [ht1] at hrl hel
      have HHK : Hid (hitsTo l line (k + 1) = hitsTo l line k ++ rowOf l (line.take (k + 1))) := Lib.hid rfl
      clear HES ht1
      generalize endsOf l (line.take (k + 1)) = es at *
      generalize rowOf l (line.take (k + 1)) = R at *
      go_wp2_with (go_at_call 132; (with_reducible refine HE4.out.mono ?_); rintro e w5 ⟨v5, rfl, ho5, hb5⟩; obtain ⟨a5, c5, rfl⟩ := own_is' ho5; have HI5 := Lib.hid ho5; have HB5 := Lib.hid hb5; clear ho5 hb5)
      have HS5 := Lib.hid (HS4.out.keep HB5.out)
      have HO5 := Lib.hid (own_keep (own_adds (own_adds HO.out HG3.out HSC.out.2.2.1 (by decide)) HG4.out HS3.out.2.2.1 (by decide)) HB5.out)
      clear HG3 HG4 HS4 HS3 HE4 HSTEP HA3 HAT HB5 c1
      go_loopw [9, 46] (fun v i wi => ∃ j : Nat, j ≤ es.length ∧ i = .int .i64 (j : Int) ∧ wi.ownsRow w.heap.size 57 2 v (hitsTo l line k ++ R.take j).length (cellsOf (hitsTo l line k ++ R.take j)) ∧ wi.ownsRow w4.heap.size 3 1 (.slice a5 es.length c5) es.length (ivals es) ∧ Sc w p ps line s1 tx s2 tb (a + (k : Int) + 1) (b + (looksTo ps line k : Int) + (stepN ps c q : Int)) e d wi) (fun _ i _ => es.length - (intOf i).toNat)
      case atStart => exact ⟨0, by omega, rfl, by simpa using HO5.out, HI5.out, HS5.out⟩
      case round =>
        obtain ⟨j, hj, rfl, ho, hi, hs⟩ := hrel
        have HO6 := Lib.hid ho
        have HI6 := Lib.hid hi
        have HS6 := Lib.hid hs
        clear ho hi hs
        have hsz6 := HS6.out.2.2.2.size
        have hrt : (R.take j).length ≤ 1000 := by rw [List.length_take]; omega
        by_cases hj2 : j < es.length
        · have hj3 : (j : Int) < (es.length : Int) := by omega
          obtain ⟨b6, off6, e6, hcell⟩ := is_cell HI6.out j hj2
          obtain ⟨hx1, hx2⟩ := HBD.out j hj2
          have HN6 := Lib.hid (HRS.out j hj2)
          subst e6
          generalize es[j] = x at *
          go_wp2_with (at_builtin; refine app_ps rfl _ _ rfl w.heap.size _ _ (hitsTo l line k ++ R.take j) rfl (HO6.out.alloc _) (some ⟨wr.heap.size, 0, none⟩) [⟨(k : Int) + 1 - x, (k : Int) + 1⟩] 1 (wr.heap.size + 1) rfl (by have := ps_one wr ⟨(k : Int) + 1 - x, (k : Int) + 1⟩ (0, 0); rwa [World.size_alloc] at this) (fun e => by cases e) (by simp only [List.length_append, List.length_cons, List.length_nil]; omega) (by simp; omega) ?_; intro v7 w7 hown7 hg7)
          go_roundw
          case rel =>
            have ba : Below wr.heap.size wr (wr.alloc (.cells #[.int .i64 ((k : Int) + 1 - x), .int .i64 ((k : Int) + 1)] 57)) := (Below.refl _ _).alloc (Nat.le_refl _) _
            refine ⟨j + 1, by omega, by go_num, ?_, is_far (own_keep HI6.out ba) (HO6.out.alloc _) hg7, (HS6.out.keep ba).far (HO6.out.alloc _) hg7⟩
            rw [HN6.out, ← List.append_assoc, List.length_append (bs := [_])]
            exact hown7
          case measure => simp [intOf]; omega
        · have hje : j = es.length := by omega
          have hj3 : ¬ (j : Int) < (es.length : Int) := by omega
          have HQ : Hid (hitsTo l line k ++ R.take j = hitsTo l line (k + 1)) := Lib.hid (by rw [hje, HRA.out, HHK.out])
          clear hje
          go_wp2
          go_roundw
          case rel =>
            refine ⟨k + 1, by omega, by go_num, by rw [HST.out], by rw [← HQ.out]; exact HO6.out, ?_⟩
            have e1 : a + ((k + 1 : Nat) : Int) = a + (k : Int) + 1 := by omega
            have e2 : b + (looksTo ps line (k + 1) : Int) = b + (looksTo ps line k : Int) + (stepN ps c q : Int) := by rw [HLE.out]; omega
            rw [e1, e2]; exact HS6.out
          case measure => simp [intOf]; omega
    · have hke : k = line.length := by omega
      have hk3 : ¬ (k : Int) < (line.length : Int) := by omega
      have HQ : Hid (norm (hitsTo l line k) = scanOf l line) := Lib.hid (by rw [hke, scanOf])
      have HQ2 : Hid (looksTo ps line k = looksTo ps line line.length) := Lib.hid (by rw [hke])
      have HQ3 : Hid ((k : Int) = (line.length : Int)) := Lib.hid (by rw [hke])
      clear hke
      obtain ⟨a8, c8, rfl, hc8, hn8, hp8⟩ := own_ps HO.out rfl
      have HSO := Lib.hid (sort_all (hitsTo l line k) a8 c8 wr (by omega) hp8 hc8 hn8)
      clear hp8 hn8
      go_wp2_with (go_at_call 40; (with_reducible refine HSO.out.mono ?_); rintro e w9 ⟨a9, c9, rfl, hc9, hn9, hp9, hb9⟩; have HB9 := Lib.hid hb9; have HP9 := Lib.hid hp9; clear hb9 hp9)
      go_ret
      have hs := HSC.out.keep HB9.out
      refine ⟨a9, c9, by rw [← HQ.out]; rfl, by rw [← HQ.out]; exact HP9.out, hn9, ?_, hs.2.2.2, by rw [← HQ.out]; exact hc9⟩
      rw [← HQ2.out, ← HQ3.out]; exact hs.2.2.1
theorem scan_any (w : World) (t : Nat) (ps l : List Tx) (hA : Au w t ps l) (p : Option Addr) (line : Tx) (al : Option Addr) (cl : Nat) (hb : Bs w w.heap.size al line) (hl : line.length ≤ 1000) (a b e d : Int) (hM : Met.Mt w p a b e d)
    (ha : 0 ≤ a ∧ a ≤ 1000000000) (hb' : 0 ≤ b ∧ b ≤ 1000000000) (hc : 0 ≤ e ∧ e ≤ 1000000000000) (hd : 0 ≤ d ∧ d ≤ 1000000000000) :
    Calls Tryz.prog 125 #[.pointer (some ⟨t, 0, none⟩), .pointer p, .slice al line.length cl] w (Scans w p (scanOf l line) (a + (line.length : Int)) (b + (looksTo ps line line.length : Int)) e d) :=
  (scan_full w t ps l hA p line al cl hb hl a b e d hM ha hb' hc hd).mono fun _ _ h => h.less
end Go.Proofs.YtcbhjhhajeeimaaGreat.Spa
/- The reference's Step, Looks, Longest; few. -/
namespace Go.Proofs.YtcbhjhhajeeimaaGreat.Spa
open Go.RowKit Go.Maps
open Go.Proofs.YtcbhjhhajeeimaaGreat.Tri Go.Proofs.YtcbhjhhajeeimaaGreat.Lnk Go.Proofs.YtcbhjhhajeeimaaGreat.Prs
set_option maxRecDepth 100000
theorem few_any (w : World) (a : Option Addr) (n c : Nat) : Calls Tryz.prog 10 #[.slice a n c] w fun e w' => e = .returned (.bool (decide (n ≤ 120))) ∧ w = w' := by
  by_cases h : n ≤ 120
  · rw [decide_eq_true h]
    have h2 : (n : Int) ≤ 120 := by omega
    go_enter Tryz.func10, Tryz.ntmps10
    go_wp2
    go_ret
    exact ⟨ret_bool (by simp), rfl⟩
  · rw [decide_eq_false h]
    have h2 : ¬ (n : Int) ≤ 120 := by omega
    go_enter Tryz.func10, Tryz.ntmps10
    go_wp2
    go_ret
    exact ⟨ret_bool (by simp), rfl⟩
set_option maxHeartbeats 8000000 in
theorem rstep_any (w : World) (ps : List Tx) (hw : Wf ps) (a : Option Addr) (cap : Nat) (hs : Ss w a ps) (hl : ps.length ≤ 1000000000) (s : Tx) (hsl : s.length ≤ 1000000) (c : UInt8) :
    Calls Tryz.prog 42 #[.slice a ps.length cap, .string (str s), .int .u8 (c.toNat : Int)] w fun e w' => e = .returned (.tuple #[.string (str (stepT ps c s)), .int .i64 (stepN ps c s : Int)]) ∧ Below w.heap.size w w' := by
  have HS := Lib.hid hs
  have HW := Lib.hid hw
  clear hs hw
  have hN0 := step_bound HW.out c _ s (Nat.le_refl _)
  go_enter Tryz.func42, Tryz.ntmps42
  go_wp2
  go_loopw [1, 8] (fun v n wr => ∃ (q : Tx) (k : Nat), q.length ≤ 1000000 ∧ v = .string (str q) ∧ n = .int .i64 ((k : Int) + 1) ∧ stepT ps c q = stepT ps c s ∧ stepN ps c s = stepN ps c q + k ∧ k + q.length ≤ s.length ∧ Below w.heap.size w wr) (fun v _ _ => match v with | .string b => b.size | _ => 0)
  case atStart => exact ⟨s, 0, hsl, rfl, rfl, rfl, rfl, by omega, Below.refl _ _⟩
  case round =>
    obtain ⟨q, k, hql, rfl, rfl, hs1, hs2, hkq, hbel⟩ := hrel
    have HB := Lib.hid hbel
    have HS1 := Lib.hid hs1
    have HS2 := Lib.hid hs2
    have hcv := conv_one wr c
    have hap := str_append q [c]
    have hz0 := str_size q
    have hz2 : (str [c]).size = 1 := str_size _
    have hb1 : Below w.heap.size w (wr.alloc (.cells #[.int .u8 (c.toNat : Int)] 5)) := hbel.alloc hbel.size _
    have HB1 := Lib.hid hb1
    have HP := Lib.hid (place_any _ ps a cap (HS.out.keep hb1) hl (q ++ [c]))
    clear hbel hs1 hs2 hb1
    by_cases hit : q ++ [c] ∈ ps
    · have h0 := (place_nonneg ps _).2 hit
      have HI := Lib.hid hit
      clear hit
      go_wp2_with (go_at_call 38; (with_reducible refine HP.out.mono ?_); rintro e w1 ⟨rfl, rfl⟩)
      refine bodyPost_ret (v := .tuple #[.string (str (q ++ [c])), .int .i64 ((k : Int) + 1)]) (by simp [results, Tryz.results42, go_sem]) rfl ?_
      have e1 : stepN ps c s = k + 1 := by rw [HS2.out, stepN_one (.inl HI.out)]; omega
      refine ⟨?_, HB1.out⟩
      rw [← HS1.out, stepT_hit HI.out, e1]; rfl
    · have h0 := (place_neg ps _).2 hit
      have HI := Lib.hid hit
      clear hit
      by_cases hn : q = []
      · have hem : (str q).toList.isEmpty = true := by rw [hn]; simp [str]
        have HN := Lib.hid hn
        clear hn
        go_wp2_with (go_at_call 38; (with_reducible refine HP.out.mono ?_); rintro e w1 ⟨rfl, rfl⟩)
        refine bodyPost_ret (v := .tuple #[.string (str []), .int .i64 ((k : Int) + 1)]) (by simp [results, Tryz.results42, go_sem, str]) rfl ?_
        have e1 : stepN ps c s = k + 1 := by rw [HS2.out, stepN_one (.inr HN.out)]; omega
        have e2 : stepT ps c q = [] := by
          have hi := HI.out
          rw [HN.out] at hi ⊢
          exact stepT_root (by simpa using hi)
        refine ⟨?_, HB1.out⟩
        rw [← HS1.out, e2, e1]; rfl
      · have hpos : 0 < q.length := List.length_pos_iff.2 hn
        have hem : (str q).toList.isEmpty = false := by
          cases q with
          | nil => exact absurd rfl hn
          | cons x q => simp [str]
        have HN := Lib.hid hn
        have HFT : Hid (fallT ps q = longT ps (q.drop 1)) := Lib.hid (by cases q with | nil => exact absurd rfl hn | cons x q => rfl)
        have HFL := Lib.hid (fallT_lt ps hn)
        clear hn
        go_wp2_with (go_at_call 38; (with_reducible refine HP.out.mono ?_); rintro e w1 ⟨rfl, rfl⟩)
        have HPA := Lib.hid (place_any _ ps a cap (HS.out.keep HB1.out) hl)
        clear HP hcv
        generalize wr.alloc (.cells #[.int .u8 (c.toNat : Int)] 5) = wa at *
        go_loopw [10] (fun v wi => wi = wa ∧ ∃ j : Nat, 1 ≤ j ∧ j ≤ q.length ∧ v = .int .i64 (j : Int) ∧ longT ps (q.drop j) = fallT ps q) (fun v _ => q.length - (intOf v).toNat)
        case atStart => exact ⟨rfl, 1, by omega, by omega, rfl, HFT.out.symm⟩
        case round =>
          obtain ⟨rfl, j, hj1, hj, rfl, he⟩ := hrel
          have hex := str_drop q j
          have HPL := Lib.hid (HPA.out (q.drop j))
          by_cases hm : q.drop j ∈ ps
          · have h9 := (place_nonneg ps _).2 hm
            rw [longT_of_mem hm] at he
            have HE := Lib.hid he
            have hld : (q.drop j).length = q.length - j := List.length_drop
            have HLD := Lib.hid hld
            clear he hm hld
            generalize q.drop j = y at *
            generalize place ps y = z at *
            go_wp2_with (go_at_call 38; (with_reducible refine HPL.out.mono ?_); rintro e w1 ⟨rfl, rfl⟩)
            go_roundw
            case rel =>
              refine ⟨y, k + 1, by rw [HLD.out]; omega, rfl, by go_num, ?_, ?_, by rw [HLD.out]; omega, HB1.out⟩
              · rw [HE.out, ← HS1.out, stepT_fall HW.out HI.out HN.out]
              · rw [HE.out, HS2.out, stepN_fall HI.out HN.out]; omega
            case measure =>
              show (str y).size < (str q).size
              rw [str_size, str_size, HLD.out]; omega
          · have h9 := (place_neg ps _).2 hm
            have hjl : j < q.length := by
              rcases Nat.lt_or_ge j q.length with h | h
              · exact h
              · exact absurd (by rw [List.drop_of_length_le h]; exact HW.out.nil_mem) hm
            rw [longT_drop ps q j hjl, if_neg hm] at he
            have HE := Lib.hid he
            clear he hm
            generalize place ps (q.drop j) = z at *
            go_wp2_with (go_at_call 38; (with_reducible refine HPL.out.mono ?_); rintro e w1 ⟨rfl, rfl⟩)
            go_roundw
            case rel => exact ⟨trivial, j + 1, by omega, by omega, by go_num, HE.out⟩
            case measure => simp [intOf]; omega
set_option maxHeartbeats 8000000 in
theorem rlooks_any (w : World) (ps : List Tx) (hw : Wf ps) (a : Option Addr) (cap : Nat) (hs : Ss w a ps) (hl : ps.length ≤ 1000000000) (s : Tx) (hsl : s.length ≤ 1000000) :
    Calls Tryz.prog 31 #[.slice a ps.length cap, .string (str s)] w fun e w' => e = .returned (.int .i64 (looksTo ps s s.length : Int)) ∧ Below w.heap.size w w' := by
  have HS := Lib.hid hs
  have HW := Lib.hid hw
  have hz := str_size s
  clear hs hw
  go_enter Tryz.func31, Tryz.ntmps31
  go_wp2
  go_loopw [5, 6, 7] (fun v n i wr => ∃ k : Nat, k ≤ s.length ∧ i = .int .i64 (k : Int) ∧ v = .string (str (longT ps (s.take k))) ∧ n = .int .i64 (looksTo ps s k : Int) ∧ Below w.heap.size w wr) (fun _ _ i _ => s.length - (intOf i).toNat)
  case atStart => exact ⟨0, by omega, rfl, rfl, rfl, Below.refl _ _⟩
  case round =>
    obtain ⟨k, hk, rfl, rfl, rfl, hbel⟩ := hrel
    have HB := Lib.hid hbel
    clear hbel
    by_cases hlt : k < s.length
    · have hlt2 : (k : Int) < (s.length : Int) := by omega
      have hlb := (looks_bound HW.out s (k + 1) (by omega)).2
      have HLE := Lib.hid (looksTo_succ ps s k hlt)
      have hle := HLE.out
      have hb3 : (looksTo ps s k : Int) + (stepN ps s[k] (longT ps (s.take k)) : Int) ≤ 3000000 := by omega
      have HST := Lib.hid (long_take HW.out s k hlt)
      have hq : (longT ps (s.take k)).length ≤ 1000000 := by
        have := longT_le ps (s.take k)
        rw [List.length_take] at this; omega
      have hat := str_at s k hlt
      have HC := Lib.hid (rstep_any wr ps HW.out a cap (HS.out.keep HB.out) hl (longT ps (s.take k)) hq s[k])
      clear hlb hle
      go_wp2_with (go_at_call 42; (with_reducible refine HC.out.mono ?_); rintro e w1 ⟨rfl, hb1⟩; have HB1 := Lib.hid hb1; clear hb1)
      refine ⟨⟨k + 1, by omega, by go_num, by rw [HST.out], ?_, HB.out.trans (HB1.out.mono HB.out.size)⟩, by simp [intOf]; omega⟩
      rw [HLE.out]; congr 1
    · have hke : k = s.length := by omega
      have hk3 : ¬ (k : Int) < (s.length : Int) := by omega
      have HQ : Hid (looksTo ps s k = looksTo ps s s.length) := Lib.hid (by rw [hke])
      clear hke
      go_wp2
      go_ret
      exact ⟨by rw [← HQ.out]; rfl, HB.out⟩
end Go.Proofs.YtcbhjhhajeeimaaGreat.Spa
/- The reference's Occ. -/
namespace Go.Proofs.YtcbhjhhajeeimaaGreat.Spa
open Go.RowKit Go.Maps
open Go.Proofs.YtcbhjhhajeeimaaGreat.Tri Go.Proofs.YtcbhjhhajeeimaaGreat.Lnk Go.Proofs.YtcbhjhhajeeimaaGreat.Prs
set_option maxRecDepth 100000
theorem str_mid (x : Tx) (i j : Nat) : (str x).extract i j = str ((x.take j).drop i) := by
  unfold str
  rw [ByteArray.extract_mk]
  simp [List.drop_take]
theorem run_mid (x : Tx) (i m : Nat) (h : i + m + 1 ≤ x.length) (w : World) : (Instr.slice 9 (.string (str x)) (some (.int .i64 (i : Int))) (some (.int .i64 ((i : Int) + (m : Int) + 1))) none).run Tryz.prog w = .ok (.string (str ((x.take (i + m + 1)).drop i))) w := by
  have hz := str_size x
  rw [run_slice_string (P := Tryz.prog) w 9 (str x) .i64 .i64 (i : Int) ((i : Int) + (m : Int) + 1) und9 (by omega) (by omega) (by rw [hz]; omega)]
  have e1 : (i : Int).toNat = i := by omega
  have e2 : ((i : Int) + (m : Int) + 1).toNat = i + m + 1 := by omega
  rw [e1, e2, str_mid]
theorem occRow_len (l : List Tx) (line : Tx) (i : Nat) : ∀ m, (occRow l line i m).length ≤ m
  | 0 => by simp [occRow]
  | m + 1 => by
    have := occRow_len l line i m
    rw [occRow, List.length_append]
    split <;> simp <;> omega
theorem occTo_len (l : List Tx) (line : Tx) : ∀ k, (occTo l line k).length ≤ k * line.length
  | 0 => by simp [occTo]
  | k + 1 => by
    have h1 := occTo_len l line k
    have h2 := occRow_len l line k (line.length - k)
    rw [occTo, List.length_append, Nat.succ_mul]; omega
set_option maxHeartbeats 8000000 in
theorem rocc_any (w : World) (line : Tx) (ws : List Tx) (a : Option Addr) (cap : Nat) (hs : Ss w a ws) (hw : ws.length ≤ 1000000) (hwl : ∀ x ∈ ws, x.length ≤ 1000000) (hl : line.length ≤ 1000) :
    Calls Tryz.prog 32 #[.string (str line), .slice a ws.length cap] w (Gives w (occTo ws line line.length)) := by
  have HS := Lib.hid hs
  have HWL := Lib.hid hwl
  have hz := str_size line
  clear hs hwl
  go_enter Tryz.func32, Tryz.ntmps32
  go_wp2
  go_loopw [5, 6] (fun v x wr => ∃ i : Nat, i ≤ line.length ∧ x = .int .i64 (i : Int) ∧ wr.ownsRow w.heap.size 57 2 v (occTo ws line i).length (cellsOf (occTo ws line i)) ∧ Below w.heap.size w wr) (fun _ x _ => line.length - (intOf x).toNat)
  case atStart => exact ⟨0, by omega, rfl, World.ownsRow_nil _ _ _ _, Below.refl _ _⟩
  case round =>
    obtain ⟨i, hi, rfl, ho, hb⟩ := hrel
    have HO := Lib.hid ho
    have HB := Lib.hid hb
    clear ho hb
    have hol := occTo_len ws line i
    have hol2 : i * line.length ≤ 1000 * 1000 := Nat.mul_le_mul (by omega) hl
    by_cases hlt : i < line.length
    · have hlt2 : (i : Int) < (line.length : Int) := by omega
      have HSU : Hid (occTo ws line (i + 1) = occTo ws line i ++ occRow ws line i (line.length - i)) := Lib.hid rfl
      go_wp2
      go_loopw [5, 7] (fun v x wm => ∃ m : Nat, i + m ≤ line.length ∧ x = .int .i64 ((i : Int) + (m : Int) + 1) ∧ wm.ownsRow w.heap.size 57 2 v (occTo ws line i ++ occRow ws line i m).length (cellsOf (occTo ws line i ++ occRow ws line i m)) ∧ Below w.heap.size w wm) (fun _ x _ => line.length + 1 - (intOf x).toNat)
      case atStart => exact ⟨0, by omega, by simp, by simpa [occRow] using HO.out, HB.out⟩
      case round =>
        obtain ⟨m, hm, rfl, ho, hb⟩ := hrel
        have HO1 := Lib.hid ho
        have HB1 := Lib.hid hb
        clear ho hb
        have hrl := occRow_len ws line i m
        by_cases hm2 : i + m + 1 ≤ line.length
        · have hm3 : (i : Int) + (m : Int) + 1 ≤ (line.length : Int) := by omega
          have HRS : Hid (occRow ws line i (m + 1) = occRow ws line i m ++ (if (line.take (i + m + 1)).drop i ∈ ws then [⟨(i : Int), (i : Int) + m + 1⟩] else [])) := Lib.hid rfl
          have hpl : ((line.take (i + m + 1)).drop i).length = m + 1 := by rw [List.length_drop, List.length_take]; omega
          have HPL := Lib.hid hpl
          have hrun := run_mid line i m hm2
          clear hpl
          generalize (line.take (i + m + 1)).drop i = y at *
          go_wp2
          go_loopw [8, 9] (fun v x wi => ∃ k : Nat, k ≤ ws.length ∧ x = .int .i64 (k : Int) ∧ v = .bool (decide (y ∈ ws.take k)) ∧ wi.ownsRow w.heap.size 57 2 u5 (occTo ws line i ++ occRow ws line i m).length (cellsOf (occTo ws line i ++ occRow ws line i m)) ∧ Below w.heap.size w wi) (fun v x _ => ws.length - (intOf x).toNat)
          case atStart => exact ⟨0, by omega, rfl, by simp, HO1.out, HB1.out⟩
          case round =>
            obtain ⟨k, hk, rfl, rfl, ho, hb⟩ := hrel
            have HO2 := Lib.hid ho
            have HB2 := Lib.hid hb
            have hsz2 := hb.size
            clear ho hb
            by_cases hk2 : k < ws.length
            · have hk3 : (k : Int) < (ws.length : Int) := by omega
              by_cases hin : y ∈ ws.take k
              · have hd := decide_eq_true hin
                rw [hd]
                have HIN : Hid (y ∈ ws) := Lib.hid (List.mem_of_mem_take hin)
                clear hin hd
                go_wp2_with (at_builtin; refine app_ps rfl _ _ rfl w.heap.size _ _ (occTo ws line i ++ occRow ws line i m) rfl (HO2.out.alloc _) (some ⟨wr.heap.size, 0, none⟩) [⟨(i : Int), (i : Int) + (m : Int) + 1⟩] 1 (wr.heap.size + 1) rfl (by have := ps_one wr ⟨(i : Int), (i : Int) + (m : Int) + 1⟩ (0, 0); rwa [World.size_alloc] at this) (fun e => by cases e) (by simp only [List.length_append, List.length_cons, List.length_nil]; omega) (by simp; omega) ?_; intro v7 w7 hown7 hg7)
                go_roundw
                case rel =>
                  refine ⟨m + 1, by omega, by go_num, ?_, (HB2.out.alloc hsz2 _).grown hg7 (by simp; omega) (fun j hj => own_ge HO2.out hj)⟩
                  rw [HRS.out, if_pos HIN.out, ← List.append_assoc, List.length_append (bs := [_])]
                  exact hown7
                case measure => simp [intOf]; omega
              · have hd := decide_eq_false hin
                rw [hd]
                have hne : ∀ x, x ∈ ws.take (k + 1) ↔ x ∈ ws.take k ∨ x = ws[k] := fun x => by rw [List.take_succ_eq_append_getElem hk2, List.mem_append, List.mem_singleton]
                have HNE := Lib.hid hne
                have HNI := Lib.hid hin
                obtain ⟨bs, os, es, hbs, hcs⟩ := (HS.out.keep HB2.out) (by omega)
                have hcell := hcs k hk2
                have hbd := HWL.out _ (List.getElem_mem hk2)
                have hzk := str_size ws[k]
                have hbq := str_beq y ws[k]
                clear hne hin hd hcs
                subst es
                generalize ws[k] = z at *
                by_cases hlen : z.length = m + 1
                · have hg1 : ((z.length : Int) == (i : Int) + (m : Int) + 1 - (i : Int)) = true := by simp; omega
                  clear hlen
                  go_wp2
                  go_quiet (fail)
                  go_wp2
                  go_roundw
                  case rel =>
                    refine ⟨k + 1, by omega, by go_num, ?_, own_keep HO2.out (below_drews (Below.refl _ _) nq), below_drews HB2.out nq⟩
                    congr 1
                    rw [Bool.eq_iff_iff, decide_eq_true_iff, decide_eq_true_iff, HNE.out]
                    exact ⟨fun h => .inr h, fun h => h.resolve_left HNI.out⟩
                  case measure => simp [intOf]; omega
                · have hg1 : ((z.length : Int) == (i : Int) + (m : Int) + 1 - (i : Int)) = false := by simp; omega
                  have HLN : Hid (y ≠ z) := Lib.hid (fun e => hlen (by rw [← e, HPL.out]))
                  clear hlen
                  go_wp2
                  go_quiet (fail)
                  go_wp2
                  go_roundw
                  case rel =>
                    refine ⟨k + 1, by omega, by go_num, ?_, own_keep HO2.out (below_drews (Below.refl _ _) nq), below_drews HB2.out nq⟩
                    congr 1
                    rw [eq_comm, decide_eq_false_iff_not, HNE.out]
                    exact fun h => h.elim HNI.out HLN.out
                  case measure => simp [intOf]; omega
            · have hke : k = ws.length := by omega
              have hk3 : ¬ (k : Int) < (ws.length : Int) := by omega
              have hall : ws.take k = ws := List.take_of_length_le (by omega)
              rw [hall]
              clear hke hall
              by_cases hin : y ∈ ws
              · have hd := decide_eq_true hin
                rw [hd]
                have HIN := Lib.hid hin
                clear hin hd
                go_wp2_with (at_builtin; refine app_ps rfl _ _ rfl w.heap.size _ _ (occTo ws line i ++ occRow ws line i m) rfl (HO2.out.alloc _) (some ⟨wr.heap.size, 0, none⟩) [⟨(i : Int), (i : Int) + (m : Int) + 1⟩] 1 (wr.heap.size + 1) rfl (by have := ps_one wr ⟨(i : Int), (i : Int) + (m : Int) + 1⟩ (0, 0); rwa [World.size_alloc] at this) (fun e => by cases e) (by simp only [List.length_append, List.length_cons, List.length_nil]; omega) (by simp; omega) ?_; intro v7 w7 hown7 hg7)
                go_roundw
                case rel =>
                  refine ⟨m + 1, by omega, by go_num, ?_, (HB2.out.alloc hsz2 _).grown hg7 (by simp; omega) (fun j hj => own_ge HO2.out hj)⟩
                  rw [HRS.out, if_pos HIN.out, ← List.append_assoc, List.length_append (bs := [_])]
                  exact hown7
                case measure => simp [intOf]; omega
              · have hd := decide_eq_false hin
                rw [hd]
                have HIN := Lib.hid hin
                clear hin hd
                go_wp2
                go_roundw
                case rel => exact ⟨m + 1, by omega, by go_num, by rw [HRS.out, if_neg HIN.out, List.append_nil]; exact HO2.out, HB2.out⟩
                case measure => simp [intOf]; omega
        · have hme : line.length - i = m := by omega
          have hm3 : ¬ (i : Int) + (m : Int) + 1 ≤ (line.length : Int) := by omega
          have HME : Hid (occTo ws line i ++ occRow ws line i m = occTo ws line (i + 1)) := Lib.hid (by rw [HSU.out, hme])
          clear hme
          go_wp2
          go_roundw
          case rel => exact ⟨i + 1, by omega, by go_num, by rw [← HME.out]; exact HO1.out, HB1.out⟩
          case measure => simp [intOf]; omega
    · have hie : i = line.length := by omega
      have hi3 : ¬ (i : Int) < (line.length : Int) := by omega
      have HIE : Hid (occTo ws line i = occTo ws line line.length) := Lib.hid (by rw [hie])
      clear hie
      obtain ⟨a8, c8, rfl, hc8, hn8, hp8⟩ := own_ps HO.out rfl
      have HP8 := Lib.hid hp8
      clear hp8
      go_wp2
      go_ret
      refine ⟨a8, c8, by rw [← HIE.out]; rfl, by rw [← HIE.out]; exact hc8, hn8, by rw [← HIE.out]; exact HP8.out, HB.out⟩
end Go.Proofs.YtcbhjhhajeeimaaGreat.Spa
/- The contract of 'awake': the document's example. -/
namespace Go.Proofs.YtcbhjhhajeeimaaGreat.Spa
open Go.RowKit Go.Maps
open Go.Proofs.YtcbhjhhajeeimaaGreat.Tri Go.Proofs.YtcbhjhhajeeimaaGreat.Lnk Go.Proofs.YtcbhjhhajeeimaaGreat.Prs
set_option maxRecDepth 100000
abbrev exl : List Tx := [[104, 101], [115, 104, 101]]
abbrev exp : List Tx := [[], [104], [104, 101], [115], [115, 104], [115, 104, 101]]
theorem ex_paths : paths exl = exp := by decide
theorem ex_wf : Wf exp := by rw [← ex_paths]; exact paths_wf _
abbrev ex1 : List Pr := [⟨1, 4⟩, ⟨2, 4⟩]
abbrev ex2 : List Pr := [⟨2, 4⟩]
theorem ex_scan1 : scanOf exl [117, 115, 104, 101] = ex1 := by decide
theorem ex_scan2 : scanOf exl [115, 104, 104, 101] = ex2 := by decide
theorem ex_looks1 : looksTo exp [117, 115, 104, 101] 4 = 4 := by
  have h0 : looksTo exp [117, 115, 104, 101] 1 = looksTo exp [117, 115, 104, 101] 0 + 1 := by
    have := looksTo_succ exp [117, 115, 104, 101] 0 (by decide)
    rw [stepN_one (by decide)] at this
    exact this
  have h1 : looksTo exp [117, 115, 104, 101] 2 = looksTo exp [117, 115, 104, 101] 1 + 1 := by
    have := looksTo_succ exp [117, 115, 104, 101] 1 (by decide)
    rw [stepN_one (by decide)] at this
    exact this
  have h2 : looksTo exp [117, 115, 104, 101] 3 = looksTo exp [117, 115, 104, 101] 2 + 1 := by
    have := looksTo_succ exp [117, 115, 104, 101] 2 (by decide)
    rw [stepN_one (by decide)] at this
    exact this
  have h3 : looksTo exp [117, 115, 104, 101] 4 = looksTo exp [117, 115, 104, 101] 3 + 1 := by
    have := looksTo_succ exp [117, 115, 104, 101] 3 (by decide)
    rw [stepN_one (by decide)] at this
    exact this
  rw [h3, h2, h1, h0]; rfl
theorem ex_looks2 : looksTo exp [115, 104, 104, 101] 4 = 6 := by
  have h0 : looksTo exp [115, 104, 104, 101] 1 = looksTo exp [115, 104, 104, 101] 0 + 1 := by
    have := looksTo_succ exp [115, 104, 104, 101] 0 (by decide)
    rw [stepN_one (by decide)] at this
    exact this
  have h1 : looksTo exp [115, 104, 104, 101] 2 = looksTo exp [115, 104, 104, 101] 1 + 1 := by
    have := looksTo_succ exp [115, 104, 104, 101] 1 (by decide)
    rw [stepN_one (by decide)] at this
    exact this
  have h2 : looksTo exp [115, 104, 104, 101] 3 = looksTo exp [115, 104, 104, 101] 2 + 3 := by
    have := looksTo_succ exp [115, 104, 104, 101] 2 (by decide)
    rw [stepN_fall (by decide) (by decide), stepN_fall (by decide) (by decide), stepN_one (by decide)] at this
    exact this
  have h3 : looksTo exp [115, 104, 104, 101] 4 = looksTo exp [115, 104, 104, 101] 3 + 1 := by
    have := looksTo_succ exp [115, 104, 104, 101] 3 (by decide)
    rw [stepN_one (by decide)] at this
    exact this
  rw [h3, h2, h1, h0]; rfl
theorem const_at (w : World) (g : Nat) (hg : g = w.heap.size) (C : Array Value) (n c : Nat) :
    (convert 23 23 (.slice (some ⟨g, 0, none⟩) n c)).run Tryz.prog (w.alloc (.cells C 5)) = .ok (.slice (some ⟨g, 0, none⟩) n c) (w.alloc (.cells C 5 (C.size, C.size + 1))) := by
  subst hg
  exact Lib.run_convert_bytes_const w 23 5 C n c Tryz.underlying23 Tryz.underlying5
theorem bs_lit_at (w : World) (g : Nat) (l : List UInt8) (fr : Nat × Nat) (cs : Array Value) (hg : g = w.heap.size) (hcs : cs = (l.map fun c => Value.int .u8 (c.toNat : Int)).toArray) :
    Bs (w.alloc (.cells cs 5 fr)) (w.alloc (.cells cs 5 fr)).heap.size (some ⟨g, 0, none⟩) l := by
  subst hg; exact bs_lit w l fr cs hcs
theorem below_new (w : World) (x : Obj) : Below w.heap.size w (w.alloc x) := (Below.refl _ _).alloc (Nat.le_refl _) _
theorem ex_far {X Y : World} {A : Option Addr} {g : Nat} (h : Ps X X.heap.size A ex1) (hM : Met.Cnt X g 4 4 0 0) (hg : X.grownBy Y (some g)) : Ps Y Y.heap.size A ex1 := fun h0 => by
  obtain ⟨b, off, e, hlt, hc⟩ := h h0
  have hb : b ≠ g := by
    rintro rfl
    have h1 := (hc 0 (by decide)).1
    rw [cell_of_row _ _ _ _ 71 (0, 0) hM] at h1
    rcases Nat.lt_or_ge off 4 with ho | ho
    · have : off = 0 ∨ off = 1 ∨ off = 2 ∨ off = 3 := by omega
      rcases this with rfl | rfl | rfl | rfl <;> simp at h1
    · rw [Array.getElem?_eq_none (by simp; omega)] at h1
      cases h1
  have ne : some b ≠ some g := fun e => hb (Option.some.inj e)
  exact ⟨b, off, e, Nat.lt_of_lt_of_le hlt hg.size, fun i hi => ⟨hg.cell (hc i hi).1 ne, hg.cell (hc i hi).2 ne⟩⟩
attribute [local go_sem ↓] Met.eql_counts
theorem ps_two (w : World) (p q : Pr) : Ps (w.alloc (.cells #[.int .i64 p.s, .int .i64 p.e, .int .i64 q.s, .int .i64 q.e] 57)) (w.alloc (.cells #[.int .i64 p.s, .int .i64 p.e, .int .i64 q.s, .int .i64 q.e] 57)).heap.size (some ⟨w.heap.size, 0, none⟩) [p, q] := fun _ => by
  refine ⟨w.heap.size, 0, rfl, by simp, fun i hi => ?_⟩
  have hh := heap_alloc_new w (.cells #[.int .i64 p.s, .int .i64 p.e, .int .i64 q.s, .int .i64 q.e] 57)
  have hi' : i < 2 := hi
  rw [cell_of_row _ _ _ _ 57 (0, 0) hh, cell_of_row _ _ _ _ 57 (0, 0) hh]
  rcases i with _ | _ | i
  · exact ⟨rfl, rfl⟩
  · exact ⟨rfl, rfl⟩
  · omega
abbrev exw (w : World) : World := ((w.alloc (.cells #[.int .u8 104, .int .u8 101] 5 (2, 3))).alloc (.cells #[.int .u8 115, .int .u8 104, .int .u8 101] 5 (3, 4))).alloc (.cells #[.slice (some ⟨w.heap.size, 0, none⟩) 2 2, .slice (some ⟨w.heap.size + 1, 0, none⟩) 3 3] 23)
def exx (w : World) : List TxV := [⟨[104, 101], some ⟨w.heap.size, 0, none⟩, 2, fun e => by cases e⟩, ⟨[115, 104, 101], some ⟨w.heap.size + 1, 0, none⟩, 3, fun e => by cases e⟩]
theorem ex_ts (w : World) : Ts (exw w) (some ⟨w.heap.size + 1 + 1, 0, none⟩) (exx w) := by
  refine ⟨fun _ => ⟨_, _, rfl, by simp, fun i hi => ?_⟩, fun x hx => ?_⟩
  · have hh : (exw w).heap[w.heap.size + 1 + 1]? = some (.cells #[.slice (some ⟨w.heap.size, 0, none⟩) 2 2, .slice (some ⟨w.heap.size + 1, 0, none⟩) 3 3] 23 (0, 0)) := by
      have := heap_alloc_new ((w.alloc (.cells #[.int .u8 104, .int .u8 101] 5 (2, 3))).alloc (.cells #[.int .u8 115, .int .u8 104, .int .u8 101] 5 (3, 4))) (.cells #[.slice (some ⟨w.heap.size, 0, none⟩) 2 2, .slice (some ⟨w.heap.size + 1, 0, none⟩) 3 3] 23)
      simpa using this
    rw [cell_of_row _ _ _ _ 23 (0, 0) hh]
    have hi' : i < 2 := hi
    rcases i with _ | _ | i
    · rfl
    · rfl
    · omega
  · have b1 := below_new w (.cells #[.int .u8 104, .int .u8 101] 5 (2, 3))
    have b2 := below_new (w.alloc (.cells #[.int .u8 104, .int .u8 101] 5 (2, 3))) (.cells #[.int .u8 115, .int .u8 104, .int .u8 101] 5 (3, 4))
    have b3 := below_new ((w.alloc (.cells #[.int .u8 104, .int .u8 101] 5 (2, 3))).alloc (.cells #[.int .u8 115, .int .u8 104, .int .u8 101] 5 (3, 4))) (.cells #[.slice (some ⟨w.heap.size, 0, none⟩) 2 2, .slice (some ⟨w.heap.size + 1, 0, none⟩) 3 3] 23)
    have k1 := bs_lit_at w w.heap.size [104, 101] (2, 3) #[.int .u8 104, .int .u8 101] rfl rfl
    have k2 := bs_lit_at (w.alloc (.cells #[.int .u8 104, .int .u8 101] 5 (2, 3))) (w.heap.size + 1) [115, 104, 101] (3, 4) #[.int .u8 115, .int .u8 104, .int .u8 101] (by simp) rfl
    simp only [exx, List.mem_cons, List.not_mem_nil, or_false] at hx
    rcases hx with rfl | rfl
    · exact ((((k1.keep b2).more b2.size).keep b3).more b3.size)
    · exact ((k2.keep b3).more b3.size)
theorem ex_below (w : World) : Below w.heap.size w (exw w) := (((Below.refl _ _).alloc (Nat.le_refl _) _).alloc (by simp) _).alloc (by simp; omega) _
theorem mt_grown (W w' : World) (g : Nat) (hg : W.heap.size ≤ g) (h : W.grownBy w' (some g)) : Below W.heap.size W w' := (Below.refl _ _).grown h (Nat.le_refl _) (fun k e => by obtain rfl := Option.some.inj e; exact hg)
end Go.Proofs.YtcbhjhhajeeimaaGreat.Spa
/- What the walks of layer 8 share. -/
namespace Go.Proofs.YtcbhjhhajeeimaaGreat.Spa
open Go.RowKit Go.Maps
open Go.Proofs.YtcbhjhhajeeimaaGreat.Tri Go.Proofs.YtcbhjhhajeeimaaGreat.Lnk Go.Proofs.YtcbhjhhajeeimaaGreat.Prs
set_option maxRecDepth 100000
theorem few_tot {xs : List TxV} (h0 : xs.length ≤ 12) (hx : ∀ x ∈ xs, x.text.length ≤ 40) : tot (xs.map TxV.text) ≤ 480 := by
  have := tot_le (xs.map TxV.text) 40 (fun x h => by
    obtain ⟨y, hy, rfl⟩ := List.mem_map.1 h
    exact hx y hy)
  rw [List.length_map] at this
  omega
theorem Mt.cnt {w : World} {g : Nat} {a b c d : Int} (h : Met.Mt w (some ⟨g, 0, none⟩) a b c d) : Met.Cnt w g a b c d := by
  rcases h with e | ⟨g', e, h⟩
  · cases e
  · cases e; exact h
theorem grown_below {g : Nat} {w X Y : World} (h : Below w.heap.size w X) (hg : X.grownBy Y (some g)) (hB : w.heap.size ≤ g) : Below w.heap.size w Y := h.grown hg h.size (fun k e => by obtain rfl := Option.some.inj e; exact hB)
theorem bs_grown {X Y : World} {B : Nat} {a : Option Addr} {l : Tx} {g : Nat} {c d e f : Int} (h : Bs X B a l) (hg : X.grownBy Y (some g)) (hM : Met.Cnt X g c d e f) : Bs Y B a l := Met.Bs.adds (p := some ⟨g, 0, none⟩) h hg (.inr ⟨g, rfl, hM⟩)
theorem cnt_new (w : World) : Met.Cnt (w.alloc (.cells #[.int .i64 0, .int .i64 0, .int .i64 0, .int .i64 0] 71)) w.heap.size 0 0 0 0 := Met.Blk4.new w 71 _ _ _ _
/-- A scan with a counter of one's own. -/
theorem scan_new (w : World) (t : Nat) (ps l : List Tx) (hA : Au w t ps l) (g : Nat) (line : Tx) (al : Option Addr) (cl : Nat) (hb : Bs w w.heap.size al line) (hl : line.length ≤ 1000) (a b : Nat) (hM : Met.Cnt w g (a : Int) (b : Int) 0 0) (ha : a ≤ 1000000) (hb' : b ≤ 1000000) :
    Calls Tryz.prog 125 #[.pointer (some ⟨t, 0, none⟩), .pointer (some ⟨g, 0, none⟩), .slice al line.length cl] w fun x w' => ∃ A cap, x = .returned (.slice A (scanOf l line).length cap) ∧ Ps w' w'.heap.size A (scanOf l line) ∧ Met.Cnt w' g ((a + line.length : Nat) : Int) ((b + looksTo ps line line.length : Nat) : Int) 0 0 ∧ w.grownBy w' (some g) := by
  refine (scan_any w t ps l hA (some ⟨g, 0, none⟩) line al cl hb hl (a : Int) (b : Int) 0 0 (.inr ⟨g, rfl, hM⟩) (by omega) (by omega) (by omega) (by omega)).mono ?_
  rintro x w' ⟨A, cap, e, hp, _, hM', hg⟩
  refine ⟨A, cap, e, hp, ?_, hg⟩
  have := Mt.cnt hM'
  rw [Int.natCast_add, Int.natCast_add]; exact this
/-- .. with none. -/
theorem scan_free (w : World) (t : Nat) (ps l : List Tx) (hA : Au w t ps l) (line : Tx) (al : Option Addr) (cl : Nat) (hb : Bs w w.heap.size al line) (hl : line.length ≤ 1000) :
    Calls Tryz.prog 125 #[.pointer (some ⟨t, 0, none⟩), .pointer none, .slice al line.length cl] w fun x w' => ∃ A cap, x = .returned (.slice A (scanOf l line).length cap) ∧ Ps w' w'.heap.size A (scanOf l line) ∧ (A = none → cap = 0) ∧ Below w.heap.size w w' := by
  refine (scan_any w t ps l hA none line al cl hb hl 0 0 0 0 (.inl rfl) (by omega) (by omega) (by omega) (by omega)).mono ?_
  rintro x w' ⟨A, cap, e, hp, hn, _, hg⟩
  exact ⟨A, cap, e, hp, hn, (Below.refl _ _).grown hg (Nat.le_refl _) (fun k e => by cases e)⟩
end Go.Proofs.YtcbhjhhajeeimaaGreat.Spa
