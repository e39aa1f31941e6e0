/- Mathematics of stage 17: what is found of a set, which errors there are, what is counted. -/
import Derived.Test.YtcbhjhhajeeimaaGreatGS
import Derived.Test.YtcbhjhhajeeimaaGreatGQ
namespace Go.Proofs.YtcbhjhhajeeimaaGreat.Eng
open Go.Proofs.YtcbhjhhajeeimaaGreat.Tri Go.Proofs.YtcbhjhhajeeimaaGreat.Lnk Go.Proofs.YtcbhjhhajeeimaaGreat.Prs Go.Proofs.YtcbhjhhajeeimaaGreat.Spa Go.Proofs.YtcbhjhhajeeimaaGreat.Pat
set_option maxRecDepth 100000
/-- The empty pieces that are found, of the texts that came. -/
def emp (l : List Tx) (line : Tx) : List Pr := if [] ∈ l then empties (line.length + 1) else []
/-- What is found of the texts that came. -/
def findOf (l : List Tx) (line : Tx) : List Pr := norm (scanOf l line ++ emp l line)
theorem scan_pats (l : List Tx) (line : Tx) : scanOf (pats l) line = scanOf l line := scan_congr (fun x hx => by rw [mem_pats]; exact ⟨fun h => h.1, fun h => ⟨h, hx⟩⟩) line
theorem rise_empties (n : Nat) : Rise (empties n) := rise_of_rising _ (empties_rise n)
theorem mem_empties (n : Nat) (p : Pr) : p ∈ empties n ↔ ∃ i : Nat, i < n ∧ p = ⟨(i : Int), (i : Int)⟩ := by
  unfold empties
  rw [List.mem_map]
  constructor
  · rintro ⟨i, hi, rfl⟩; exact ⟨i, List.mem_range.1 hi, rfl⟩
  · rintro ⟨i, hi, rfl⟩; exact ⟨i, List.mem_range.2 hi, rfl⟩
theorem rise_emp (l : List Tx) (line : Tx) : Rise (emp l line) := by
  unfold emp; split
  · exact rise_empties _
  · trivial
theorem find_put (l : List Tx) (line : Tx) : findOf l line = (emp l line).foldl put (scanOf l line) := by
  unfold findOf; rw [norm_append, norm_of_rise (rise_scan l line)]
theorem find_uni (l : List Tx) (line : Tx) : uni (scanOf l line) (emp l line) = findOf l line := by
  unfold findOf; rw [← uni_norm, norm_of_rise (rise_scan l line), norm_of_rise (rise_emp l line)]
theorem find_plain {l : List Tx} (h : [] ∉ l) (line : Tx) : findOf l line = scanOf l line := by
  unfold findOf emp; rw [if_neg h, List.append_nil, norm_of_rise (rise_scan l line)]
theorem find_congr {l m : List Tx} (h : ∀ x, x ∈ l ↔ x ∈ m) (line : Tx) : findOf l line = findOf m line := by
  unfold findOf emp
  rw [scan_congr (fun x _ => h x) line]
  congr 2
  by_cases h0 : ([] : Tx) ∈ l
  · rw [if_pos h0, if_pos ((h []).1 h0)]
  · rw [if_neg h0, if_neg fun e => h0 ((h []).2 e)]
theorem scan_length (l : List Tx) (line : Tx) (hl : line.length ≤ 1000) : (scanOf l line).length ≤ line.length * 1000 := by
  have h1 := norm_length (hitsTo l line line.length)
  have h2 : ∀ k, k ≤ line.length → (hitsTo l line k).length ≤ k * 1000 := fun k => by
    induction k with
    | zero => intro _; simp [hitsTo]
    | succ k ih =>
      intro hk
      have h3 := ih (by omega)
      have h4 := ends_len l (line.take (k + 1))
      rw [hitsTo, List.length_append, rowOf, List.length_map, Nat.succ_mul]
      rw [List.length_take] at h4
      omega
  have h3 := h2 line.length (Nat.le_refl _)
  unfold scanOf; omega
theorem find_length (l : List Tx) (line : Tx) (hl : line.length ≤ 1000) : (findOf l line).length ≤ line.length * 1000 + line.length + 1 := by
  have h1 := norm_length (scanOf l line ++ emp l line)
  have h2 := scan_length l line hl
  have h3 : (emp l line).length ≤ line.length + 1 := by
    unfold emp; split
    · rw [empties_length]; exact Nat.le_refl _
    · exact Nat.zero_le _
  unfold findOf
  rw [List.length_append] at h1
  omega
/-- Empty pieces put to what is found, one by one. -/
def putTo (l : List Tx) (line : Tx) (k : Nat) : List Pr := ((empties (line.length + 1)).take k).foldl put (scanOf l line)
theorem putTo_zero (l : List Tx) (line : Tx) : putTo l line 0 = scanOf l line := rfl
theorem putTo_succ (l : List Tx) (line : Tx) {k : Nat} (h : k < line.length + 1) : putTo l line (k + 1) = put (putTo l line k) ⟨(k : Int), (k : Int)⟩ := by
  unfold putTo
  rw [List.take_succ_eq_append_getElem (by rw [empties_length]; exact h), List.foldl_append, empties_at _ _ h]; rfl
theorem putTo_all {l : List Tx} (h : [] ∈ l) (line : Tx) : putTo l line (line.length + 1) = findOf l line := by
  rw [find_put, putTo, List.take_of_length_le (by rw [empties_length]; exact Nat.le_refl _), emp, if_pos h]
theorem putTo_len (l : List Tx) (line : Tx) : ∀ k, k ≤ line.length + 1 → (putTo l line k).length ≤ (scanOf l line).length + k
  | 0, _ => Nat.le_refl _
  | k + 1, h => by
    have h1 := putTo_len l line k (by omega)
    have h2 := (put_length ⟨(k : Int), (k : Int)⟩ (putTo l line k)).2
    rw [putTo_succ l line (by omega)]; omega
/-- Which error there is of a way, and of the texts that came. -/
def wrongI (tag : Int) (l : List Tx) : Int := if tag < 0 ∨ 3 < tag then 11 else if tag = 2 ∧ ((pats l).length ≠ 1 ∨ [] ∈ l) then 13 else if tag = 1 ∧ 160 < (paths (pats l)).length then 14 else 0
/-- What is counted: bytes that are read, and look-ups. -/
def scanN (tag : Int) (l : List Tx) (line : Tx) : Nat := if pats l = [] ∨ 1 < tag then 0 else line.length
def lookN (tag : Int) (l : List Tx) (line : Tx) : Nat := if pats l = [] ∨ 1 < tag then 0 else if tag = 1 then line.length else looksTo (paths (pats l)) line line.length
theorem look_bound (tag : Int) (l : List Tx) (line : Tx) : lookN tag l line ≤ 2 * line.length := by
  have := (looks_bound (paths_wf (pats l)) line line.length (Nat.le_refl _)).2
  unfold lookN; split
  · omega
  · split <;> omega
theorem scan_bound (tag : Int) (l : List Tx) (line : Tx) : scanN tag l line ≤ line.length := by
  unfold scanN; split <;> omega
/-- With the empty text behind them. -/
theorem pats_nil_behind (l : List Tx) : pats (l ++ [[]]) = pats l := by rw [pats_snoc, add_nil]
theorem wrong_nil {tag : Int} (l : List Tx) (h : tag ≠ 2) : wrongI tag (l ++ [[]]) = wrongI tag l := by
  unfold wrongI; rw [pats_nil_behind]; simp [h]
theorem pats_filter (l : List Tx) : pats (l.filter fun x => decide (0 < x.length)) = pats l := by
  unfold pats
  suffices ∀ s, (l.filter fun x => decide (0 < x.length)).foldl add s = l.foldl add s from this []
  induction l with
  | nil => intro s; rfl
  | cons x l ih =>
    intro s
    by_cases hx : 0 < x.length
    · rw [List.filter_cons_of_pos (by simpa using hx), List.foldl_cons, List.foldl_cons, ih]
    · have e : x = [] := List.eq_nil_of_length_eq_zero (by omega)
      rw [List.filter_cons_of_neg (by simpa using hx), List.foldl_cons, ih, e, add_nil]
theorem wrong_filter {tag : Int} (l : List Tx) (h : tag ≠ 2) : wrongI tag (l.filter fun x => decide (0 < x.length)) = wrongI tag l := by
  unfold wrongI; rw [pats_filter]; simp [h]
theorem filter_no (l : List Tx) : ([] : Tx) ∉ l.filter fun x => decide (0 < x.length) := fun h => by
  have := (List.mem_filter.1 h).2
  simp at this
theorem scan_filter (l : List Tx) (line : Tx) : scanOf (l.filter fun x => decide (0 < x.length)) line = scanOf l line :=
  scan_congr (fun x hx => by rw [List.mem_filter]; exact ⟨fun h => h.1, fun h => ⟨h, by simpa using List.length_pos_iff.2 hx⟩⟩) line
theorem find_filter (l : List Tx) (line : Tx) : findOf (l.filter fun x => decide (0 < x.length)) line = scanOf l line := by rw [find_plain (filter_no l), scan_filter]
/-- Is a piece empty? -/
def isE (p : Pr) : Bool := decide (p.s = p.e)
theorem emp_behind (l : List Tx) (line : Tx) : emp (l ++ [[]]) line = empties (line.length + 1) := by unfold emp; rw [if_pos (by simp)]
theorem scan_behind (l : List Tx) (line : Tx) : scanOf (l ++ [[]]) line = scanOf l line := scan_congr (fun x hx => by simp [hx]) line
theorem hit_ne {l : List Tx} {line : Tx} {p : Pr} (h : Hit l line p) : isE p = false := by
  obtain ⟨a, b, h1, _, _, rfl⟩ := h
  simp [isE]; omega
theorem find_ne (l : List Tx) (line : Tx) : (findOf (l ++ [[]]) line).filter (fun p => !isE p) = scanOf l line := by
  refine rise_ext _ _ (rise_filter _ _ (rise_norm _)) (rise_scan l line) fun p => ?_
  rw [List.mem_filter]
  unfold findOf
  rw [mem_norm, List.mem_append, emp_behind, scan_behind]
  constructor
  · rintro ⟨h | h, h2⟩
    · exact h
    · obtain ⟨i, _, rfl⟩ := (mem_empties _ _).1 h
      simp [isE] at h2
  · intro h
    exact ⟨.inl h, by rw [hit_ne ((mem_scan l line p).1 h)]; rfl⟩
theorem find_eq (l : List Tx) (line : Tx) : (findOf (l ++ [[]]) line).filter isE = empties (line.length + 1) := by
  refine rise_ext _ _ (rise_filter _ _ (rise_norm _)) (rise_empties _) fun p => ?_
  rw [List.mem_filter]
  unfold findOf
  rw [mem_norm, List.mem_append, emp_behind, scan_behind]
  constructor
  · rintro ⟨h | h, h2⟩
    · rw [hit_ne ((mem_scan l line p).1 h)] at h2; cases h2
    · exact h
  · intro h
    refine ⟨.inr h, ?_⟩
    obtain ⟨i, _, rfl⟩ := (mem_empties _ _).1 h
    simp [isE]
/-- The next empty piece is the one whose number it has. -/
theorem next_empty {l : List Pr} {n : Nat} (h : l.filter isE = empties n) {i : Nat} (hi : i < l.length) (he : isE l[i] = true) : ((l.take i).filter isE).length < n ∧ l[i] = ⟨(((l.take i).filter isE).length : Int), (((l.take i).filter isE).length : Int)⟩ := by
  have e1 : l = l.take i ++ l[i] :: l.drop (i + 1) := by rw [← List.drop_eq_getElem_cons hi, List.take_append_drop]
  have e2 : empties n = (l.take i).filter isE ++ l[i] :: (l.drop (i + 1)).filter isE := by
    rw [← h]
    conv => lhs; rw [e1]
    rw [List.filter_append, List.filter_cons_of_pos he]
  have hlen := congrArg List.length e2
  rw [empties_length, List.length_append, List.length_cons] at hlen
  have hk : ((l.take i).filter isE).length < n := by omega
  refine ⟨hk, ?_⟩
  have h3 := empties_at n _ hk
  have h4 : (empties n)[((l.take i).filter isE).length]'(by rw [empties_length]; exact hk) = l[i] := by
    simp only [e2]
    rw [List.getElem_append_right (Nat.le_refl _)]
    simp
  rw [← h4, h3]
theorem filter_take {l : List Pr} (f : Pr → Bool) {i : Nat} (hi : i < l.length) : (l.take (i + 1)).filter f = (l.take i).filter f ++ if f l[i] then [l[i]] else [] := by
  rw [List.take_succ_eq_append_getElem hi, List.filter_append]
  congr 1
  cases h : f l[i] <;> simp [h]
/-- Errors and bytes. -/
theorem bytes_tot (l : List Tx) : bytesIn l = tot l := rfl
theorem wrong_small {l : List Tx} (h : wrongI 1 l = 14) : 160 ≤ bytesIn (pats l) := by
  have h1 := paths_len (pats l)
  rw [bytes_tot]
  unfold wrongI at h
  rw [if_neg (by omega), if_neg (by omega)] at h
  by_cases h2 : (1 : Int) = 1 ∧ 160 < (paths (pats l)).length
  · omega
  · rw [if_neg h2] at h; cases h
theorem grow_one (t : Tx) : ∀ k, k ≤ t.length → (growTo [[]] t k).length = k + 1 ∧ ∀ q ∈ growTo [[]] t k, q.length ≤ k
  | 0, _ => by simp [growTo]
  | k + 1, h => by
    obtain ⟨h1, h2⟩ := grow_one t k (by omega)
    have hl : (t.take (k + 1)).length = k + 1 := by rw [List.length_take]; omega
    have hn : t.take (k + 1) ∉ growTo [[]] t k := fun e => by have := h2 _ e; omega
    rw [growTo, addp, if_neg hn]
    refine ⟨by simp [h1], fun q hq => ?_⟩
    rcases List.mem_append.1 hq with hq | hq
    · have := h2 q hq; omega
    · rw [List.mem_singleton.1 hq, hl]; exact Nat.le_refl _
theorem wrong_great {l : List Tx} (h1 : (pats l).length = 1) (h : 160 ≤ bytesIn (pats l)) : wrongI 1 l = 14 := by
  obtain ⟨x, hx⟩ := List.length_eq_one_iff.1 h1
  have h2 : bytesIn (pats l) = x.length := by rw [hx]; simp [bytesIn]
  have h3 : (paths (pats l)).length = x.length + 1 := by rw [hx]; exact (grow_one x x.length (Nat.le_refl _)).1
  unfold wrongI
  rw [if_neg (by omega), if_neg (by omega), if_pos ⟨rfl, by omega⟩]
theorem bytes_zero (l : List Tx) : bytesIn (pats l) = 0 ↔ pats l = [] := by
  constructor
  · intro h
    rcases hp : pats l with _ | ⟨x, r⟩
    · rfl
    · exfalso
      have h1 : x ∈ pats l := by rw [hp]; simp
      have h2 := List.length_pos_iff.2 ((mem_pats l x).1 h1).2
      rw [hp] at h
      simp [bytesIn] at h
      rw [h.1] at h2
      simp at h2
  · intro h; rw [h]; rfl
theorem wrong_cases (tag : Int) (l : List Tx) : wrongI tag l = 0 ∨ wrongI tag l = 11 ∨ wrongI tag l = 13 ∨ wrongI tag l = 14 := by
  unfold wrongI
  split
  · exact .inr (.inl rfl)
  · split
    · exact .inr (.inr (.inl rfl))
    · split
      · exact .inr (.inr (.inr rfl))
      · exact .inl rfl
end Go.Proofs.YtcbhjhhajeeimaaGreat.Eng
