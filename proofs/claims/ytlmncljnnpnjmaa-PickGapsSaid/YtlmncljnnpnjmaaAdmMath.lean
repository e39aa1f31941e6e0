/- Mathematics of stage 22: which pieces may be. -/
import Derived.Test.YtlmncljnnpnjmaaGP
namespace Go.Proofs.Ytlmncljnnpnjmaa.Adm
open Go.Proofs.Ytlmncljnnpnjmaa.Prs
set_option maxRecDepth 100000
abbrev Tx := List UInt8
/-- Its two sides are no bytes of words, and it isn't empty ('wd': which bytes are of words). -/
def free (wd : UInt8 → Bool) (line : Tx) (p : Pr) : Bool :=
  fit line.length p && decide (p.s ≠ p.e) && !(decide (0 < p.s) && wd (line.getD (p.s - 1).toNat 0)) && (decide (p.e = (line.length : Int)) || !wd (line.getD p.e.toNat 0))
def may (wd : UInt8 → Bool) (line : Tx) (w x : Bool) (p : Pr) : Bool :=
  (!w || free wd line p) && (!x || (decide (p.s = 0) && decide (p.e = (line.length : Int)))) && fit line.length p
def filt (wd : UInt8 → Bool) (line : Tx) (l : List Pr) (w x : Bool) : List Pr := l.filter (may wd line w x)
theorem fit_iff (n : Int) (p : Pr) : fit n p = true ↔ 0 ≤ p.s ∧ p.s ≤ p.e ∧ p.e ≤ n := by
  unfold fit
  simp
  omega
theorem may_both (wd : UInt8 → Bool) (line : Tx) (w x : Bool) (p : Pr) : may wd line w x p = (may wd line w false p && may wd line false x p) := by
  unfold may
  cases w <;> cases x <;> simp
  · cases free wd line p <;> cases fit (line.length : Int) p <;> simp
theorem may_none (wd : UInt8 → Bool) (line : Tx) (p : Pr) : may wd line false false p = fit line.length p := by simp [may]
theorem filt_filt (wd : UInt8 → Bool) (line : Tx) (l : List Pr) (w x w' x' : Bool) : filt wd line (filt wd line l w x) w' x' = filt wd line l (w || w') (x || x') := by
  unfold filt
  rw [List.filter_filter]
  apply List.filter_congr
  intro p _
  unfold may
  generalize free wd line p = A
  generalize fit (line.length : Int) p = B
  generalize decide (p.s = 0) = C
  generalize decide (p.e = (line.length : Int)) = D
  revert A B C D w x w' x'
  decide
theorem filt_fits (wd : UInt8 → Bool) (line : Tx) (l : List Pr) : fits (filt wd line l false false) line.length = true := by
  unfold fits filt
  rw [List.all_eq_true]
  intro p hp
  have := (List.mem_filter.1 hp).2
  rwa [may_none] at this
theorem rise_filter (f : Pr → Bool) : ∀ l : List Pr, Rise l → Rise (l.filter f)
  | [], _ => trivial
  | p :: l, h => by
    have h2 := rise_filter f l h.2
    rw [List.filter_cons]
    split
    · exact ⟨fun q hq => h.1 q ((List.mem_filter.1 hq).1), h2⟩
    · exact h2
/-- What is sorted and filtered is what is filtered and sorted. -/
theorem norm_filter (f : Pr → Bool) (l : List Pr) : norm (l.filter f) = (norm l).filter f :=
  rise_ext _ _ (rise_norm _) (rise_filter f _ (rise_norm _)) fun p => by rw [mem_norm, List.mem_filter, List.mem_filter, mem_norm]
theorem filt_norm (wd : UInt8 → Bool) (line : Tx) (l : List Pr) (w x : Bool) : norm (filt wd line l w x) = filt wd line (norm l) w x := norm_filter _ l
/-- Any of them. -/
theorem any_filt (wd : UInt8 → Bool) (line : Tx) (l : List Pr) (w x : Bool) : (l.any (may wd line w x)) = decide (0 < (filt wd line l w x).length) := by
  rw [Bool.eq_iff_iff, List.any_eq_true, decide_eq_true_iff, List.length_pos_iff_exists_mem]
  constructor
  · rintro ⟨p, h1, h2⟩; exact ⟨p, List.mem_filter.2 ⟨h1, h2⟩⟩
  · rintro ⟨p, h⟩; exact ⟨p, (List.mem_filter.1 h).1, (List.mem_filter.1 h).2⟩
theorem filt_take (wd : UInt8 → Bool) (line : Tx) (l : List Pr) (w x : Bool) (k : Nat) (hk : k < l.length) : filt wd line (l.take (k + 1)) w x = filt wd line (l.take k) w x ++ if may wd line w x l[k] then [l[k]] else [] := by
  unfold filt
  rw [List.take_add_one, List.getElem?_eq_getElem hk, List.filter_append]
  congr 1
  show List.filter _ [l[k]] = _
  rw [List.filter_cons]
  split <;> simp_all
theorem getD_map (fo : UInt8 → UInt8) (l : Tx) (i : Nat) (h : i < l.length) : (l.map fo).getD i 0 = fo (l.getD i 0) := by
  rw [List.getD_eq_getElem?_getD, List.getD_eq_getElem?_getD, List.getElem?_map, List.getElem?_eq_getElem h]; rfl
/-- Case plays no part, where words know none. -/
theorem may_fold {wd : UInt8 → Bool} {fo : UInt8 → UInt8} (h : ∀ c, wd (fo c) = wd c) (line : Tx) (w x : Bool) (p : Pr) : may wd (line.map fo) w x p = may wd line w x p := by
  unfold may free
  rw [List.length_map]
  cases hf : fit (line.length : Int) p
  · simp
  · obtain ⟨h1, h2, h3⟩ := (fit_iff _ _).1 hf
    by_cases hs : 0 < p.s
    · rw [getD_map fo line _ (by omega), h]
      by_cases he : p.e = (line.length : Int)
      · simp [he]
      · rw [getD_map fo line _ (by omega), h]
    · by_cases he : p.e = (line.length : Int)
      · simp [he, hs]
      · rw [getD_map fo line p.e.toNat (by omega), h, decide_eq_false hs, Bool.false_and, Bool.false_and]
/-- Empty pieces. -/
theorem may_empty (wd : UInt8 → Bool) (line : Tx) (k : Nat) (hk : k ≤ line.length) (w x : Bool) : may wd line w x ⟨(k : Int), (k : Int)⟩ = (!w && (!x || decide (line.length = 0))) := by
  have hf : fit (line.length : Int) ⟨(k : Int), (k : Int)⟩ = true := (fit_iff _ _).2 ⟨by show (0 : Int) ≤ (k : Int); omega, Int.le_refl _, by show (k : Int) ≤ _; omega⟩
  unfold may
  rw [hf]
  have hfr : free wd line ⟨(k : Int), (k : Int)⟩ = false := by unfold free; simp
  rw [hfr]
  cases w <;> cases x <;> simp
  rw [Bool.eq_iff_iff]
  simp only [Bool.and_eq_true, decide_eq_true_eq]
  constructor
  · rintro ⟨h1, h2⟩
    apply List.eq_nil_of_length_eq_zero
    omega
  · rintro rfl
    have e : k = 0 := by simpa using hk
    subst e
    exact ⟨rfl, rfl⟩
theorem free_empty (wd : UInt8 → Bool) (line : Tx) (k : Int) : free wd line ⟨k, k⟩ = false := by unfold free; simp
/-- A piece with one byte on either side. -/
theorem free_sides (wd : UInt8 → Bool) (a b c : Tx) (s o : UInt8) (hb : b ≠ []) : free wd (a ++ [s] ++ b ++ [o] ++ c) ⟨((a.length + 1 : Nat) : Int), ((a.length + 1 + b.length : Nat) : Int)⟩ = (!wd s && !wd o) := by
  have hp := List.length_pos_iff.2 hb
  have hlen : (a ++ [s] ++ b ++ [o] ++ c).length = a.length + 1 + b.length + 1 + c.length := by simp; omega
  have hf : fit ((a ++ [s] ++ b ++ [o] ++ c).length : Int) ⟨((a.length + 1 : Nat) : Int), ((a.length + 1 + b.length : Nat) : Int)⟩ = true := (fit_iff _ _).2 ⟨by show (0 : Int) ≤ ((a.length + 1 : Nat) : Int); omega, by show ((a.length + 1 : Nat) : Int) ≤ ((a.length + 1 + b.length : Nat) : Int); omega, by show ((a.length + 1 + b.length : Nat) : Int) ≤ _; rw [hlen]; omega⟩
  have hs : (a ++ [s] ++ b ++ [o] ++ c).getD a.length 0 = s := by
    rw [List.getD_eq_getElem?_getD]; simp
  have ho : (a ++ [s] ++ b ++ [o] ++ c).getD (a.length + 1 + b.length) 0 = o := by
    rw [List.getD_eq_getElem?_getD, List.getElem?_append_left (by simp; omega), List.getElem?_append_right (by simp; omega)]
    rw [show a.length + 1 + b.length - (a ++ [s] ++ b).length = 0 by simp; omega]
    rfl
  unfold free
  rw [hf]
  show (true && decide (((a.length + 1 : Nat) : Int) ≠ ((a.length + 1 + b.length : Nat) : Int)) && !(decide (0 < ((a.length + 1 : Nat) : Int)) && wd ((a ++ [s] ++ b ++ [o] ++ c).getD (((a.length + 1 : Nat) : Int) - 1).toNat 0)) && (decide (((a.length + 1 + b.length : Nat) : Int) = ((a ++ [s] ++ b ++ [o] ++ c).length : Int)) || !wd ((a ++ [s] ++ b ++ [o] ++ c).getD (((a.length + 1 + b.length : Nat) : Int)).toNat 0))) = _
  rw [show (((a.length + 1 : Nat) : Int) - 1).toNat = a.length by omega, show (((a.length + 1 + b.length : Nat) : Int)).toNat = a.length + 1 + b.length by omega, hs, ho, decide_eq_true (show ((a.length + 1 : Nat) : Int) ≠ ((a.length + 1 + b.length : Nat) : Int) by omega), decide_eq_true (show (0 : Int) < ((a.length + 1 : Nat) : Int) by omega), decide_eq_false (show ¬ ((a.length + 1 + b.length : Nat) : Int) = ((a ++ [s] ++ b ++ [o] ++ c).length : Int) by rw [hlen]; omega)]
  simp
theorem free_whole (wd : UInt8 → Bool) (b : Tx) (hb : b ≠ []) : free wd b ⟨0, (b.length : Int)⟩ = true := by
  have hp := List.length_pos_iff.2 hb
  have hf : fit (b.length : Int) ⟨0, (b.length : Int)⟩ = true := (fit_iff _ _).2 ⟨Int.le_refl _, by show (0 : Int) ≤ (b.length : Int); omega, Int.le_refl _⟩
  unfold free
  rw [hf]
  simp
  omega
end Go.Proofs.Ytlmncljnnpnjmaa.Adm
