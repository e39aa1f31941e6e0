/- Package by package: PMath PBase Pa Pb Pc Pd Pe Pf. -/
import Derived.Test.YtlmncljnnpnjmaaRows
import Derived.Below
import Derived.BigQuiet
import Derived.Deep.DrawnRows
import Derived.Deep.QuietTactic
import Derived.Deep.RegionHeld3
import Derived.Deep.RegionWith
import Derived.IntWalk
import Derived.Laws.AppendOwnNone
import Derived.Laws.MakeOwn
import Derived.Lib.Hide
import Derived.Lib.SliceRun
import Derived.LoopTactic
import Derived.Outline
import Derived.OwnWalk
import Derived.ProofKit
import Derived.StillTailTactics
import Derived.WalkKit
import Derived.WalkLawsBesides
/- Lists of pairs in order: plain mathematics. -/
namespace Go.Proofs.Ytlmncljnnpnjmaa.Prs
set_option maxRecDepth 100000

structure Pr where
  s : Int
  e : Int
deriving DecidableEq

/-- A pair stands ahead of another. -/
def lt (p q : Pr) : Bool := decide (p.s < q.s) || (decide (p.s = q.s) && decide (p.e < q.e))
theorem lt_iff (p q : Pr) : lt p q = true ↔ p.s < q.s ∨ (p.s = q.s ∧ p.e < q.e) := by simp [lt]
theorem pr_ext {p q : Pr} (h1 : p.s = q.s) (h2 : p.e = q.e) : p = q := by cases p; cases q; simp_all
theorem lt_irrefl (p : Pr) : lt p p = false := by
  rw [Bool.eq_false_iff]; intro h; rw [lt_iff] at h; omega
theorem lt_trans {p q r : Pr} (h1 : lt p q = true) (h2 : lt q r = true) : lt p r = true := by
  rw [lt_iff] at *; omega
theorem lt_asymm {p q : Pr} (h : lt p q = true) : lt q p = false := by
  rw [Bool.eq_false_iff]; intro h'; rw [lt_iff] at *; omega
theorem lt_ne {p q : Pr} (h : lt p q = true) : p ≠ q := by rintro rfl; rw [lt_irrefl] at h; cases h
theorem lt_total {p q : Pr} (h : lt p q = false) (hne : p ≠ q) : lt q p = true := by
  rw [lt_iff]
  have h' : ¬ (p.s < q.s ∨ (p.s = q.s ∧ p.e < q.e)) := by rw [← lt_iff, h]; simp
  have : ¬ (p.s = q.s ∧ p.e = q.e) := fun ⟨h1, h2⟩ => hne (pr_ext h1 h2)
  omega

/-- Each pair stands behind the one ahead of it. -/
def rising : List Pr → Bool
  | [] => true
  | [_] => true
  | p :: q :: l => lt p q && rising (q :: l)
/-- All behind the first one, and so on. -/
def Rise : List Pr → Prop
  | [] => True
  | p :: l => (∀ q ∈ l, lt p q = true) ∧ Rise l
theorem rise_of_rising : ∀ l : List Pr, rising l = true → Rise l
  | [], _ => trivial
  | [_], _ => ⟨(fun _ h => by cases h), trivial⟩
  | p :: q :: l, h => by
    simp only [rising, Bool.and_eq_true] at h
    have ih := rise_of_rising (q :: l) h.2
    refine ⟨fun r hr => ?_, ih⟩
    rcases List.mem_cons.1 hr with rfl | hr
    · exact h.1
    · exact lt_trans h.1 (ih.1 r hr)
theorem rising_of_rise : ∀ l : List Pr, Rise l → rising l = true
  | [], _ => rfl
  | [_], _ => rfl
  | p :: q :: l, h => by
    simp only [rising, Bool.and_eq_true]
    exact ⟨h.1 q (List.mem_cons_self ..), rising_of_rise (q :: l) h.2⟩
/-- Two that rise and have the same pairs are the same. -/
theorem rise_ext : ∀ (l m : List Pr), Rise l → Rise m → (∀ p, p ∈ l ↔ p ∈ m) → l = m
  | [], [], _, _, _ => rfl
  | [], q :: m, _, _, h => by have := (h q).2 (List.mem_cons_self ..); cases this
  | p :: l, [], _, _, h => by have := (h p).1 (List.mem_cons_self ..); cases this
  | p :: l, q :: m, hl, hm, h => by
    have e : p = q := by
      rcases List.mem_cons.1 ((h p).1 (List.mem_cons_self ..)) with e | hp
      · exact e
      · rcases List.mem_cons.1 ((h q).2 (List.mem_cons_self ..)) with e | hq
        · exact e.symm
        · have h1 := hm.1 p hp
          have h2 := hl.1 q hq
          rw [lt_asymm h1] at h2; cases h2
    subst e
    congr 1
    refine rise_ext l m hl.2 hm.2 fun r => ⟨fun hr => ?_, fun hr => ?_⟩
    · rcases List.mem_cons.1 ((h r).1 (List.mem_cons_of_mem _ hr)) with e | h'
      · exact absurd e.symm (lt_ne (hl.1 r hr))
      · exact h'
    · rcases List.mem_cons.1 ((h r).2 (List.mem_cons_of_mem _ hr)) with e | h'
      · exact absurd e.symm (lt_ne (hm.1 r hr))
      · exact h'

/-- One more pair, in order, once. -/
def put : List Pr → Pr → List Pr
  | [], p => [p]
  | q :: l, p => if lt q p then q :: put l p else if q = p then q :: l else p :: q :: l
theorem mem_put (p r : Pr) : ∀ l : List Pr, r ∈ put l p ↔ r ∈ l ∨ r = p
  | [] => by simp [put]
  | q :: l => by
    unfold put
    split
    · rw [List.mem_cons, mem_put p r l, List.mem_cons, or_assoc]
    · split
      · rename_i h; subst h; simp only [List.mem_cons]; exact ⟨.inl, fun h => h.elim id .inl⟩
      · simp only [List.mem_cons]; constructor
        · rintro (h | h | h)
          · exact .inr h
          · exact .inl (.inl h)
          · exact .inl (.inr h)
        · rintro ((h | h) | h)
          · exact .inr (.inl h)
          · exact .inr (.inr h)
          · exact .inl h
theorem rise_put (p : Pr) : ∀ l : List Pr, Rise l → Rise (put l p)
  | [], _ => ⟨(fun _ h => by cases h), trivial⟩
  | q :: l, h => by
    unfold put
    split
    · rename_i hq
      refine ⟨fun r hr => ?_, rise_put p l h.2⟩
      rcases (mem_put p r l).1 hr with hr | rfl
      · exact h.1 r hr
      · exact hq
    · split
      · exact h
      · rename_i hq hne
        have hq' : lt q p = false := by simpa using hq
        have hpq := lt_total hq' hne
        refine ⟨fun r hr => ?_, h⟩
        rcases List.mem_cons.1 hr with rfl | hr
        · exact hpq
        · exact lt_trans hpq (h.1 r hr)
theorem put_length (p : Pr) : ∀ l : List Pr, l.length ≤ (put l p).length ∧ (put l p).length ≤ l.length + 1
  | [] => by simp [put]
  | q :: l => by
    have ih := put_length p l
    unfold put
    split
    · simp; omega
    · split <;> simp
/-- Pairs in order, each once. -/
def norm (l : List Pr) : List Pr := l.foldl put []
theorem rise_foldl : ∀ (l m : List Pr), Rise m → Rise (l.foldl put m)
  | [], _, h => h
  | p :: l, m, h => rise_foldl l (put m p) (rise_put p m h)
theorem rise_norm (l : List Pr) : Rise (norm l) := rise_foldl l [] trivial
theorem mem_foldl (r : Pr) : ∀ (l m : List Pr), r ∈ l.foldl put m ↔ r ∈ m ∨ r ∈ l
  | [], m => by simp
  | p :: l, m => by
    rw [List.foldl_cons, mem_foldl r l, mem_put, List.mem_cons, or_assoc]
theorem mem_norm (r : Pr) (l : List Pr) : r ∈ norm l ↔ r ∈ l := by
  unfold norm; rw [mem_foldl]; simp
theorem foldl_length : ∀ (l m : List Pr), m.length ≤ (l.foldl put m).length ∧ (l.foldl put m).length ≤ m.length + l.length
  | [], m => by simp
  | p :: l, m => by
    have h1 := foldl_length l (put m p)
    have h2 := put_length p m
    rw [List.foldl_cons, List.length_cons]; omega
theorem norm_length (l : List Pr) : (norm l).length ≤ l.length := by
  have := (foldl_length l []).2; simpa [norm] using this
theorem norm_eq {l m : List Pr} (h : ∀ p, p ∈ l ↔ p ∈ m) : norm l = norm m :=
  rise_ext _ _ (rise_norm l) (rise_norm m) fun p => by rw [mem_norm, mem_norm, h]
theorem norm_of_rise {l : List Pr} (h : Rise l) : norm l = l :=
  rise_ext _ _ (rise_norm l) h fun p => mem_norm p l
theorem norm_norm (l : List Pr) : norm (norm l) = norm l := norm_of_rise (rise_norm l)
theorem rising_iff (l : List Pr) : rising l = decide (l = norm l) := by
  rw [Bool.eq_iff_iff, decide_eq_true_eq]
  constructor
  · intro h; exact (norm_of_rise (rise_of_rising l h)).symm
  · intro h; rw [h]; exact rising_of_rise _ (rise_norm l)
theorem norm_append (l m : List Pr) : norm (l ++ m) = m.foldl put (norm l) := by
  unfold norm; rw [List.foldl_append]

/-- One rising row of two. -/
def uni : List Pr → List Pr → List Pr
  | [], ys => ys
  | x :: xs, [] => x :: xs
  | x :: xs, y :: ys => if x = y then x :: uni xs ys else if lt x y then x :: uni xs (y :: ys) else y :: uni (x :: xs) ys
termination_by xs ys => xs.length + ys.length
theorem uni_nil (ys : List Pr) : uni [] ys = ys := by rw [uni]
theorem uni_nil_right (xs : List Pr) : uni xs [] = xs := by cases xs <;> rw [uni]
theorem uni_same (x : Pr) (xs ys : List Pr) : uni (x :: xs) (x :: ys) = x :: uni xs ys := by rw [uni, if_pos rfl]
theorem uni_lt (x y : Pr) (xs ys : List Pr) (hne : x ≠ y) (h : lt x y = true) : uni (x :: xs) (y :: ys) = x :: uni xs (y :: ys) := by rw [uni, if_neg hne, if_pos h]
theorem uni_gt (x y : Pr) (xs ys : List Pr) (hne : x ≠ y) (h : lt x y = false) : uni (x :: xs) (y :: ys) = y :: uni (x :: xs) ys := by rw [uni, if_neg hne, if_neg (by rw [h]; simp)]
theorem mem_uni (r : Pr) (n : Nat) : ∀ xs ys : List Pr, xs.length + ys.length ≤ n → (r ∈ uni xs ys ↔ r ∈ xs ∨ r ∈ ys) := by
  induction n with
  | zero =>
    intro xs ys h
    obtain rfl : xs = [] := List.eq_nil_of_length_eq_zero (by omega)
    obtain rfl : ys = [] := List.eq_nil_of_length_eq_zero (by omega)
    simp [uni_nil]
  | succ n ih =>
    intro xs ys h
    match xs, ys with
    | [], ys => simp [uni_nil]
    | x :: xs, [] => simp [uni_nil_right]
    | x :: xs, y :: ys =>
      simp only [List.length_cons] at h
      by_cases he : x = y
      · subst he
        rw [uni_same, List.mem_cons, ih xs ys (by omega)]
        simp only [List.mem_cons]
        constructor
        · rintro (h | h | h)
          · exact .inl (.inl h)
          · exact .inl (.inr h)
          · exact .inr (.inr h)
        · rintro ((h | h) | (h | h))
          · exact .inl h
          · exact .inr (.inl h)
          · exact .inl h
          · exact .inr (.inr h)
      · cases hl : lt x y
        · rw [uni_gt x y xs ys he hl, List.mem_cons, ih (x :: xs) ys (by simp; omega)]
          simp only [List.mem_cons]
          constructor
          · rintro (h | h | h)
            · exact .inr (.inl h)
            · exact .inl h
            · exact .inr (.inr h)
          · rintro (h | h | h)
            · exact .inr (.inl h)
            · exact .inl h
            · exact .inr (.inr h)
        · rw [uni_lt x y xs ys he hl, List.mem_cons, ih xs (y :: ys) (by simp; omega)]
          simp only [List.mem_cons, or_assoc]
theorem rise_uni (n : Nat) : ∀ xs ys : List Pr, xs.length + ys.length ≤ n → Rise xs → Rise ys → Rise (uni xs ys) := by
  induction n with
  | zero =>
    intro xs ys h _ hy
    obtain rfl : xs = [] := List.eq_nil_of_length_eq_zero (by omega)
    rw [uni_nil]; exact hy
  | succ n ih =>
    intro xs ys h hx hy
    match xs, ys with
    | [], ys => rw [uni_nil]; exact hy
    | x :: xs, [] => rw [uni_nil_right]; exact hx
    | x :: xs, y :: ys =>
      simp only [List.length_cons] at h
      by_cases he : x = y
      · subst he
        rw [uni_same]
        refine ⟨fun r hr => ?_, ih xs ys (by omega) hx.2 hy.2⟩
        rcases (mem_uni r _ xs ys (Nat.le_refl _)).1 hr with h | h
        · exact hx.1 r h
        · exact hy.1 r h
      · cases hl : lt x y
        · have hl' := lt_total hl he
          rw [uni_gt x y xs ys he hl]
          refine ⟨fun r hr => ?_, ih (x :: xs) ys (by simp; omega) hx hy.2⟩
          rcases (mem_uni r _ (x :: xs) ys (Nat.le_refl _)).1 hr with h | h
          · rcases List.mem_cons.1 h with rfl | h
            · exact hl'
            · exact lt_trans hl' (hx.1 r h)
          · exact hy.1 r h
        · rw [uni_lt x y xs ys he hl]
          refine ⟨fun r hr => ?_, ih xs (y :: ys) (by simp; omega) hx.2 hy⟩
          rcases (mem_uni r _ xs (y :: ys) (Nat.le_refl _)).1 hr with h | h
          · exact hx.1 r h
          · rcases List.mem_cons.1 h with rfl | h
            · exact hl
            · exact lt_trans hl (hy.1 r h)
theorem uni_norm (l m : List Pr) : uni (norm l) (norm m) = norm (l ++ m) :=
  rise_ext _ _ (rise_uni _ _ _ (Nat.le_refl _) (rise_norm l) (rise_norm m)) (rise_norm _) fun p => by
    rw [mem_uni p _ _ _ (Nat.le_refl _), mem_norm, mem_norm, mem_norm, List.mem_append]
theorem norm_halves (l : List Pr) (k : Nat) : uni (norm (l.take k)) (norm (l.drop k)) = norm l := by
  rw [uni_norm, List.take_append_drop]
theorem norm_short (l : List Pr) (h : l.length < 2) : norm l = l := by
  match l, h with
  | [], _ => rfl
  | [_], _ => rfl
theorem norm_more (l : List Pr) : norm (l ++ norm l) = norm l := norm_eq fun p => by simp [mem_norm]
theorem merge_both (a b c : List Pr) : norm (norm (a ++ b) ++ c) = norm (a ++ norm (c ++ b)) := norm_eq fun p => by
  simp only [List.mem_append, mem_norm]
  constructor
  · rintro ((h | h) | h)
    · exact .inl h
    · exact .inr (.inr h)
    · exact .inr (.inl h)
  · rintro (h | h | h)
    · exact .inl (.inl h)
    · exact .inr h
    · exact .inl (.inr h)
theorem merge_length (a b c : List Pr) : (norm a).length ≤ (norm (norm (a ++ b) ++ c)).length := by
  have h1 := (foldl_length c (norm (norm (a ++ b)))).1
  rw [norm_append (norm (a ++ b)) c]
  rw [norm_norm] at h1 ⊢
  have h2 := (foldl_length b (norm a)).1
  rw [norm_append a b] at h1 ⊢
  omega

/-- Each pair is a piece of a line of so many bytes. -/
def fit (n : Int) (p : Pr) : Bool := !(decide (p.s < 0) || decide (p.s > p.e) || decide (p.e > n))
def fits (l : List Pr) (n : Int) : Bool := l.all (fit n)
theorem fits_take_succ (l : List Pr) (n : Int) (k : Nat) (h : k < l.length) : fits (l.take (k + 1)) n = (fits (l.take k) n && fit n l[k]) := by
  unfold fits; rw [List.take_succ_eq_append_getElem h, List.all_append]; simp
theorem fits_false (l : List Pr) (n : Int) (k : Nat) (h : k < l.length) (hf : fit n l[k] = false) : fits l n = false := by
  unfold fits; rw [List.all_eq_false]; exact ⟨l[k], List.getElem_mem h, by rw [hf]; simp⟩

/-- The empty pieces. -/
def empties (n : Nat) : List Pr := (List.range n).map fun i : Nat => (⟨(i : Int), (i : Int)⟩ : Pr)
theorem empties_length (n : Nat) : (empties n).length = n := by simp [empties]
theorem empties_at (n i : Nat) (h : i < n) : (empties n)[i]'(by rw [empties_length]; exact h) = (⟨(i : Int), (i : Int)⟩ : Pr) := by simp [empties]
theorem empties_fit (n : Nat) (m : Int) (h : (n : Int) ≤ m + 1) : fits (empties n) m = true := by
  unfold fits; rw [List.all_eq_true]
  intro p hp
  obtain ⟨i, hi, rfl⟩ := List.mem_map.1 hp
  have := List.mem_range.1 hi
  simp [fit]; omega
/-- By places. -/
theorem rising_at : ∀ (l : List Pr), rising l = true ↔ ∀ i (h : i + 1 < l.length), lt l[i] l[i + 1] = true
  | [] => by simp [rising]
  | [_] => by simp [rising]
  | p :: q :: l => by
    rw [rising, Bool.and_eq_true, rising_at (q :: l)]
    constructor
    · rintro ⟨h1, h2⟩ i hi
      cases i with
      | zero => exact h1
      | succ i => exact h2 i (by simpa using hi)
    · intro h
      exact ⟨h 0 (by simp), fun i hi => h (i + 1) (by simpa using hi)⟩
theorem empties_rise (n : Nat) : rising (empties n) = true := by
  rw [rising_at]
  intro i h
  rw [empties_length] at h
  rw [empties_at n i (by omega), empties_at n (i + 1) (by omega), lt_iff]
  simp; omega
theorem rising_no (l : List Pr) (i : Nat) (h : i + 1 < l.length) (hl : lt l[i] l[i + 1] = false) : rising l = false := by
  rw [Bool.eq_false_iff]; intro hr; rw [(rising_at l).1 hr i h] at hl; cases hl
end Go.Proofs.Ytlmncljnnpnjmaa.Prs
/- Pairs in memory: slices of them, rows of the call's own. -/
namespace Go.Proofs.Ytlmncljnnpnjmaa.Prs
open Go.RowKit
set_option maxRecDepth 100000

theorem ret_int {k : IntKind} {a b : Int} (h : a = b) : Ending.returned (.int k a) = .returned (.int k b) := by rw [h]
theorem ret_bool {a b : Bool} (h : a = b) : Ending.returned (.bool a) = .returned (.bool b) := by rw [h]
theorem below_drews {B : Nat} {a w : World} (h : Below B a w) (n : Nat) : Below B a (w.drewN n) := ⟨h.os, h.tape, h.output, h.size, h.block⟩
theorem heap_lt {w : World} {b : Nat} {o : Obj} (h : w.heap[b]? = some o) : b < w.heap.size := (Array.getElem?_eq_some_iff.1 h).1
theorem cell_lt {w : World} {b o : Nat} {v : Value} (h : w.cell? ⟨b, o, none⟩ = some v) : b < w.heap.size := by
  rcases Nat.lt_or_ge b w.heap.size with hlt | hge
  · exact hlt
  · unfold World.cell? at h
    simp only [Array.getElem?_eq_none hge] at h
    cases h
theorem add_at (b off i : Nat) : (⟨b, off, none⟩ : Addr).add i = ⟨b, off + i, none⟩ := by unfold Addr.add; split <;> simp_all
theorem bcell {W w1 : World} (hb : Below W.heap.size W w1) : (∀ b o, b < W.heap.size → w1.cell? ⟨b, o, none⟩ = W.cell? ⟨b, o, none⟩) ∧ (∀ b o, b < W.heap.size → w1.frozen? ⟨b, o, none⟩ = W.frozen? ⟨b, o, none⟩) :=
  ⟨fun b o h => hb.cell (p := ⟨b, o, none⟩) h, fun b o h => hb.frozen (p := ⟨b, o, none⟩) h⟩
theorem own_keep {w w' : World} {base e size n : Nat} {v : Value} {xs : List Value} (h : w.ownsRow base e size v n xs) (hb : Below w.heap.size w w') : w'.ownsRow base e size v n xs := by
  refine ⟨h.1, h.2.imp id ?_⟩
  rintro ⟨g, cap, cur, hv, hg, hh, r⟩
  refine ⟨g, cap, cur, hv, hg, (hb.block g ?_).trans hh, r⟩
  rcases Nat.lt_or_ge g w.heap.size with hlt | hge
  · exact hlt
  · rw [Array.getElem?_eq_none hge] at hh; cases hh
theorem own_block_lt {W : World} {m e size k : Nat} {v : Value} {xs : List Value} (h : W.ownsRow m e size v k xs) {g : Nat} (hg : v.ownBlock = some g) : m ≤ g ∧ g < W.heap.size ∧ ∃ cs, W.heap[g]? = some (.cells cs e (0, 0)) := by
  rcases h.2 with ⟨rfl, _⟩ | ⟨g', cap, cur, rfl, hb, hh, _⟩
  · cases hg
  · simp [Value.ownBlock] at hg
    subst hg
    exact ⟨hb, heap_lt hh, cur, hh⟩
theorem own_base {W : World} {m m' e size k : Nat} {v : Value} {xs : List Value} (h : W.ownsRow m e size v k xs) (hm : m' ≤ m) : W.ownsRow m' e size v k xs :=
  ⟨h.1, h.2.imp id fun ⟨g, cap, cur, hv, hb, r⟩ => ⟨g, cap, cur, hv, by omega, r⟩⟩
theorem own_ge {w : World} {base e size n : Nat} {v : Value} {xs : List Value} (h : w.ownsRow base e size v n xs) {g : Nat} (hg : v.ownBlock = some g) : base ≤ g := (own_block_lt h hg).1

theorem info27 : (Try.prog.info? 25).map (fun i => (i.zero, i.size, i.bytes)) = some (some (.agg #[.int .i64 0, .int .i64 0]), 2, 16) := by kernel_rfl
/-- A pair as a value, and its cells. -/
abbrev pv (p : Pr) : Value := .agg #[.int .i64 p.s, .int .i64 p.e]
def pcells (p : Pr) : List Value := [.int .i64 p.s, .int .i64 p.e]
def cellsOf (l : List Pr) : List Value := l.flatMap pcells
theorem cells_length (l : List Pr) : (cellsOf l).length = l.length * 2 := by
  induction l with
  | nil => rfl
  | cons p l ih => simp only [cellsOf, List.flatMap_cons, List.length_append, List.length_cons] at ih ⊢; rw [ih]; simp [pcells]; omega
theorem cells_append (l m : List Pr) : cellsOf (l ++ m) = cellsOf l ++ cellsOf m := by simp [cellsOf]
theorem cells_at : ∀ (xs : List Pr) (i j : Nat), j < 2 → (h : i < xs.length) → (cellsOf xs)[i * 2 + j]? = (pcells xs[i])[j]?
  | [], i, j, _, h => absurd h (by simp)
  | x :: xs, 0, j, hj, _ => by
    unfold cellsOf
    rw [List.flatMap_cons, List.getElem?_append_left (by simp [pcells]; omega)]
    simp
  | x :: xs, i + 1, j, hj, h => by
    have h' : i < xs.length := by simpa using h
    unfold cellsOf
    rw [List.flatMap_cons, List.getElem?_append_right (by simp [pcells]; omega)]
    have e : (i + 1) * 2 + j - (pcells x).length = i * 2 + j := by simp [pcells]; omega
    rw [e]
    exact cells_at xs i j hj h'
theorem cells_one (l : List Pr) : ∀ v ∈ cellsOf l, v.oneCell' = true := by
  intro v hv
  simp only [cellsOf, List.mem_flatMap] at hv
  obtain ⟨p, _, hp⟩ := hv
  simp only [pcells, List.mem_cons, List.not_mem_nil, or_false] at hp
  rcases hp with rfl | rfl <;> rfl
/-- A slice of pairs that reads as xs, below block B. -/
def Ps (W : World) (B : Nat) (a : Option Addr) (xs : List Pr) : Prop :=
  0 < xs.length → ∃ b off, a = some ⟨b, off, none⟩ ∧ b < B ∧ ∀ i (h : i < xs.length), W.cell? ⟨b, off + i * 2, none⟩ = some (.int .i64 xs[i].s) ∧ W.cell? ⟨b, off + i * 2 + 1, none⟩ = some (.int .i64 xs[i].e)
theorem ps_nil (W : World) (B : Nat) (a : Option Addr) : Ps W B a [] := fun h => absurd h (by simp)
theorem Ps.keep {W W' : World} {B : Nat} {a : Option Addr} {xs : List Pr} (h : Ps W B a xs) (hb : Below B W W') : Ps W' B a xs := fun h0 => by
  obtain ⟨b, off, e, hlt, hc⟩ := h h0
  refine ⟨b, off, e, hlt, fun i hi => ?_⟩
  obtain ⟨h1, h2⟩ := hc i hi
  exact ⟨(hb.cell (p := ⟨b, _, none⟩) hlt).trans h1, (hb.cell (p := ⟨b, _, none⟩) hlt).trans h2⟩
theorem Ps.more {W : World} {B B' : Nat} {a : Option Addr} {xs : List Pr} (h : Ps W B a xs) (hB : B ≤ B') : Ps W B' a xs := fun h0 => by
  obtain ⟨b, off, e, hlt, hc⟩ := h h0
  exact ⟨b, off, e, by omega, hc⟩
theorem Ps.keeps {W W' : World} {a : Option Addr} {xs : List Pr} (h : Ps W W.heap.size a xs) (hb : Below W.heap.size W W') : Ps W' W'.heap.size a xs := (h.keep hb).more hb.size
/-- What is left of a slice behind its first k. -/
theorem Ps.drop {W : World} {B b off : Nat} {xs : List Pr} (h : Ps W B (some ⟨b, off, none⟩) xs) (k : Nat) : Ps W B (some ⟨b, off + k * 2, none⟩) (xs.drop k) := fun h0 => by
  have hk : k < xs.length := by simp at h0; omega
  obtain ⟨b', off', e, hlt, hc⟩ := h (by omega)
  cases e
  refine ⟨b, off + k * 2, rfl, hlt, fun i hi => ?_⟩
  have hi' : k + i < xs.length := by simp at hi; omega
  obtain ⟨h1, h2⟩ := hc (k + i) hi'
  have e1 : off + k * 2 + i * 2 = off + (k + i) * 2 := by omega
  rw [e1, List.getElem_drop]
  exact ⟨h1, h2⟩
theorem Ps.take {W : World} {B : Nat} {a : Option Addr} {xs : List Pr} (h : Ps W B a xs) (k : Nat) : Ps W B a (xs.take k) := fun h0 => by
  have hk : 0 < xs.length := by simp at h0; omega
  obtain ⟨b, off, e, hlt, hc⟩ := h hk
  refine ⟨b, off, e, hlt, fun i hi => ?_⟩
  have hi' : i < xs.length := by simp at hi; omega
  rw [List.getElem_take]
  exact hc i hi'
theorem own_ps {W : World} {base n : Nat} {v : Value} {xs : List Pr} (h : W.ownsRow base 25 2 v n (cellsOf xs)) (hn : n = xs.length) :
    ∃ a cap, v = .slice a xs.length cap ∧ xs.length ≤ cap ∧ (a = none → cap = 0) ∧ Ps W W.heap.size a xs := by
  subst hn
  rcases h.2 with ⟨rfl, h0⟩ | ⟨g, cap, cur, rfl, hg, hh, hnc, _, hs, htk⟩
  · exact ⟨none, 0, by rw [h0], by omega, fun _ => rfl, fun h1 => by omega⟩
  · refine ⟨some ⟨g, 0, none⟩, cap, rfl, hnc, (fun e => by cases e), fun _ => ⟨g, 0, rfl, heap_lt hh, fun i hi => ?_⟩⟩
    have key : ∀ j, j < 2 → W.cell? ⟨g, 0 + i * 2 + j, none⟩ = (pcells xs[i])[j]? := fun j hj => by
      rw [cell_of_row W g _ _ 25 (0, 0) hh, Nat.zero_add, ← cells_at xs i j hj hi, ← htk, List.getElem?_take_of_lt (by omega), Array.getElem?_toList]
    exact ⟨key 0 (by omega), key 1 (by omega)⟩
/-- A call that hands out pairs, and leaves what was there as it was. -/
def Gives (w : World) (ls : List Pr) (e : Ending) (w' : World) : Prop :=
  ∃ a cap, e = .returned (.slice a ls.length cap) ∧ ls.length ≤ cap ∧ (a = none → cap = 0) ∧ Ps w' w'.heap.size a ls ∧ Below w.heap.size w w'
/-- A slice that reads as l, appended to a row of the call's own. -/
theorem app_ps {w : World} {ops : Array Oper} {rest : List Oper} {o : Oper} {a : Act} {Q : Exit → Act → World → Prop} (hgd : o.guard = none) (s x : Operand)
    (ho : o.op = .call { callee := .builtin .append, args := #[s, x], argTypes := #[22, 22] })
    (base : Nat) (v : Value) (n : Nat) (xs : List Pr) (hs : a.eval s = v) (hown : w.ownsRow base 25 2 v n (cellsOf xs))
    (A : Option Addr) (l : List Pr) (c B : Nat) (hx : a.eval x = .slice A l.length c) (hb : Ps w B A l) (hnil : A = none → c = 0)
    (hn : n + l.length ≤ 1000000000) (hbase : base ≤ w.heap.size)
    (h : ∀ v' w', w'.ownsRow base 25 2 v' (n + l.length) (cellsOf (xs ++ l)) → w.grownBy w' v.ownBlock → wpList Try.prog ops Q rest (a.put o.dst v') w') : wpList Try.prog ops Q (o :: rest) a w := by
  obtain ⟨i0, hi, hz0, hz1, hz2⟩ := info_parts info27
  rw [cells_append] at h
  cases A with
  | none =>
    have hl : l = [] := by
      rcases Nat.eq_zero_or_pos l.length with h0 | h0
      · exact List.eq_nil_of_length_eq_zero h0
      · obtain ⟨_, _, e, _⟩ := hb h0; cases e
    subst hl
    rw [hnil rfl] at hx
    refine wpList_append_own_none hgd s x 22 ho base 25 i0 2 Try.underlying22 hi v n (cellsOf xs) hs hown hx (h v w ?_ (World.grownBy.refl w _))
    simpa [cellsOf] using hown
  | some ad =>
    refine wpList_append_own w hgd s x 22 ho base 25 i0 (.agg #[.int .i64 0, .int .i64 0]) 2 16 Try.underlying22 hi hz0 hz1 hz2 rfl (by decide) v n (cellsOf xs) hs hown ad l.length c (cellsOf l) hx (by rw [cells_length]) ?_ (cells_one l) (by unfold maxLen; omega) (by omega) hbase (fun v' w' h1 h2 _ => h v' w' h1 h2)
    intro j u hj
    have hjl : j < l.length * 2 := by
      have := (List.getElem?_eq_some_iff.1 hj).1
      rwa [cells_length] at this
    obtain ⟨b, off, e, _, hc⟩ := hb (by omega)
    obtain rfl := Option.some.inj e
    rw [add_at]
    obtain ⟨h1, h2⟩ := hc (j / 2) (by omega)
    have hat := cells_at l (j / 2) (j % 2) (by omega) (by omega)
    have ej : j / 2 * 2 + j % 2 = j := by omega
    rw [ej, hj] at hat
    rcases Nat.mod_two_eq_zero_or_one j with hm | hm
    · rw [hm] at hat
      have e2 : off + j = off + j / 2 * 2 := by omega
      rw [e2, h1, hat]; rfl
    · rw [hm] at hat
      have e2 : off + j = off + j / 2 * 2 + 1 := by omega
      rw [e2, h2, hat]; rfl
/-- One pair in a block of its own. -/
theorem ps_one (w : World) (p : Pr) (fr : Nat × Nat) : Ps (w.alloc (.cells #[.int .i64 p.s, .int .i64 p.e] 25 fr)) (w.alloc (.cells #[.int .i64 p.s, .int .i64 p.e] 25 fr)).heap.size (some ⟨w.heap.size, 0, none⟩) [p] := fun _ => by
  refine ⟨w.heap.size, 0, rfl, by simp, fun i hi => ?_⟩
  obtain rfl : i = 0 := by simp at hi; omega
  constructor <;> (rw [cell_of_row _ w.heap.size _ _ 25 fr (heap_alloc_new w _)]; rfl)
/-- A row of the call's own, appended to: what lay below its base is as it was. -/
theorem app_below {B base n : Nat} {w0 w w' : World} {v : Value} {xs : List Value} (h : Below B w0 w) (hown : w.ownsRow base 25 2 v n xs) (hg : w.grownBy w' v.ownBlock) (hB : B ≤ w.heap.size) (hbase : B ≤ base) : Below B w0 w' :=
  h.grown hg hB (fun k hk => by have := own_ge hown hk; omega)
end Go.Proofs.Ytlmncljnnpnjmaa.Prs
/- The contracts of Less, of the reference's Less, and of Same. -/
namespace Go.Proofs.Ytlmncljnnpnjmaa.Prs
open Go.RowKit
set_option maxRecDepth 100000

theorem below_two (w : World) (x y : Obj) : Below w.heap.size w ((w.alloc x).alloc y) := ((Below.refl _ _).alloc (Nat.le_refl _) _).alloc (by simp) _
/-- Two pairs held against each other. -/
def prEq (a b c e : Int) : Bool := decide ((⟨a, b⟩ : Pr) = ⟨c, e⟩)
theorem prEq_eq (p q : Pr) : prEq p.s p.e q.s q.e = decide (p = q) := rfl
theorem prEq_ints (a b c e : Int) : prEq a b c e = ((a == c) && (b == e)) := by
  rw [Bool.eq_iff_iff]; simp [prEq]
theorem eql_pairs (a b c e : Int) (w : World) : (binOp .eql 25 (.agg #[.int .i64 a, .int .i64 b]) (.agg #[.int .i64 c, .int .i64 e])).run Try.prog w = .ok (.bool (prEq a b c e)) w := by
  rw [prEq_ints]
  cases h1 : (a == c) <;> cases h2 : (b == e) <;> simp [go_sem, h1, h2]
theorem neq_pairs (a b c e : Int) (w : World) : (binOp .neq 25 (.agg #[.int .i64 a, .int .i64 b]) (.agg #[.int .i64 c, .int .i64 e])).run Try.prog w = .ok (.bool (!prEq a b c e)) w := by
  rw [prEq_ints]
  cases h1 : (a == c) <;> cases h2 : (b == e) <;> simp [go_sem, h1, h2]
attribute [local go_sem ↓] eql_pairs neq_pairs
set_option maxHeartbeats 1000000 in
theorem same_any (xs ys : List Pr) (a b : Option Addr) (ca cb : Nat) (w : World) (hl : xs.length ≤ 1000000000) (hx : Ps w w.heap.size a xs) (hy : Ps w w.heap.size b ys) :
    Calls Try.prog 12 #[.slice a xs.length ca, .slice b ys.length cb] w fun e w' => e = .returned (.bool (decide (xs = ys))) ∧ ∃ q, w' = w.drewN q := by
  by_cases hlen : xs.length = ys.length
  · rw [← hlen]
    have HL := Lib.hid hlen
    clear hlen
    go_enter Try.func12, Try.ntmps12
    go_wp2
    go_loopw [5] (fun i wr => ∃ k : Nat, k ≤ xs.length ∧ i = .int .i64 k ∧ (xs.take k = ys.take k) ∧ ∃ q, wr = w.drewN q) (fun i _ => xs.length - (intOf i).toNat)
    case atStart => exact ⟨0, Nat.zero_le _, rfl, rfl, 0, rfl⟩
    case round =>
      obtain ⟨k, hk, rfl, hs, q, rfl⟩ := hrel
      have HS := Lib.hid hs
      clear hs
      by_cases hlt : k < xs.length
      · obtain ⟨b1, o1, rfl, _, hc1⟩ := hx (by omega)
        have hly : k < ys.length := by rw [← HL.out]; exact hlt
        obtain ⟨b2, o2, rfl, _, hc2⟩ := hy (by omega)
        obtain ⟨h11, h12⟩ := hc1 k hlt
        obtain ⟨h21, h22⟩ := hc2 k hly
        have hkl : (k : Int) < (xs.length : Int) := by omega
        clear hc1 hc2
        by_cases he : xs[k] = ys[k]
        · have HE : Hid (xs.take (k + 1) = ys.take (k + 1)) := Lib.hid (by rw [List.take_succ_eq_append_getElem hlt, List.take_succ_eq_append_getElem hly, HS.out, he])
          rw [← he] at h21 h22
          have ht : prEq xs[k].s xs[k].e xs[k].s xs[k].e = true := by rw [prEq_eq]; simp
          generalize xs[k] = p at *
          clear he
          go_wp2
          go_quiet (fail)
          go_wp2
          go_roundw
          case rel =>
            exact ⟨k + 1, by omega, by go_num, HE.out, q + nq, rfl⟩
          case measure => simp [intOf]; omega
        · have ht : prEq xs[k].s xs[k].e ys[k].s ys[k].e = false := by rw [prEq_eq]; simp [he]
          have HE : Hid (¬ xs = ys) := Lib.hid (by rintro rfl; exact he rfl)
          clear he
          generalize xs[k] = x at *
          generalize ys[k] = y at *
          go_wp2
          go_quiet (fail)
          go_wp2
          go_ret
          exact ⟨ret_bool (by simp [HE.out]), q + nq, by rw [World.drewN_drewN]⟩
      · go_wp2
        go_ret
        have e1 : xs.take k = xs := List.take_of_length_le (by omega)
        have e2 : ys.take k = ys := List.take_of_length_le (by have := HL.out; omega)
        have h := HS.out
        rw [e1, e2] at h
        exact ⟨ret_bool (by simp [h]), q, rfl⟩
  · have hb : ((xs.length : Int) != (ys.length : Int)) = true := by simp; omega
    go_enter Try.func12, Try.ntmps12
    go_wp2
    go_ret
    have : ¬ xs = ys := fun h => hlen (by rw [h])
    exact ⟨ret_bool (by simp [this]), 0, rfl⟩
end Go.Proofs.Ytlmncljnnpnjmaa.Prs
/- The contracts of Rising, Fits, Empties and slices.Clone. -/
namespace Go.Proofs.Ytlmncljnnpnjmaa.Prs
open Go.RowKit
set_option maxRecDepth 100000
attribute [local go_sem ↓] eql_pairs neq_pairs

theorem und22 : Try.prog.underlying 22 = some (.slice 25) := by kernel_rfl
theorem eql_nil22 : ∀ (w : World) (a : Option Addr) (n c n' c' : Nat), (binOp .eql 22 (.slice a n c) (.slice none n' c')).run Try.prog w = .ok (.bool a.isNone) w :=
  fun w a n c n' c' => Lib.run_eql_slice_nil w _ _ a n c n' c' und22
theorem ps_none {W : World} {B : Nat} {xs : List Pr} (h : Ps W B none xs) : xs = [] := by
  rcases Nat.eq_zero_or_pos xs.length with h0 | h0
  · exact List.eq_nil_of_length_eq_zero h0
  · obtain ⟨_, _, e, _⟩ := h h0; cases e
end Go.Proofs.Ytlmncljnnpnjmaa.Prs
/- The contract of Empties. -/
namespace Go.Proofs.Ytlmncljnnpnjmaa.Prs
open Go.RowKit
set_option maxRecDepth 100000

theorem heap_set_same {w : World} {g i : Nat} {cs : Array Value} {t : TypeId} {fr : Nat × Nat} {u : Value} (h : w.heap[g]? = some (.cells cs t fr)) :
    (w.setCell ⟨g, i, none⟩ u).heap[g]? = some (.cells (cs.setIfInBounds i u) t fr) := by
  simp [World.setCell, Array.getElem?_modify, h]
/-- The first k empty pieces are laid into block g, which has room for m. -/
def Laid (w : World) (g m k : Nat) : Prop :=
  ∃ cs : Array Value, w.heap[g]? = some (.cells cs 25 (0, 0)) ∧ cs.size = m * 2 ∧ ∀ j, j < k → cs[j * 2]? = some (.int .i64 (j : Int)) ∧ cs[j * 2 + 1]? = some (.int .i64 (j : Int))
theorem Laid.there {w : World} {g m k : Nat} (h : Laid w g m k) (hk : k < m) : (∃ u, w.cell? ⟨g, k * 2, none⟩ = some u) ∧ (∃ u, w.cell? ⟨g, k * 2 + 1, none⟩ = some u) ∧ w.frozen? ⟨g, k * 2, none⟩ = false ∧ w.frozen? ⟨g, k * 2 + 1, none⟩ = false := by
  obtain ⟨cs, hh, hs, _⟩ := h
  refine ⟨⟨cs[k * 2]'(by omega), ?_⟩, ⟨cs[k * 2 + 1]'(by omega), ?_⟩, by simp [World.frozen?, hh], by simp [World.frozen?, hh]⟩
  · rw [cell_of_row w g _ _ 25 (0, 0) hh]; exact Array.getElem?_eq_getElem _
  · rw [cell_of_row w g _ _ 25 (0, 0) hh]; exact Array.getElem?_eq_getElem _
theorem Laid.next {w : World} {g m k : Nat} (h : Laid w g m k) (hk : k < m) : Laid ((w.setCell ⟨g, k * 2, none⟩ (.int .i64 (k : Int))).setCell ⟨g, k * 2 + 1, none⟩ (.int .i64 (k : Int))) g m (k + 1) := by
  obtain ⟨cs, hh, hs, hc⟩ := h
  refine ⟨_, heap_set_same (heap_set_same hh), by simp [hs], fun j hj => ?_⟩
  by_cases e : j = k
  · subst e
    constructor
    · rw [Array.getElem?_setIfInBounds_ne (by omega), Array.getElem?_setIfInBounds_self_of_lt (by omega)]
    · rw [Array.getElem?_setIfInBounds_self_of_lt (by simp; omega)]
  · obtain ⟨h1, h2⟩ := hc j (by omega)
    constructor
    · rw [Array.getElem?_setIfInBounds_ne (by omega), Array.getElem?_setIfInBounds_ne (by omega)]; exact h1
    · rw [Array.getElem?_setIfInBounds_ne (by omega), Array.getElem?_setIfInBounds_ne (by omega)]; exact h2
theorem Laid.ps {w : World} {g m : Nat} (h : Laid w g m m) : Ps w w.heap.size (some ⟨g, 0, none⟩) (empties m) := fun _ => by
  obtain ⟨cs, hh, hs, hc⟩ := h
  refine ⟨g, 0, rfl, heap_lt hh, fun i hi => ?_⟩
  rw [empties_length] at hi
  rw [empties_at m i hi]
  obtain ⟨h1, h2⟩ := hc i hi
  constructor
  · rw [cell_of_row w g _ _ 25 (0, 0) hh, Nat.zero_add]; exact h1
  · rw [cell_of_row w g _ _ 25 (0, 0) hh, Nat.zero_add]; exact h2
end Go.Proofs.Ytlmncljnnpnjmaa.Prs
/- The contract of the generic function that makes one rising row of two. -/
namespace Go.Proofs.Ytlmncljnnpnjmaa.Prs
open Go.RowKit
set_option maxRecDepth 100000
attribute [local go_sem ↓] eql_pairs neq_pairs

def slen : Value → Nat
  | .slice _ n _ => n
  | _ => 0
/-- What is left of both, and what has been put together of them. -/
def United (w : World) (xs ys : List Pr) (s0 s1 s7 : Value) (wr : World) : Prop :=
  ∃ (xr yr out : List Pr) (A B : Option Addr) (ca cb : Nat), s0 = .slice A xr.length ca ∧ s1 = .slice B yr.length cb ∧ (A = none → ca = 0) ∧ (B = none → cb = 0) ∧ xr.length ≤ ca ∧ yr.length ≤ cb ∧
    Ps w w.heap.size A xr ∧ Ps w w.heap.size B yr ∧ uni xs ys = out ++ uni xr yr ∧ out.length + xr.length + yr.length ≤ xs.length + ys.length ∧ wr.ownsRow w.heap.size 25 2 s7 out.length (cellsOf out) ∧ Below w.heap.size w wr
theorem Ps.tail {W : World} {B b o : Nat} {x : Pr} {xs : List Pr} (h : Ps W B (some ⟨b, o, none⟩) (x :: xs)) {c : Nat} (hc : xs.length + 1 ≤ c) : Ps W B (if c = 1 then some ⟨b, o, none⟩ else some ⟨b, o + 2, none⟩) xs := by
  split
  · obtain rfl : xs = [] := List.eq_nil_of_length_eq_zero (by omega)
    exact ps_nil _ _ _
  · exact h.drop 1
theorem tail_some {c b o : Nat} {P : Prop} (h : (if c = 1 then some (⟨b, o, none⟩ : Addr) else some ⟨b, o + 2, none⟩) = none) : P := by
  split at h <;> cases h
theorem own_snoc {W : World} {base : Nat} {v : Value} {out l : List Pr} (h : W.ownsRow base 25 2 v (out.length + l.length) (cellsOf (out ++ l))) : W.ownsRow base 25 2 v (out ++ l).length (cellsOf (out ++ l)) := by
  rw [List.length_append]; exact h
end Go.Proofs.Ytlmncljnnpnjmaa.Prs
/- The contracts of Sort and Merge. -/
namespace Go.Proofs.Ytlmncljnnpnjmaa.Prs
open Go.RowKit
set_option maxRecDepth 100000
attribute [local go_sem ↓] Go.wp_at_zero Go.wp_at_succ

end Go.Proofs.Ytlmncljnnpnjmaa.Prs
/- The contracts of the reference's Put and Sort. -/
namespace Go.Proofs.Ytlmncljnnpnjmaa.Prs
open Go.RowKit
set_option maxRecDepth 100000
attribute [local go_sem ↓] eql_pairs neq_pairs

/-- What has been put together of the first k, and whether the pair is there already. -/
def Putting (w1 : World) (l : List Pr) (p : Pr) (s5 s6 s7 : Value) (wr : World) : Prop :=
  ∃ (k : Nat) (d : Bool) (out : List Pr), k ≤ l.length ∧ s7 = .int .i64 (k : Int) ∧ s6 = .bool d ∧ out.length ≤ k + d.toNat ∧ (put l p = out ++ if d then l.drop k else put (l.drop k) p) ∧
    wr.ownsRow w1.heap.size 25 2 s5 out.length (cellsOf out) ∧ Below w1.heap.size w1 wr
theorem put_lt {q p : Pr} {l : List Pr} (h : lt q p = true) : put (q :: l) p = q :: put l p := by rw [put, if_pos h]
theorem put_same {q p : Pr} {l : List Pr} (h : lt q p = false) (e : q = p) : put (q :: l) p = q :: l := by rw [put, if_neg (by rw [h]; simp), if_pos e]
theorem put_gt {q p : Pr} {l : List Pr} (h : lt q p = false) (e : ¬ q = p) : put (q :: l) p = p :: q :: l := by rw [put, if_neg (by rw [h]; simp), if_neg e]
theorem norm_snoc (xs : List Pr) (k : Nat) (h : k < xs.length) : norm (xs.take (k + 1)) = put (norm (xs.take k)) xs[k] := by
  rw [List.take_succ_eq_append_getElem h, norm_append]; rfl
theorem norm_take_le (xs : List Pr) (k : Nat) : (norm (xs.take k)).length ≤ xs.length := by
  have h1 := norm_length (xs.take k)
  have h2 : (xs.take k).length ≤ xs.length := by simp; omega
  omega
end Go.Proofs.Ytlmncljnnpnjmaa.Prs
