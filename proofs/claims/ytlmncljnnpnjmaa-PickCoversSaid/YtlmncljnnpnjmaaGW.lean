/- Package by package: Text Texts slim/Wb Wc Wd We slim/Wi. -/
import Derived.Test.YtlmncljnnpnjmaaGB
import Derived.Lib.IndexLaws
import Derived.LoopIn
import Derived.LoopNIn
import Derived.Maps.AppendAt
import Derived.OwnWalkIn
import Derived.RangeFuncBound
import Derived.RangeFuncCalls
import Derived.RangeFuncLeaves
import Derived.RangeFuncNested
import Derived.Shelf.Abstract
import Derived.Shelf.RegionOpen
import Derived.TacticsInMore
/- A text's lines, as plain mathematics. -/
namespace Go.Proofs.Ytlmncljnnpnjmaa
set_option maxRecDepth 100000

/-- A line: where it begins, its bytes, whether a newline stands behind it. -/
structure Ln where
  off : Nat
  text : List UInt8
  ends : Bool

/-- The lines of a text whose bytes `cur` since `off` have come already. -/
def goes : Nat → List UInt8 → List UInt8 → List Ln
  | off, cur, [] => if cur = [] then [] else [⟨off, cur, false⟩]
  | off, cur, c :: t => if c = 10 then ⟨off, cur, true⟩ :: goes (off + cur.length + 1) [] t else goes off (cur ++ [c]) t

theorem goes_nil (off : Nat) (cur : List UInt8) : goes off cur [] = if cur = [] then [] else [⟨off, cur, false⟩] := rfl
theorem goes_end (off : Nat) : goes off [] [] = [] := rfl
theorem goes_open (off : Nat) (cur : List UInt8) (h : cur ≠ []) : goes off cur [] = [⟨off, cur, false⟩] := by rw [goes_nil, if_neg h]
theorem goes_newline (off : Nat) (cur t : List UInt8) : goes off cur (10 :: t) = ⟨off, cur, true⟩ :: goes (off + cur.length + 1) [] t := by
  rw [goes, if_pos rfl]
theorem goes_byte (off : Nat) (cur t : List UInt8) (c : UInt8) (h : c ≠ 10) : goes off cur (c :: t) = goes off (cur ++ [c]) t := by
  rw [goes, if_neg h]

theorem goes_bare : ∀ (x : List UInt8) (off : Nat) (cur t : List UInt8), (10 : UInt8) ∉ x → goes off cur (x ++ t) = goes off (cur ++ x) t
  | [], off, cur, t, _ => by simp
  | c :: x, off, cur, t, h => by
    have h1 : c ≠ 10 := fun e => h (by simp [e])
    have h2 : (10 : UInt8) ∉ x := fun e => h (by simp [e])
    rw [List.cons_append, goes_byte _ _ _ _ h1, goes_bare x off (cur ++ [c]) t h2, List.append_assoc]
    rfl

/-- What a search for the first newline says of the lines: there is one. -/
theorem goes_found (off k : Nat) (t : List UInt8) (h : Lib.indexByte t 10 = (k : Int)) :
    k < t.length ∧ goes off [] t = ⟨off, t.take k, true⟩ :: goes (off + k + 1) [] (t.drop (k + 1)) := by
  obtain ⟨h1, h2⟩ := Lib.indexByte_some h
  obtain ⟨hk, h1⟩ := List.getElem?_eq_some_iff.1 h1
  refine ⟨hk, ?_⟩
  have e : t = t.take k ++ 10 :: t.drop (k + 1) := by
    rw [← h1, ← List.drop_eq_getElem_cons hk, List.take_append_drop]
  have hn : (10 : UInt8) ∉ t.take k := by
    intro hm
    obtain ⟨i, hi, he⟩ := List.getElem_of_mem hm
    have hik : i < k := by simp at hi; omega
    refine h2 i hik ?_
    rw [List.getElem?_eq_getElem (by omega), ← he, List.getElem_take]
  have e2 : goes off [] t = goes off [] (t.take k ++ 10 :: t.drop (k + 1)) := by rw [← e]
  rw [e2, goes_bare _ _ _ _ hn, List.nil_append, goes_newline]
  have e3 : (t.take k).length = k := by simp; omega
  rw [e3]
/-- .. there is none. -/
theorem goes_none (off : Nat) (t : List UInt8) (h : Lib.indexByte t 10 = -1) (h0 : t ≠ []) : goes off [] t = [⟨off, t, false⟩] := by
  have hn : (10 : UInt8) ∉ t := by
    intro hm
    obtain ⟨i, hi, he⟩ := List.getElem_of_mem hm
    exact Lib.indexByte_none h i (by rw [List.getElem?_eq_getElem hi, he])
  have := goes_bare t off [] [] hn
  rw [List.append_nil, List.nil_append] at this
  rw [this, goes_open _ _ h0]

/-- The lines of a text. -/
def linesOf (t : List UInt8) : List Ln := goes 0 [] t

/-- How many newlines there are. -/
def nls (t : List UInt8) : Nat := t.count 10
theorem nls_snoc (t : List UInt8) (k : Nat) (h : k < t.length) : nls (t.take (k + 1)) = nls (t.take k) + if t[k] = 10 then 1 else 0 := by
  unfold nls
  rw [List.take_succ_eq_append_getElem h, List.count_append, List.count_singleton]
  simp
theorem nls_le (t : List UInt8) : nls t ≤ t.length := List.count_le_length

/-- Does the text end in a byte that is no newline? -/
def openB (t : List UInt8) : Bool := match t.getLast? with
  | none => false
  | some c => c != 10
theorem goes_length : ∀ (t : List UInt8) (off : Nat) (cur : List UInt8), (goes off cur t).length = nls t + if (if t = [] then decide (cur ≠ []) else openB t) = true then 1 else 0
  | [], off, cur => by
    by_cases h : cur = [] <;> simp [goes_nil, h, nls]
  | c :: t, off, cur => by
    by_cases hc : c = 10
    · subst hc
      rw [goes_newline, List.length_cons, goes_length t]
      cases t with
      | nil => simp [nls, openB]
      | cons d t => simp [nls, openB]; omega
    · rw [goes_byte _ _ _ _ hc, goes_length t]
      cases t with
      | nil => simp [nls, openB, hc]
      | cons d t => simp [nls, openB, hc]
theorem lines_length (t : List UInt8) : (linesOf t).length = nls t + if openB t = true then 1 else 0 := by
  unfold linesOf
  rw [goes_length]
  cases t with
  | nil => simp [openB]
  | cons c t => simp

theorem goes_len_le : ∀ (t : List UInt8) (off : Nat) (cur : List UInt8), (goes off cur t).length ≤ t.length + if cur = [] then 0 else 1
  | [], off, cur => by by_cases h : cur = [] <;> simp [goes_nil, h]
  | c :: t, off, cur => by
    by_cases hc : c = 10
    · subst hc
      have := goes_len_le t (off + cur.length + 1) []
      rw [goes_newline, List.length_cons, List.length_cons]
      simp at this
      omega
    · have := goes_len_le t off (cur ++ [c])
      rw [goes_byte _ _ _ _ hc, List.length_cons]
      simp at this
      omega
theorem lines_le (t : List UInt8) : (linesOf t).length ≤ t.length := by
  have := goes_len_le t 0 []
  simpa [linesOf] using this

/-- Every line is no longer than the text, and none has a newline. -/
theorem goes_bound : ∀ (t : List UInt8) (off : Nat) (cur : List UInt8), (10 : UInt8) ∉ cur → ∀ x ∈ goes off cur t, x.off + x.text.length ≤ off + cur.length + t.length ∧ (10 : UInt8) ∉ x.text
  | [], off, cur, hc, x, hx => by
    rw [goes_nil] at hx
    split at hx
    · cases hx
    · simp at hx; subst hx; exact ⟨by simp, hc⟩
  | c :: t, off, cur, hcur, x, hx => by
    by_cases hc : c = 10
    · subst hc
      rw [goes_newline] at hx
      rcases List.mem_cons.1 hx with rfl | hx
      · exact ⟨by simp, hcur⟩
      · have := goes_bound t (off + cur.length + 1) [] (by simp) x hx
        simp only [List.length_nil, List.length_cons] at this ⊢
        exact ⟨by omega, this.2⟩
    · rw [goes_byte _ _ _ _ hc] at hx
      have := goes_bound t off (cur ++ [c]) (by simp [hcur]; exact fun e => hc e.symm) x hx
      simp only [List.length_append, List.length_cons, List.length_nil] at this ⊢
      exact ⟨by omega, this.2⟩
theorem lines_bound (t : List UInt8) (x : Ln) (hx : x ∈ linesOf t) : x.off + x.text.length ≤ t.length ∧ (10 : UInt8) ∉ x.text := by
  have := goes_bound t 0 [] (by simp) x hx
  simpa using this
end Go.Proofs.Ytlmncljnnpnjmaa
/- What the statements on lines come to, as plain mathematics. -/
namespace Go.Proofs.Ytlmncljnnpnjmaa
set_option maxRecDepth 100000

def Ln.shift (far : Nat) (x : Ln) : Ln := ⟨x.off + far, x.text, x.ends⟩
theorem shift_zero (x : Ln) : x.shift 0 = x := rfl
theorem map_shift_zero (l : List Ln) : l.map (Ln.shift 0) = l := by
  induction l with
  | nil => rfl
  | cons x l ih => rw [List.map_cons, ih, shift_zero]

theorem goes_shift : ∀ (t : List UInt8) (off d : Nat) (cur : List UInt8), goes (off + d) cur t = (goes off cur t).map (Ln.shift d)
  | [], off, d, cur => by
    rw [goes_nil, goes_nil]
    split <;> rfl
  | c :: t, off, d, cur => by
    by_cases hc : c = 10
    · subst hc
      rw [goes_newline, goes_newline, List.map_cons, ← goes_shift t]
      have e : off + d + cur.length + 1 = off + cur.length + 1 + d := by omega
      rw [e]; rfl
    · rw [goes_byte _ _ _ _ hc, goes_byte _ _ _ _ hc, goes_shift t]
theorem goes_parts : ∀ (a : List UInt8) (off : Nat) (cur b : List UInt8), goes off cur (a ++ 10 :: b) = goes off cur (a ++ [10]) ++ goes (off + cur.length + a.length + 1) [] b
  | [], off, cur, b => by
    rw [List.nil_append, List.nil_append, goes_newline, goes_newline, goes_end]; rfl
  | c :: a, off, cur, b => by
    by_cases hc : c = 10
    · subst hc
      rw [List.cons_append, List.cons_append, goes_newline, goes_newline, goes_parts a, List.cons_append]
      have e : off + cur.length + 1 + [].length (α := UInt8) + a.length + 1 = off + cur.length + (10 :: a).length + 1 := by simp; omega
      rw [e]
    · rw [List.cons_append, List.cons_append, goes_byte _ _ _ _ hc, goes_byte _ _ _ _ hc, goes_parts a]
      have e : off + (cur ++ [c]).length + a.length + 1 = off + cur.length + (c :: a).length + 1 := by simp; omega
      rw [e]
theorem lines_parts (a b : List UInt8) : linesOf (a ++ [10] ++ b) = linesOf (a ++ [10]) ++ (linesOf b).map (Ln.shift (a ++ [10]).length) := by
  unfold linesOf
  rw [List.append_assoc, List.singleton_append, goes_parts, ← goes_shift]
  simp

theorem goes_last_open : ∀ (t : List UInt8) (off : Nat) (cur : List UInt8), (if t = [] then cur ≠ [] else openB t = true) → ∃ ls o c, goes off cur t = ls ++ [⟨o, c, false⟩] ∧ goes off cur (t ++ [10]) = ls ++ [⟨o, c, true⟩]
  | [], off, cur, h => by
    rw [if_pos rfl] at h
    exact ⟨[], off, cur, by rw [goes_open _ _ h]; rfl, by rw [List.nil_append, goes_newline, goes_end]; rfl⟩
  | c :: t, off, cur, h => by
    rw [if_neg (by simp)] at h
    by_cases hc : c = 10
    · subst hc
      have h2 : if t = [] then ([] : List UInt8) ≠ [] else openB t = true := by
        cases t with
        | nil => simp [openB] at h
        | cons d t => simpa [openB] using h
      obtain ⟨ls, o, x, h3, h4⟩ := goes_last_open t (off + cur.length + 1) [] h2
      exact ⟨⟨off, cur, true⟩ :: ls, o, x, by rw [goes_newline, h3]; rfl, by rw [List.cons_append, goes_newline, h4]; rfl⟩
    · have h2 : if t = [] then cur ++ [c] ≠ [] else openB t = true := by
        cases t with
        | nil => simp
        | cons d t => simpa [openB] using h
      obtain ⟨ls, o, x, h3, h4⟩ := goes_last_open t off (cur ++ [c]) h2
      exact ⟨ls, o, x, by rw [goes_byte _ _ _ _ hc, h3], by rw [List.cons_append, goes_byte _ _ _ _ hc, h4]⟩
theorem lines_open (t : List UInt8) (h : openB t = true) : ∃ ls o c, linesOf t = ls ++ [⟨o, c, false⟩] ∧ linesOf (t ++ [10]) = ls ++ [⟨o, c, true⟩] := by
  refine goes_last_open t 0 [] ?_
  cases t with
  | nil => simp [openB] at h
  | cons c t => simpa using h
theorem goes_last_shut : ∀ (t : List UInt8) (off : Nat) (cur : List UInt8), (if t = [] then cur = [] else openB t = false) → goes off cur (t ++ [10]) = goes off cur t ++ [⟨off + cur.length + t.length, [], true⟩]
  | [], off, cur, h => by
    rw [if_pos rfl] at h
    subst h
    rw [List.nil_append, goes_newline, goes_end, goes_end]; rfl
  | c :: t, off, cur, h => by
    rw [if_neg (by simp)] at h
    by_cases hc : c = 10
    · subst hc
      have h2 : if t = [] then ([] : List UInt8) = [] else openB t = false := by
        cases t with
        | nil => simp
        | cons d t => simpa [openB] using h
      rw [List.cons_append, goes_newline, goes_newline, goes_last_shut t _ _ h2, List.cons_append]
      have e : off + cur.length + 1 + [].length (α := UInt8) + t.length = off + cur.length + (10 :: t).length := by simp; omega
      rw [e]
    · have h2 : if t = [] then cur ++ [c] = [] else openB t = false := by
        cases t with
        | nil => simp [openB, hc] at h
        | cons d t => simpa [openB] using h
      rw [List.cons_append, goes_byte _ _ _ _ hc, goes_byte _ _ _ _ hc, goes_last_shut t _ _ h2]
      have e : off + (cur ++ [c]).length + t.length = off + cur.length + (c :: t).length := by simp; omega
      rw [e]
theorem lines_shut (t : List UInt8) (h : openB t = false) : linesOf (t ++ [10]) = linesOf t ++ [⟨t.length, [], true⟩] := by
  have := goes_last_shut t 0 [] (by cases t with
    | nil => simp
    | cons c t => simpa using h)
  simpa [linesOf] using this

/-- What lines make, with the newlines that end them. -/
def made (ls : List Ln) : List UInt8 := ls.flatMap fun x => x.text ++ if x.ends then [10] else []
theorem made_snoc (ls : List Ln) (k : Nat) (h : k < ls.length) : made (ls.take (k + 1)) = made (ls.take k) ++ ls[k].text ++ if ls[k].ends then [10] else [] := by
  unfold made
  rw [List.take_succ_eq_append_getElem h, List.flatMap_append]
  simp
theorem goes_made : ∀ (t : List UInt8) (off : Nat) (cur : List UInt8), made (goes off cur t) = cur ++ t
  | [], off, cur => by
    rw [goes_nil]
    split
    · rename_i h; subst h; rfl
    · simp [made]
  | c :: t, off, cur => by
    by_cases hc : c = 10
    · subst hc
      have := goes_made t (off + cur.length + 1) []
      rw [goes_newline]
      unfold made at this ⊢
      rw [List.flatMap_cons, this]
      simp
    · rw [goes_byte _ _ _ _ hc, goes_made t]; simp
theorem lines_made (t : List UInt8) : made (linesOf t) = t := by
  have := goes_made t 0 []
  simpa [linesOf] using this
theorem goes_offs : ∀ (t : List UInt8) (off : Nat) (cur : List UInt8) (k : Nat) (h : k < (goes off cur t).length), (goes off cur t)[k].off = off + (made ((goes off cur t).take k)).length ∧
    ((goes off cur t)[k].ends = false → k + 1 = (goes off cur t).length ∧ (goes off cur t)[k].text ≠ [])
  | [], off, cur, k, h => by
    rw [goes_nil] at h
    by_cases hc : cur = []
    · simp [hc] at h
    · have e := goes_open off cur hc
      have h0 : k = 0 := by rw [if_neg hc] at h; simp at h; exact h
      subst h0
      simp only [e]
      simp [made, hc]
  | c :: t, off, cur, k, h => by
    by_cases hc : c = 10
    · subst hc
      have e := goes_newline off cur t
      simp only [e] at h ⊢
      cases k with
      | zero => simp [made]
      | succ k =>
        have h' : k < (goes (off + cur.length + 1) [] t).length := by simpa using h
        obtain ⟨h1, h2⟩ := goes_offs t (off + cur.length + 1) [] k h'
        simp only [List.getElem_cons_succ, List.take_succ_cons, List.length_cons]
        refine ⟨?_, fun he => ⟨by rw [(h2 he).1], (h2 he).2⟩⟩
        rw [h1]
        unfold made
        rw [List.flatMap_cons, List.length_append]
        simp
        omega
    · have e := goes_byte off cur t c hc
      simp only [e] at h ⊢
      exact goes_offs t off (cur ++ [c]) k h
theorem lines_offs (t : List UInt8) (k : Nat) (h : k < (linesOf t).length) : (linesOf t)[k].off = (made ((linesOf t).take k)).length ∧ ((linesOf t)[k].ends = false → k + 1 = (linesOf t).length ∧ (linesOf t)[k].text ≠ []) := by
  have := goes_offs t 0 [] k h
  rw [Nat.zero_add] at this
  exact this

/-- Texts, a newline behind each. -/
def joined (ls : List (List UInt8)) : List UInt8 := ls.flatMap fun l => l ++ [10]
theorem goes_joined : ∀ (ts : List (List UInt8)) (off : Nat), (∀ x ∈ ts, (10 : UInt8) ∉ x) → (goes off [] (joined ts)).map (fun x => (x.text, x.ends)) = ts.map (fun x => (x, true))
  | [], off, _ => rfl
  | x :: ts, off, h => by
    have e : joined (x :: ts) = x ++ 10 :: joined ts := by simp [joined]
    rw [e, goes_bare x _ _ _ (h x (by simp)), List.nil_append, goes_newline, List.map_cons, goes_joined ts _ (fun y hy => h y (by simp [hy]))]
    rfl
theorem lines_joined (ts : List (List UInt8)) (h : ∀ x ∈ ts, (10 : UInt8) ∉ x) : (linesOf (joined ts)).map (fun x => (x.text, x.ends)) = ts.map (fun x => (x, true)) := goes_joined ts 0 h
theorem nls_joined : ∀ ts : List (List UInt8), (∀ x ∈ ts, (10 : UInt8) ∉ x) → nls (joined ts) = ts.length
  | [], _ => rfl
  | x :: ts, h => by
    have e : joined (x :: ts) = x ++ 10 :: joined ts := by simp [joined]
    have h1 : x.count 10 = 0 := List.count_eq_zero.2 (h x (by simp))
    have h2 := nls_joined ts (fun y hy => h y (by simp [hy]))
    unfold nls at h2 ⊢
    rw [e, List.count_append, h1, List.count_cons, h2]
    simp
/-- How many bytes the texts have. -/
def total (ts : List (List UInt8)) : Nat := (ts.map List.length).sum
theorem total_snoc (ts : List (List UInt8)) (k : Nat) (h : k < ts.length) : total (ts.take (k + 1)) = total (ts.take k) + ts[k].length := by
  unfold total
  rw [List.take_succ_eq_append_getElem h, List.map_append, List.sum_append]
  simp
theorem joined_length : ∀ ts : List (List UInt8), (joined ts).length = total ts + ts.length
  | [] => rfl
  | x :: ts => by
    have e : joined (x :: ts) = x ++ 10 :: joined ts := by simp [joined]
    have := joined_length ts
    rw [e, List.length_append, List.length_cons, this]
    simp [total]
    omega
end Go.Proofs.Ytlmncljnnpnjmaa
/- Contracts of bytes.IndexByte, bytes.Clone. -/
namespace Go.Proofs.Ytlmncljnnpnjmaa
open Go.RowKit
set_option maxRecDepth 100000

theorem eql_nil22 : ∀ (w : World) (a : Option Addr) (n c n' c' : Nat), (binOp .eql 33 (.slice a n c) (.slice none n' c')).run Try.prog w = .ok (.bool a.isNone) w :=
  fun w a n c n' c' => Lib.run_eql_slice_nil w _ _ a n c n' c' und22
end Go.Proofs.Ytlmncljnnpnjmaa
/- Contracts of lines.at, lines.All. -/
namespace Go.Proofs.Ytlmncljnnpnjmaa
open Go.RowKit
set_option maxRecDepth 100000

/-- A line's value. -/
def lnv (x : Ln) (a : Option Addr) (cap : Nat) : Value := .agg #[.int .i64 (x.off : Int), .slice a x.text.length cap, .bool x.ends]
def GivesLine (w : World) (x : Ln) (e : Ending) (w' : World) : Prop :=
  ∃ a cap, e = .returned (lnv x a cap) ∧ Txt w' w.heap.size a x.text ∧ (a = none → cap = 0) ∧ Below w.heap.size w w'

theorem drop_cells {w : World} {l : List UInt8} {b o : Nat} (off : Nat) (hc : ∀ i (h : i < l.length), w.cell? ⟨b, o + i, none⟩ = some (.int .u8 (l[i].toNat : Int))) :
    ∀ i (h : i < (l.drop off).length), w.cell? ⟨b, o + off + i, none⟩ = some (.int .u8 ((l.drop off)[i].toNat : Int)) := fun i h => by
  have h' : off + i < l.length := by simp at h; omega
  rw [List.getElem_drop, ← hc (off + i) h', Nat.add_assoc]
theorem take_cells {w : World} {l : List UInt8} {b o : Nat} (k : Nat) (hc : ∀ i (h : i < l.length), w.cell? ⟨b, o + i, none⟩ = some (.int .u8 (l[i].toNat : Int))) :
    ∀ i (h : i < (l.take k).length), w.cell? ⟨b, o + i, none⟩ = some (.int .u8 ((l.take k)[i].toNat : Int)) := fun i h => by
  have h' : i < l.length := by simp at h; omega
  rw [List.getElem_take]
  exact hc i h'
end Go.Proofs.Ytlmncljnnpnjmaa
/- The contract of the iterator over lines. -/
namespace Go.Proofs.Ytlmncljnnpnjmaa
open Go.RowKit Go.Shelf
set_option maxRecDepth 100000
attribute [local go_sem] Oper.semAt_some

/-- A line, and where its bytes lie. -/
structure LnV where
  ln : Ln
  a : Option Addr
  cap : Nat
  nil0 : a = none → cap = 0
def LnV.val (x : LnV) : Value := lnv x.ln x.a x.cap

/-- What a round keeps: every block below m, but B; every block from s on. -/
structure Kept (B m s : Nat) (W W' : World) : Prop where
  size : W.heap.size ≤ W'.heap.size
  same : ∀ k, k < W.heap.size → k ≠ B → (k < m ∨ s ≤ k) → W'.heap[k]? = W.heap[k]?

theorem goes_done (off : Nat) (t : List UInt8) (h : t.length ≤ off) : goes off [] (t.drop off) = [] := by
  rw [List.drop_of_length_le h, goes_end]

end Go.Proofs.Ytlmncljnnpnjmaa
/- A loop over a text's lines: what its body must do. -/
namespace Go.Proofs.Ytlmncljnnpnjmaa
open Go.RowKit Go.Shelf
set_option maxRecDepth 100000

theorem own_below {β : Type} {B : Nat} {I : β → World → Prop} (h : OwnFrom B I) {s : β} {X Y : World} (hs : I s X) (hb : Below X.heap.size X Y) : I s Y :=
  h s X Y none hs (grown_of_below hb) (fun _ e => by cases e)

/-- How the body of a round may be left: off its end, or by a break. -/
def linePost (N B m s : Nat) (I : List LnV → World → Prop) (Ix : Nat → List LnV → World → Prop) (xs : List LnV) (W : World) : Exit → Act → World → Prop
  | .normal, _, W' => KeepsFrom N W W' ∧ Kept B m s W W' ∧ I xs W'
  | .exit id, _, W' => KeepsFrom N W W' ∧ Ix id xs W'
  | _, _, _ => False

end Go.Proofs.Ytlmncljnnpnjmaa
/- The contract of the reference's Split. -/
namespace Go.Proofs.Ytlmncljnnpnjmaa
open Go.RowKit
set_option maxRecDepth 100000

def rcells (x : Ln) : List Value := [.int .i64 (x.off : Int), .string (str x.text), .bool x.ends]
/-- The bytes between two places. -/
def mid (t : List UInt8) (i j : Nat) : List UInt8 := (t.take j).drop i
theorem mid_len (t : List UInt8) (i j : Nat) (h : j ≤ t.length) : (mid t i j).length = j - i := by simp [mid]; omega
theorem mid_self (t : List UInt8) (i : Nat) : mid t i i = [] := by
  unfold mid
  exact List.drop_of_length_le (by simp; omega)
theorem mid_snoc (t : List UInt8) (i k : Nat) (hi : i ≤ k) (h : k < t.length) : mid t i (k + 1) = mid t i k ++ [t[k]] := by
  unfold mid
  rw [List.take_succ_eq_append_getElem h, List.drop_append_of_le_length (by simp; omega)]
theorem goes_step10 (t : List UInt8) (i k : Nat) (hi : i ≤ k) (h : k < t.length) (h10 : t[k] = 10) :
    goes i (mid t i k) (t.drop k) = ⟨i, mid t i k, true⟩ :: goes (k + 1) (mid t (k + 1) (k + 1)) (t.drop (k + 1)) := by
  rw [List.drop_eq_getElem_cons h, h10, goes_newline, mid_len t i k (by omega), mid_self]
  have e : i + (k - i) + 1 = k + 1 := by omega
  rw [e]
theorem goes_step (t : List UInt8) (i k : Nat) (hi : i ≤ k) (h : k < t.length) (h10 : t[k] ≠ 10) :
    goes i (mid t i k) (t.drop k) = goes i (mid t i (k + 1)) (t.drop (k + 1)) := by
  rw [List.drop_eq_getElem_cons h, goes_byte _ _ _ _ h10, mid_snoc t i k hi h]
theorem extract_mid (t : List UInt8) (i j : Nat) : (str t).extract i j = str (mid t i j) := by
  apply ByteArray.ext
  simp [str, mid, List.drop_take]

end Go.Proofs.Ytlmncljnnpnjmaa
