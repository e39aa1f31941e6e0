/- Package by package: Text Texts slim/Wb Wc Wd We slim/Wi. -/
import Derived.Test.YtcekifknbljbiaaGB
import Derived.Lib.IndexLaws
import Derived.LoopIn
import Derived.LoopNIn
import Derived.Maps.AppendAt
import Derived.OwnWalkIn
import Derived.RangeFuncBound
import Derived.RangeFuncCalls
import Derived.RangeFuncLeaves
import Derived.RangeFuncNested
import Derived.Shelf.Abstract
import Derived.Shelf.RegionOpen
import Derived.TacticsInMore
/- A text's lines, as plain mathematics. -/
namespace Go.Proofs.Ytcekifknbljbiaa
set_option maxRecDepth 100000

/-- A line: where it begins, its bytes, whether a newline stands behind it. -/
structure Ln where
  off : Nat
  text : List UInt8
  ends : Bool

/-- The lines of a text whose bytes `cur` since `off` have come already. -/
def goes : Nat → List UInt8 → List UInt8 → List Ln
  | off, cur, [] => if cur = [] then [] else [⟨off, cur, false⟩]
  | off, cur, c :: t => if c = 10 then ⟨off, cur, true⟩ :: goes (off + cur.length + 1) [] t else goes off (cur ++ [c]) t

theorem goes_nil (off : Nat) (cur : List UInt8) : goes off cur [] = if cur = [] then [] else [⟨off, cur, false⟩] := rfl
theorem goes_end (off : Nat) : goes off [] [] = [] := rfl
theorem goes_open (off : Nat) (cur : List UInt8) (h : cur ≠ []) : goes off cur [] = [⟨off, cur, false⟩] := by rw [goes_nil, if_neg h]
theorem goes_newline (off : Nat) (cur t : List UInt8) : goes off cur (10 :: t) = ⟨off, cur, true⟩ :: goes (off + cur.length + 1) [] t := by
  rw [goes, if_pos rfl]
theorem goes_byte (off : Nat) (cur t : List UInt8) (c : UInt8) (h : c ≠ 10) : goes off cur (c :: t) = goes off (cur ++ [c]) t := by
  rw [goes, if_neg h]

theorem goes_bare : ∀ (x : List UInt8) (off : Nat) (cur t : List UInt8), (10 : UInt8) ∉ x → goes off cur (x ++ t) = goes off (cur ++ x) t
  | [], off, cur, t, _ => by simp
  | c :: x, off, cur, t, h => by
    have h1 : c ≠ 10 := fun e => h (by simp [e])
    have h2 : (10 : UInt8) ∉ x := fun e => h (by simp [e])
    rw [List.cons_append, goes_byte _ _ _ _ h1, goes_bare x off (cur ++ [c]) t h2, List.append_assoc]
    rfl

/-- What a search for the first newline says of the lines: there is one. -/
theorem goes_found (off k : Nat) (t : List UInt8) (h : Lib.indexByte t 10 = (k : Int)) :
    k < t.length ∧ goes off [] t = ⟨off, t.take k, true⟩ :: goes (off + k + 1) [] (t.drop (k + 1)) := by
  obtain ⟨h1, h2⟩ := Lib.indexByte_some h
  obtain ⟨hk, h1⟩ := List.getElem?_eq_some_iff.1 h1
  refine ⟨hk, ?_⟩
  have e : t = t.take k ++ 10 :: t.drop (k + 1) := by
    rw [← h1, ← List.drop_eq_getElem_cons hk, List.take_append_drop]
  have hn : (10 : UInt8) ∉ t.take k := by
    intro hm
    obtain ⟨i, hi, he⟩ := List.getElem_of_mem hm
    have hik : i < k := by simp at hi; omega
    refine h2 i hik ?_
    rw [List.getElem?_eq_getElem (by omega), ← he, List.getElem_take]
  have e2 : goes off [] t = goes off [] (t.take k ++ 10 :: t.drop (k + 1)) := by rw [← e]
  rw [e2, goes_bare _ _ _ _ hn, List.nil_append, goes_newline]
  have e3 : (t.take k).length = k := by simp; omega
  rw [e3]
/-- .. there is none. -/
theorem goes_none (off : Nat) (t : List UInt8) (h : Lib.indexByte t 10 = -1) (h0 : t ≠ []) : goes off [] t = [⟨off, t, false⟩] := by
  have hn : (10 : UInt8) ∉ t := by
    intro hm
    obtain ⟨i, hi, he⟩ := List.getElem_of_mem hm
    exact Lib.indexByte_none h i (by rw [List.getElem?_eq_getElem hi, he])
  have := goes_bare t off [] [] hn
  rw [List.append_nil, List.nil_append] at this
  rw [this, goes_open _ _ h0]

/-- The lines of a text. -/
def linesOf (t : List UInt8) : List Ln := goes 0 [] t

/-- How many newlines there are. -/
def nls (t : List UInt8) : Nat := t.count 10
theorem nls_snoc (t : List UInt8) (k : Nat) (h : k < t.length) : nls (t.take (k + 1)) = nls (t.take k) + if t[k] = 10 then 1 else 0 := by
  unfold nls
  rw [List.take_succ_eq_append_getElem h, List.count_append, List.count_singleton]
  simp
theorem nls_le (t : List UInt8) : nls t ≤ t.length := List.count_le_length

/-- Does the text end in a byte that is no newline? -/
def openB (t : List UInt8) : Bool := match t.getLast? with
  | none => false
  | some c => c != 10
theorem goes_length : ∀ (t : List UInt8) (off : Nat) (cur : List UInt8), (goes off cur t).length = nls t + if (if t = [] then decide (cur ≠ []) else openB t) = true then 1 else 0
  | [], off, cur => by
    by_cases h : cur = [] <;> simp [goes_nil, h, nls]
  | c :: t, off, cur => by
    by_cases hc : c = 10
    · subst hc
      rw [goes_newline, List.length_cons, goes_length t]
      cases t with
      | nil => simp [nls, openB]
      | cons d t => simp [nls, openB]; omega
    · rw [goes_byte _ _ _ _ hc, goes_length t]
      cases t with
      | nil => simp [nls, openB, hc]
      | cons d t => simp [nls, openB, hc]
theorem lines_length (t : List UInt8) : (linesOf t).length = nls t + if openB t = true then 1 else 0 := by
  unfold linesOf
  rw [goes_length]
  cases t with
  | nil => simp [openB]
  | cons c t => simp

theorem goes_len_le : ∀ (t : List UInt8) (off : Nat) (cur : List UInt8), (goes off cur t).length ≤ t.length + if cur = [] then 0 else 1
  | [], off, cur => by by_cases h : cur = [] <;> simp [goes_nil, h]
  | c :: t, off, cur => by
    by_cases hc : c = 10
    · subst hc
      have := goes_len_le t (off + cur.length + 1) []
      rw [goes_newline, List.length_cons, List.length_cons]
      simp at this
      omega
    · have := goes_len_le t off (cur ++ [c])
      rw [goes_byte _ _ _ _ hc, List.length_cons]
      simp at this
      omega
theorem lines_le (t : List UInt8) : (linesOf t).length ≤ t.length := by
  have := goes_len_le t 0 []
  simpa [linesOf] using this

/-- Every line is no longer than the text, and none has a newline. -/
theorem goes_bound : ∀ (t : List UInt8) (off : Nat) (cur : List UInt8), (10 : UInt8) ∉ cur → ∀ x ∈ goes off cur t, x.off + x.text.length ≤ off + cur.length + t.length ∧ (10 : UInt8) ∉ x.text
  | [], off, cur, hc, x, hx => by
    rw [goes_nil] at hx
    split at hx
    · cases hx
    · simp at hx; subst hx; exact ⟨by simp, hc⟩
  | c :: t, off, cur, hcur, x, hx => by
    by_cases hc : c = 10
    · subst hc
      rw [goes_newline] at hx
      rcases List.mem_cons.1 hx with rfl | hx
      · exact ⟨by simp, hcur⟩
      · have := goes_bound t (off + cur.length + 1) [] (by simp) x hx
        simp only [List.length_nil, List.length_cons] at this ⊢
        exact ⟨by omega, this.2⟩
    · rw [goes_byte _ _ _ _ hc] at hx
      have := goes_bound t off (cur ++ [c]) (by simp [hcur]; exact fun e => hc e.symm) x hx
      simp only [List.length_append, List.length_cons, List.length_nil] at this ⊢
      exact ⟨by omega, this.2⟩
theorem lines_bound (t : List UInt8) (x : Ln) (hx : x ∈ linesOf t) : x.off + x.text.length ≤ t.length ∧ (10 : UInt8) ∉ x.text := by
  have := goes_bound t 0 [] (by simp) x hx
  simpa using this
end Go.Proofs.Ytcekifknbljbiaa
/- What the statements on lines come to, as plain mathematics. -/
namespace Go.Proofs.Ytcekifknbljbiaa
set_option maxRecDepth 100000

def Ln.shift (far : Nat) (x : Ln) : Ln := ⟨x.off + far, x.text, x.ends⟩
theorem shift_zero (x : Ln) : x.shift 0 = x := rfl
theorem map_shift_zero (l : List Ln) : l.map (Ln.shift 0) = l := by
  induction l with
  | nil => rfl
  | cons x l ih => rw [List.map_cons, ih, shift_zero]

theorem goes_shift : ∀ (t : List UInt8) (off d : Nat) (cur : List UInt8), goes (off + d) cur t = (goes off cur t).map (Ln.shift d)
  | [], off, d, cur => by
    rw [goes_nil, goes_nil]
    split <;> rfl
  | c :: t, off, d, cur => by
    by_cases hc : c = 10
    · subst hc
      rw [goes_newline, goes_newline, List.map_cons, ← goes_shift t]
      have e : off + d + cur.length + 1 = off + cur.length + 1 + d := by omega
      rw [e]; rfl
    · rw [goes_byte _ _ _ _ hc, goes_byte _ _ _ _ hc, goes_shift t]
theorem goes_parts : ∀ (a : List UInt8) (off : Nat) (cur b : List UInt8), goes off cur (a ++ 10 :: b) = goes off cur (a ++ [10]) ++ goes (off + cur.length + a.length + 1) [] b
  | [], off, cur, b => by
    rw [List.nil_append, List.nil_append, goes_newline, goes_newline, goes_end]; rfl
  | c :: a, off, cur, b => by
    by_cases hc : c = 10
    · subst hc
      rw [List.cons_append, List.cons_append, goes_newline, goes_newline, goes_parts a, List.cons_append]
      have e : off + cur.length + 1 + [].length (α := UInt8) + a.length + 1 = off + cur.length + (10 :: a).length + 1 := by simp; omega
      rw [e]
    · rw [List.cons_append, List.cons_append, goes_byte _ _ _ _ hc, goes_byte _ _ _ _ hc, goes_parts a]
      have e : off + (cur ++ [c]).length + a.length + 1 = off + cur.length + (c :: a).length + 1 := by simp; omega
      rw [e]
theorem lines_parts (a b : List UInt8) : linesOf (a ++ [10] ++ b) = linesOf (a ++ [10]) ++ (linesOf b).map (Ln.shift (a ++ [10]).length) := by
  unfold linesOf
  rw [List.append_assoc, List.singleton_append, goes_parts, ← goes_shift]
  simp

theorem goes_last_open : ∀ (t : List UInt8) (off : Nat) (cur : List UInt8), (if t = [] then cur ≠ [] else openB t = true) → ∃ ls o c, goes off cur t = ls ++ [⟨o, c, false⟩] ∧ goes off cur (t ++ [10]) = ls ++ [⟨o, c, true⟩]
  | [], off, cur, h => by
    rw [if_pos rfl] at h
    exact ⟨[], off, cur, by rw [goes_open _ _ h]; rfl, by rw [List.nil_append, goes_newline, goes_end]; rfl⟩
  | c :: t, off, cur, h => by
    rw [if_neg (by simp)] at h
    by_cases hc : c = 10
    · subst hc
      have h2 : if t = [] then ([] : List UInt8) ≠ [] else openB t = true := by
        cases t with
        | nil => simp [openB] at h
        | cons d t => simpa [openB] using h
      obtain ⟨ls, o, x, h3, h4⟩ := goes_last_open t (off + cur.length + 1) [] h2
      exact ⟨⟨off, cur, true⟩ :: ls, o, x, by rw [goes_newline, h3]; rfl, by rw [List.cons_append, goes_newline, h4]; rfl⟩
    · have h2 : if t = [] then cur ++ [c] ≠ [] else openB t = true := by
        cases t with
        | nil => simp
        | cons d t => simpa [openB] using h
      obtain ⟨ls, o, x, h3, h4⟩ := goes_last_open t off (cur ++ [c]) h2
      exact ⟨ls, o, x, by rw [goes_byte _ _ _ _ hc, h3], by rw [List.cons_append, goes_byte _ _ _ _ hc, h4]⟩
theorem lines_open (t : List UInt8) (h : openB t = true) : ∃ ls o c, linesOf t = ls ++ [⟨o, c, false⟩] ∧ linesOf (t ++ [10]) = ls ++ [⟨o, c, true⟩] := by
  refine goes_last_open t 0 [] ?_
  cases t with
  | nil => simp [openB] at h
  | cons c t => simpa using h
theorem goes_last_shut : ∀ (t : List UInt8) (off : Nat) (cur : List UInt8), (if t = [] then cur = [] else openB t = false) → goes off cur (t ++ [10]) = goes off cur t ++ [⟨off + cur.length + t.length, [], true⟩]
  | [], off, cur, h => by
    rw [if_pos rfl] at h
    subst h
    rw [List.nil_append, goes_newline, goes_end, goes_end]; rfl
  | c :: t, off, cur, h => by
    rw [if_neg (by simp)] at h
    by_cases hc : c = 10
    · subst hc
      have h2 : if t = [] then ([] : List UInt8) = [] else openB t = false := by
        cases t with
        | nil => simp
        | cons d t => simpa [openB] using h
      rw [List.cons_append, goes_newline, goes_newline, goes_last_shut t _ _ h2, List.cons_append]
      have e : off + cur.length + 1 + [].length (α := UInt8) + t.length = off + cur.length + (10 :: t).length := by simp; omega
      rw [e]
    · have h2 : if t = [] then cur ++ [c] = [] else openB t = false := by
        cases t with
        | nil => simp [openB, hc] at h
        | cons d t => simpa [openB] using h
      rw [List.cons_append, goes_byte _ _ _ _ hc, goes_byte _ _ _ _ hc, goes_last_shut t _ _ h2]
      have e : off + (cur ++ [c]).length + t.length = off + cur.length + (c :: t).length := by simp; omega
      rw [e]
theorem lines_shut (t : List UInt8) (h : openB t = false) : linesOf (t ++ [10]) = linesOf t ++ [⟨t.length, [], true⟩] := by
  have := goes_last_shut t 0 [] (by cases t with
    | nil => simp
    | cons c t => simpa using h)
  simpa [linesOf] using this

/-- What lines make, with the newlines that end them. -/
def made (ls : List Ln) : List UInt8 := ls.flatMap fun x => x.text ++ if x.ends then [10] else []
theorem made_snoc (ls : List Ln) (k : Nat) (h : k < ls.length) : made (ls.take (k + 1)) = made (ls.take k) ++ ls[k].text ++ if ls[k].ends then [10] else [] := by
  unfold made
  rw [List.take_succ_eq_append_getElem h, List.flatMap_append]
  simp
theorem goes_made : ∀ (t : List UInt8) (off : Nat) (cur : List UInt8), made (goes off cur t) = cur ++ t
  | [], off, cur => by
    rw [goes_nil]
    split
    · rename_i h; subst h; rfl
    · simp [made]
  | c :: t, off, cur => by
    by_cases hc : c = 10
    · subst hc
      have := goes_made t (off + cur.length + 1) []
      rw [goes_newline]
      unfold made at this ⊢
      rw [List.flatMap_cons, this]
      simp
    · rw [goes_byte _ _ _ _ hc, goes_made t]; simp
theorem lines_made (t : List UInt8) : made (linesOf t) = t := by
  have := goes_made t 0 []
  simpa [linesOf] using this
theorem goes_offs : ∀ (t : List UInt8) (off : Nat) (cur : List UInt8) (k : Nat) (h : k < (goes off cur t).length), (goes off cur t)[k].off = off + (made ((goes off cur t).take k)).length ∧
    ((goes off cur t)[k].ends = false → k + 1 = (goes off cur t).length ∧ (goes off cur t)[k].text ≠ [])
  | [], off, cur, k, h => by
    rw [goes_nil] at h
    by_cases hc : cur = []
    · simp [hc] at h
    · have e := goes_open off cur hc
      have h0 : k = 0 := by rw [if_neg hc] at h; simp at h; exact h
      subst h0
      simp only [e]
      simp [made, hc]
  | c :: t, off, cur, k, h => by
    by_cases hc : c = 10
    · subst hc
      have e := goes_newline off cur t
      simp only [e] at h ⊢
      cases k with
      | zero => simp [made]
      | succ k =>
        have h' : k < (goes (off + cur.length + 1) [] t).length := by simpa using h
        obtain ⟨h1, h2⟩ := goes_offs t (off + cur.length + 1) [] k h'
        simp only [List.getElem_cons_succ, List.take_succ_cons, List.length_cons]
        refine ⟨?_, fun he => ⟨by rw [(h2 he).1], (h2 he).2⟩⟩
        rw [h1]
        unfold made
        rw [List.flatMap_cons, List.length_append]
        simp
        omega
    · have e := goes_byte off cur t c hc
      simp only [e] at h ⊢
      exact goes_offs t off (cur ++ [c]) k h
theorem lines_offs (t : List UInt8) (k : Nat) (h : k < (linesOf t).length) : (linesOf t)[k].off = (made ((linesOf t).take k)).length ∧ ((linesOf t)[k].ends = false → k + 1 = (linesOf t).length ∧ (linesOf t)[k].text ≠ []) := by
  have := goes_offs t 0 [] k h
  rw [Nat.zero_add] at this
  exact this

/-- Texts, a newline behind each. -/
def joined (ls : List (List UInt8)) : List UInt8 := ls.flatMap fun l => l ++ [10]
theorem goes_joined : ∀ (ts : List (List UInt8)) (off : Nat), (∀ x ∈ ts, (10 : UInt8) ∉ x) → (goes off [] (joined ts)).map (fun x => (x.text, x.ends)) = ts.map (fun x => (x, true))
  | [], off, _ => rfl
  | x :: ts, off, h => by
    have e : joined (x :: ts) = x ++ 10 :: joined ts := by simp [joined]
    rw [e, goes_bare x _ _ _ (h x (by simp)), List.nil_append, goes_newline, List.map_cons, goes_joined ts _ (fun y hy => h y (by simp [hy]))]
    rfl
theorem lines_joined (ts : List (List UInt8)) (h : ∀ x ∈ ts, (10 : UInt8) ∉ x) : (linesOf (joined ts)).map (fun x => (x.text, x.ends)) = ts.map (fun x => (x, true)) := goes_joined ts 0 h
theorem nls_joined : ∀ ts : List (List UInt8), (∀ x ∈ ts, (10 : UInt8) ∉ x) → nls (joined ts) = ts.length
  | [], _ => rfl
  | x :: ts, h => by
    have e : joined (x :: ts) = x ++ 10 :: joined ts := by simp [joined]
    have h1 : x.count 10 = 0 := List.count_eq_zero.2 (h x (by simp))
    have h2 := nls_joined ts (fun y hy => h y (by simp [hy]))
    unfold nls at h2 ⊢
    rw [e, List.count_append, h1, List.count_cons, h2]
    simp
/-- How many bytes the texts have. -/
def total (ts : List (List UInt8)) : Nat := (ts.map List.length).sum
theorem total_snoc (ts : List (List UInt8)) (k : Nat) (h : k < ts.length) : total (ts.take (k + 1)) = total (ts.take k) + ts[k].length := by
  unfold total
  rw [List.take_succ_eq_append_getElem h, List.map_append, List.sum_append]
  simp
theorem joined_length : ∀ ts : List (List UInt8), (joined ts).length = total ts + ts.length
  | [] => rfl
  | x :: ts => by
    have e : joined (x :: ts) = x ++ 10 :: joined ts := by simp [joined]
    have := joined_length ts
    rw [e, List.length_append, List.length_cons, this]
    simp [total]
    omega
end Go.Proofs.Ytcekifknbljbiaa
/- Contracts of bytes.IndexByte, bytes.Clone. -/
namespace Go.Proofs.Ytcekifknbljbiaa
open Go.RowKit
set_option maxRecDepth 100000

set_option maxHeartbeats 1000000 in
theorem index_any (l : List UInt8) (b off cap : Nat) (w : World) (hc : ∀ i (h : i < l.length), w.cell? ⟨b, off + i, none⟩ = some (.int .u8 (l[i].toNat : Int))) :
    Calls Try.prog 46 #[.slice (some ⟨b, off, none⟩) l.length cap, .int .u8 10] w fun e w' => e = .returned (.int .i64 (Lib.indexByte l 10)) ∧ w = w' := by
  have hr := Lib.run_indexByteSlice (P := Try.prog) w b off l.length cap (l.map fun c => (c.toNat : Int)) (by simp) (fun i hi => by rw [getD_nums l i hi]; exact hc i hi) 10
  rw [bytesOf_nums] at hr
  have HC := Lib.hid hc
  have HR := Lib.hid hr
  clear hc hr
  go_enter Try.func46, Try.ntmps46
  go_wp2
  rw [run_callFunc_extern Try.func47 (by kernel_rfl) (by kernel_rfl) (by kernel_rfl) (e := Extern.BytealgIndexByte.indexByte) (by kernel_rfl), HR.out]
  simp only [Result.andThen]
  rw [Oper.upon_value]
  go_wp2
  go_ret
  exact ⟨rfl, rfl⟩

theorem eql_nil22 : ∀ (w : World) (a : Option Addr) (n c n' c' : Nat), (binOp .eql 38 (.slice a n c) (.slice none n' c')).run Try.prog w = .ok (.bool a.isNone) w :=
  fun w a n c n' c' => Lib.run_eql_slice_nil w _ _ a n c n' c' und22
set_option maxHeartbeats 2000000 in
theorem clone_some (l : List UInt8) (ad : Addr) (cap : Nat) (w : World) (hl : l.length ≤ 1000000000000) (hb : Bs w w.heap.size (some ad) l) :
    Calls Try.prog 40 #[.slice (some ad) l.length cap] w (GivesText w l) := by
  obtain ⟨i0, hi, hz0, hz1, hz2⟩ := info_parts info5
  have q22 := eql_nil22
  have HB := Lib.hid hb
  clear hb
  go_enter Try.func40, Try.ntmps40
  go_wp2_with (at_builtin; refine wpList_append_own _ rfl _ _ 38 rfl w.heap.size 5 i0 (.int .u8 0) 1 1 und22 hi hz0 hz1 hz2 rfl (by decide) _ _ _ rfl (World.ownsRow_made w #[] 0 (Nat.le_refl _) (Nat.zero_le _) rfl) ad l.length cap (vals l) rfl ?qc1 ?qc2 ?qc3 ?qc4 ?qc5 ?qc6 ?_)
  case qc1 => simp [vals]
  case qc2 =>
    intro j u hj
    have hjn : j < l.length := by have := (List.getElem?_eq_some_iff.1 hj).1; simpa [vals] using this
    obtain ⟨b, off, e, hlt, hc⟩ := HB.out (by omega)
    cases e
    have ea : (⟨b, off, none⟩ : Addr).add j = ⟨b, off + j, none⟩ := by unfold Addr.add; split <;> simp_all
    rw [ea]
    have hcc := hc j hjn
    refine Lib.cell?_alloc_some _ ?_
    rw [hcc]
    simpa [vals, hjn] using hj
  case qc3 => intro u hu; obtain ⟨x, _, rfl⟩ := List.mem_map.1 hu; rfl
  case qc4 => unfold maxLen; omega
  case qc5 => omega
  case qc6 => simp
  intro v' w1 hown hgrow hnil
  go_wp2
  go_ret
  obtain ⟨a, c, rfl, ht, hlc, hnc⟩ := own_txt (l := l) (by simpa using hown)
  exact ⟨a, c, rfl, ht, hlc, hnc, ((Below.refl _ w).alloc (Nat.le_refl _) _).grown hgrow (by simp) (by intro k hk; simp [Value.ownBlock] at hk; omega)⟩
set_option maxHeartbeats 1000000 in
theorem clone_none (n cap : Nat) (w : World) : Calls Try.prog 40 #[.slice none n cap] w (GivesText w []) := by
  have q22 := eql_nil22
  go_enter Try.func40, Try.ntmps40
  go_wp2
  go_ret
  exact ⟨none, 0, rfl, (fun h => absurd h (by simp)), Nat.le_refl _, fun _ => rfl, Below.refl _ _⟩
theorem clone_any (l : List UInt8) (a : Option Addr) (cap : Nat) (w : World) (hl : l.length ≤ 1000000000000) (hb : Bs w w.heap.size a l) :
    Calls Try.prog 40 #[.slice a l.length cap] w (GivesText w l) := by
  cases a with
  | some ad => exact clone_some l ad cap w hl hb
  | none =>
    rcases Nat.eq_zero_or_pos l.length with h0 | h0
    · obtain rfl := List.eq_nil_of_length_eq_zero h0
      exact clone_none _ cap w
    · obtain ⟨b, off, e, _⟩ := hb h0
      cases e
end Go.Proofs.Ytcekifknbljbiaa
/- Contracts of lines.at, lines.All. -/
namespace Go.Proofs.Ytcekifknbljbiaa
open Go.RowKit
set_option maxRecDepth 100000

/-- A line's value. -/
def lnv (x : Ln) (a : Option Addr) (cap : Nat) : Value := .agg #[.int .i64 (x.off : Int), .slice a x.text.length cap, .bool x.ends]
def GivesLine (w : World) (x : Ln) (e : Ending) (w' : World) : Prop :=
  ∃ a cap, e = .returned (lnv x a cap) ∧ Txt w' w.heap.size a x.text ∧ (a = none → cap = 0) ∧ Below w.heap.size w w'

theorem drop_cells {w : World} {l : List UInt8} {b o : Nat} (off : Nat) (hc : ∀ i (h : i < l.length), w.cell? ⟨b, o + i, none⟩ = some (.int .u8 (l[i].toNat : Int))) :
    ∀ i (h : i < (l.drop off).length), w.cell? ⟨b, o + off + i, none⟩ = some (.int .u8 ((l.drop off)[i].toNat : Int)) := fun i h => by
  have h' : off + i < l.length := by simp at h; omega
  rw [List.getElem_drop, ← hc (off + i) h', Nat.add_assoc]
theorem take_cells {w : World} {l : List UInt8} {b o : Nat} (k : Nat) (hc : ∀ i (h : i < l.length), w.cell? ⟨b, o + i, none⟩ = some (.int .u8 (l[i].toNat : Int))) :
    ∀ i (h : i < (l.take k).length), w.cell? ⟨b, o + i, none⟩ = some (.int .u8 ((l.take k)[i].toNat : Int)) := fun i h => by
  have h' : i < l.length := by simp at h; omega
  rw [List.getElem_take]
  exact hc i h'
theorem index_n (l : List UInt8) (b off cap n : Nat) (r : Int) (w : World) (hn : l.length = n) (hr : Lib.indexByte l 10 = r) (hc : ∀ i (h : i < l.length), w.cell? ⟨b, off + i, none⟩ = some (.int .u8 (l[i].toNat : Int))) :
    Calls Try.prog 46 #[.slice (some ⟨b, off, none⟩) n cap, .int .u8 10] w fun e w' => e = .returned (.int .i64 r) ∧ w = w' := by
  subst hn hr; exact index_any l b off cap w hc
theorem clone_n (l : List UInt8) (b off cap n : Nat) (w : World) (hn : l.length = n) (hl : l.length ≤ 1000000000000) (hb : b < w.heap.size) (hc : ∀ i (h : i < l.length), w.cell? ⟨b, off + i, none⟩ = some (.int .u8 (l[i].toNat : Int))) :
    Calls Try.prog 40 #[.slice (some ⟨b, off, none⟩) n cap] w (GivesText w l) := by
  subst hn; exact clone_any l _ cap w hl fun _ => ⟨b, off, rfl, hb, hc⟩

set_option maxHeartbeats 2000000 in
theorem at_found (l x : List UInt8) (b o cap off k : Nat) (w : World) (hl : l.length ≤ 1000000000000) (hcap : l.length ≤ cap) (hoff : off < l.length)
    (hbb : b < w.heap.size) (hc : ∀ i (h : i < l.length), w.cell? ⟨b, o + i, none⟩ = some (.int .u8 (l[i].toNat : Int))) (hk : Lib.indexByte (l.drop off) 10 = (k : Int)) (hx : x = (l.drop off).take k) (hkl : k ≤ l.length - off) :
    Calls Try.prog 42 #[.slice (some ⟨b, o, none⟩) l.length cap, .int .i64 (off : Int)] w (GivesLine w ⟨off, x, true⟩) := by
  have hdl : (l.drop off).length = l.length - off := List.length_drop
  have hbel : Below w.heap.size w (w.alloc (.cells #[.int .i64 0, .slice none 0 0, .bool false] 60)) := (Below.refl _ _).alloc (Nat.le_refl _) _
  have hc1 : ∀ i (h : i < l.length), (w.alloc (.cells #[.int .i64 0, .slice none 0 0, .bool false] 60)).cell? ⟨b, o + i, none⟩ = some (.int .u8 (l[i].toNat : Int)) := fun i h => (hbel.cell (p := ⟨b, o + i, none⟩) hbb).trans (hc i h)
  have hxl : x.length = k := by rw [hx]; simp; omega
  have ht := take_cells k (drop_cells off hc1)
  rw [← hx] at ht
  have HD := Lib.hid (drop_cells off hc1)
  have HT := Lib.hid ht
  have HK := Lib.hid hk
  have HDL := Lib.hid hdl
  have HTL := Lib.hid hxl
  clear hc hc1 hk hdl ht hxl hx
  go_enter Try.func42, Try.ntmps42
  go_wp2_with fail
  refine (index_n (l.drop off) b (o + off) (cap - off) (l.length - off) (k : Int) _ HDL.out HK.out HD.out).mono ?_
  rintro e w' ⟨rfl, rfl⟩
  go_wp2_with fail
  refine (clone_n x b (o + off) (cap - off) (k) _ HTL.out (by rw [HTL.out]; omega) (by simp; omega) HT.out).mono ?_
  rintro e w1 ⟨a1, cap1, rfl, ht1, hlc1, hnc1, hb1⟩
  have hbk : Blk3 (w.alloc (.cells #[.int .i64 0, .slice none 0 0, .bool false] 60)) w.heap.size 60 (.int .i64 0) (.slice none 0 0) (.bool false) := new_cells _ _ _ _ _
  have hbk1 := hbk.keep hb1 (by simp)
  obtain ⟨c0, c1, c2⟩ := hbk1.cells
  obtain ⟨f0, f1, f2⟩ := hbk1.free
  go_wp2
  refine bodyPost_ret (v := lnv ⟨off, x, true⟩ a1 cap1) ?_ rfl ⟨a1, cap1, rfl, Txt.less (s := w.heap.size + 1) (Txt.put3 (by simpa using ht1) (by omega)) (by omega), hnc1, below_put3 (hbel.trans (hb1.mono (by simp))) (Nat.le_refl _) _ _ _⟩
  obtain ⟨e0, e1, e2⟩ := (hbk1.put (.int .i64 (off : Int)) (.slice a1 x.length cap1) (.bool true)).cells
  unfold put3 at e0 e1 e2
  simp [results, Try.results42, go_sem, lnv, e0, e1, e2]
set_option maxHeartbeats 2000000 in
theorem at_none (l x : List UInt8) (b o cap off k : Nat) (w : World) (hl : l.length ≤ 1000000000000) (hcap : l.length ≤ cap) (hoff : off < l.length)
    (hbb : b < w.heap.size) (hc : ∀ i (h : i < l.length), w.cell? ⟨b, o + i, none⟩ = some (.int .u8 (l[i].toNat : Int))) (hk : Lib.indexByte (l.drop off) 10 = -1) (hkk : k = l.length - off) (hx : x = (l.drop off).take k) (_hkl : k ≤ l.length - off) :
    Calls Try.prog 42 #[.slice (some ⟨b, o, none⟩) l.length cap, .int .i64 (off : Int)] w (GivesLine w ⟨off, x, false⟩) := by
  have hdl : (l.drop off).length = l.length - off := List.length_drop
  have hbel : Below w.heap.size w (w.alloc (.cells #[.int .i64 0, .slice none 0 0, .bool false] 60)) := (Below.refl _ _).alloc (Nat.le_refl _) _
  have hc1 : ∀ i (h : i < l.length), (w.alloc (.cells #[.int .i64 0, .slice none 0 0, .bool false] 60)).cell? ⟨b, o + i, none⟩ = some (.int .u8 (l[i].toNat : Int)) := fun i h => (hbel.cell (p := ⟨b, o + i, none⟩) hbb).trans (hc i h)
  have hxl : x.length = l.length - off := by rw [hx]; simp; omega
  have ht := take_cells k (drop_cells off hc1)
  rw [← hx] at ht
  have HD := Lib.hid (drop_cells off hc1)
  have HT := Lib.hid ht
  have HK := Lib.hid hk
  have HDL := Lib.hid hdl
  have HTL := Lib.hid hxl
  clear hc hc1 hk hdl ht hxl hx hkk _hkl
  go_enter Try.func42, Try.ntmps42
  go_wp2_with fail
  refine (index_n (l.drop off) b (o + off) (cap - off) (l.length - off) (-1) _ HDL.out HK.out HD.out).mono ?_
  rintro e w' ⟨rfl, rfl⟩
  go_wp2_with fail
  refine (clone_n x b (o + off) (cap - off) (l.length - off) _ HTL.out (by rw [HTL.out]; omega) (by simp; omega) HT.out).mono ?_
  rintro e w1 ⟨a1, cap1, rfl, ht1, hlc1, hnc1, hb1⟩
  have hbk : Blk3 (w.alloc (.cells #[.int .i64 0, .slice none 0 0, .bool false] 60)) w.heap.size 60 (.int .i64 0) (.slice none 0 0) (.bool false) := new_cells _ _ _ _ _
  have hbk1 := hbk.keep hb1 (by simp)
  obtain ⟨c0, c1, c2⟩ := hbk1.cells
  obtain ⟨f0, f1, f2⟩ := hbk1.free
  go_wp2
  refine bodyPost_ret (v := lnv ⟨off, x, false⟩ a1 cap1) ?_ rfl ⟨a1, cap1, rfl, Txt.less (s := w.heap.size + 1) (Txt.put3 (by simpa using ht1) (by omega)) (by omega), hnc1, below_put3 (hbel.trans (hb1.mono (by simp))) (Nat.le_refl _) _ _ _⟩
  obtain ⟨e0, e1, e2⟩ := (hbk1.put (.int .i64 (off : Int)) (.slice a1 x.length cap1) (.bool false)).cells
  unfold put3 at e0 e1 e2
  simp [results, Try.results42, go_sem, lnv, e0, e1, e2]

/-- What stands behind off is a line and the rest. -/
theorem at_any (l : List UInt8) (b o cap off : Nat) (w : World) (hl : l.length ≤ 1000000000000) (hcap : l.length ≤ cap) (hoff : off < l.length)
    (hbb : b < w.heap.size) (hc : ∀ i (h : i < l.length), w.cell? ⟨b, o + i, none⟩ = some (.int .u8 (l[i].toNat : Int))) :
    ∃ x : Ln, Calls Try.prog 42 #[.slice (some ⟨b, o, none⟩) l.length cap, .int .i64 (off : Int)] w (GivesLine w x) ∧ x.off = off ∧ off + x.text.length ≤ l.length ∧
      goes off [] (l.drop off) = x :: goes (off + x.text.length + 1) [] (l.drop (off + x.text.length + 1)) := by
  have h0 : l.drop off ≠ [] := by intro e; have := congrArg List.length e; simp at this; omega
  have hge := Lib.indexByte_ge (l.drop off) 10
  by_cases hn : Lib.indexByte (l.drop off) 10 = -1
  · refine ⟨⟨off, l.drop off, false⟩, at_none l (l.drop off) b o cap off (l.length - off) w hl hcap hoff hbb hc hn rfl ?_ (Nat.le_refl _), rfl, ?_, ?_⟩
    · rw [List.take_of_length_le (by simp)]
    · simp; omega
    · rw [goes_none off _ hn h0]
      have e : l.drop (off + (l.drop off).length + 1) = [] := List.drop_of_length_le (by simp; omega)
      show _ = _ :: goes _ _ (l.drop (off + (l.drop off).length + 1))
      rw [e, goes_end]
  · obtain ⟨k, hk⟩ : ∃ k : Nat, Lib.indexByte (l.drop off) 10 = (k : Int) := ⟨(Lib.indexByte (l.drop off) 10).toNat, by omega⟩
    obtain ⟨hlt, hg⟩ := goes_found off k _ hk
    have hlt' : k < l.length - off := by simpa using hlt
    have hxl : ((l.drop off).take k).length = k := by simp; omega
    refine ⟨⟨off, (l.drop off).take k, true⟩, at_found l _ b o cap off k w hl hcap hoff hbb hc hk rfl (by omega), rfl, ?_, ?_⟩
    · show off + ((l.drop off).take k).length ≤ _
      rw [hxl]; omega
    · show _ = _ :: goes (off + ((l.drop off).take k).length + 1) [] (l.drop (off + ((l.drop off).take k).length + 1))
      rw [hxl, hg, List.drop_drop]
      rfl

/-- A call that hands out an iterator: a box with a text of the call's own. -/
def GivesAll (w : World) (l : List UInt8) (e : Ending) (w' : World) : Prop :=
  ∃ g a cap, e = .returned (.func (.func 41) #[] #[.pointer (some ⟨g, 0, none⟩)]) ∧ w.heap.size ≤ g ∧ w'.heap[g]? = some (.cells #[.slice a l.length cap] 38 (0, 0)) ∧
    Txt w' w.heap.size a l ∧ l.length ≤ cap ∧ Below w.heap.size w w'
set_option maxHeartbeats 2000000 in
theorem all_any (l : List UInt8) (a : Option Addr) (cap : Nat) (w : World) (hl : l.length ≤ 1000000000000) (hb : Bs w w.heap.size a l) :
    Calls Try.prog 34 #[.slice a l.length cap] w (GivesAll w l) := by
  go_enter Try.func34, Try.ntmps34
  go_wp2_with fail
  refine (clone_any l a cap _ hl hb).mono ?_
  rintro e w1 ⟨a1, cap1, rfl, ht1, hlc1, hnc1, hb1⟩
  go_wp2
  go_ret
  refine ⟨w1.heap.size, a1, cap1, rfl, hb1.size, heap_alloc_new w1 _, ht1.keep ((Below.refl _ _).alloc (Nat.le_refl _) _), hlc1, hb1.alloc hb1.size _⟩
end Go.Proofs.Ytcekifknbljbiaa
/- The contract of the iterator over lines. -/
namespace Go.Proofs.Ytcekifknbljbiaa
open Go.RowKit Go.Shelf
set_option maxRecDepth 100000
attribute [local go_sem] Oper.semAt_some

/-- A line, and where its bytes lie. -/
structure LnV where
  ln : Ln
  a : Option Addr
  cap : Nat
  nil0 : a = none → cap = 0
def LnV.val (x : LnV) : Value := lnv x.ln x.a x.cap

/-- What a round keeps: every block below m, but B; every block from s on. -/
structure Kept (B m s : Nat) (W W' : World) : Prop where
  size : W.heap.size ≤ W'.heap.size
  same : ∀ k, k < W.heap.size → k ≠ B → (k < m ∨ s ≤ k) → W'.heap[k]? = W.heap[k]?

theorem goes_done (off : Nat) (t : List UInt8) (h : t.length ≤ off) : goes off [] (t.drop off) = [] := by
  rw [List.drop_of_length_le h, goes_end]

theorem und45 : Try.prog.underlying 89 = some (.func #[60] #[4] false) := by kernel_rfl
theorem equalIn_func (w : World) (d : Nat) (f : Fn) (b c : Array Value) : (Op.equalIn (d + 1) 89 (.func f b c) .nilFunc).run Try.prog w = .ok false w := by
  simp [Op.equalIn, run_underlying und45]
theorem eql_func (w : World) (f : Fn) (b c : Array Value) : (binOp .eql 89 (.func f b c) .nilFunc).run Try.prog w = .ok (.bool false) w := by
  simp only [binOp]
  simp [Op.equal, Op.maxDepth, equalIn_func w 9999 f b c]

set_option maxRecDepth 100000 in
set_option maxHeartbeats 4000000 in
theorem all1_any (n l Bn B m : Nat) (t : List UInt8) (a0 : Option Addr) (cap0 : Nat) (ht : t.length ≤ 1000000000000) (hcap : t.length ≤ cap0) (J Jx : List LnV → World → Prop)
    (hJ : ∀ pre W W', J pre W → Below W.heap.size W W' → J pre W')
    (hY : ∀ pre x W0 W, J pre W0 → Below W0.heap.size W0 W → Txt W W0.heap.size x.a x.ln.text → (pre ++ [x]).map LnV.ln <+: linesOf t → YieldAt Fence.wide (n - 1) Try.prog l #[x.val] W fun e W' =>
      (e = .returned (.bool true) ∧ J (pre ++ [x]) W' ∧ Kept B m W0.heap.size W W') ∨ (e = .returned (.bool false) ∧ Jx (pre ++ [x]) W'))
    (W : World) (hm : m ≤ W.heap.size) (hbox : W.heap[Bn]? = some (.cells #[.slice a0 t.length cap0] 38 (0, 0))) (hBm : B < m) (hBn : Bn < m ∧ Bn ≠ B)
    (hT : 0 < t.length → ∃ b cs, a0 = some ⟨b, 0, none⟩ ∧ b < m ∧ b ≠ B ∧ W.heap[b]? = some (.cells cs 5 (0, 0)) ∧ ∀ i (h : i < t.length), cs[i]? = some (.int .u8 (t[i].toNat : Int))) (h0 : J [] W) :
    CallsIn Fence.wide n Try.prog 41 #[.func (.yield l) #[] #[], .pointer (some ⟨Bn, 0, none⟩)] W fun e W' => (∃ v, e = .returned v) ∧
      ((∃ xs, xs.map LnV.ln = linesOf t ∧ J xs W') ∨ (∃ pre, pre.map LnV.ln <+: linesOf t ∧ Jx pre W')) := by
  have qf := fun w => eql_func w (.yield l) #[] #[]
  refine callsIn_of_wp Try.func41 rfl trivial ?_ rfl
  simp only [Try.ntmps41, List.size_toArray, List.length_cons, List.length_nil, Nat.reduceAdd, Nat.reduceSub, Array.replicate_succ, Array.replicate_zero, List.push_toArray, List.append_toArray, List.nil_append, List.cons_append]
  gi_wp2
  clear qf
  gi_loopw [3] (fun i wr => ∃ (off : Nat) (pre : List LnV), i = .int .i64 off ∧ off ≤ t.length + 1 ∧ linesOf t = pre.map LnV.ln ++ goes off [] (t.drop off) ∧ J pre wr ∧ W.heap.size ≤ wr.heap.size ∧ (∀ k, k < m → k ≠ B → wr.heap[k]? = W.heap[k]?))
    (fun i _ => t.length + 1 - (intOf i).toNat)
  case atStart => exact ⟨0, [], rfl, by omega, by simp [linesOf], h0, Nat.le_refl _, fun _ _ _ => rfl⟩
  case round =>
    obtain ⟨off, pre, rfl, hoff, hlin, hJs, hsz, hkp⟩ := hrel
    have hboxr : Boxed wr Bn 38 (.slice a0 t.length cap0) := (hkp Bn hBn.1 hBn.2).trans hbox
    have hcb := hboxr.cell
    have HLIN := Lib.hid hlin
    have HY := Lib.hid hY
    have HJ := Lib.hid hJ
    have HKP := Lib.hid hkp
    clear hlin hY hJ
    clear hkp
    by_cases hlt : off < t.length
    · obtain ⟨b, cs, rfl, hbm, hbB, hhb, hcs⟩ := hT (by omega)
      have hhr : wr.heap[b]? = some (.cells cs 5 (0, 0)) := (HKP.out b hbm hbB).trans hhb
      have hcr : ∀ i (h : i < t.length), wr.cell? ⟨b, 0 + i, none⟩ = some (.int .u8 (t[i].toNat : Int)) := fun i h => by
        rw [Nat.zero_add, cell_of_row wr b _ _ 5 (0, 0) hhr]; exact hcs i h
      obtain ⟨x, hcall, hxo, hxl, hgo⟩ := at_any t b 0 cap0 off wr ht hcap hlt (txt_lt hhr) hcr
      have HGO := Lib.hid hgo
      have HXO := Lib.hid hxo
      clear hgo hxo hcr hcs hhb
      gi_wp2_with (fail)
      refine ⟨trivial, (fun h => by cases h), (callsIn_wide.2 hcall).mono ?_⟩
      rintro e w1 ⟨a1, cap1, rfl, ht1, hnc1, hb1⟩
      have hbk2 : Blk3 (w1.alloc (.cells #[.int .i64 (x.off : Int), .slice a1 x.text.length cap1, .bool x.ends] 60)) w1.heap.size 60 (.int .i64 (x.off : Int)) (.slice a1 x.text.length cap1) (.bool x.ends) := new_cells _ _ _ _ _
      have hb2 : Below wr.heap.size wr (w1.alloc (.cells #[.int .i64 (x.off : Int), .slice a1 x.text.length cap1, .bool x.ends] 60)) := hb1.alloc hb1.size _
      have ht2 : Txt (w1.alloc (.cells #[.int .i64 (x.off : Int), .slice a1 x.text.length cap1, .bool x.ends] 60)) wr.heap.size a1 x.text := ht1.keep ((Below.refl _ _).alloc (Nat.le_refl _) _)
      have hpf : Hid ((pre ++ [(⟨x, a1, cap1, hnc1⟩ : LnV)]).map LnV.ln <+: linesOf t) := Lib.hid (by
        rw [HLIN.out, HGO.out]
        exact ⟨goes (off + x.text.length + 1) [] (t.drop (off + x.text.length + 1)), by simp⟩)
      obtain ⟨fn, tmps, assign, body, hy, hR⟩ := HY.out pre ⟨x, a1, cap1, hnc1⟩ wr _ hJs hb2 ht2 hpf.out
      have HBK := Lib.hid hbk2
      simp only [LnV.val, lnv] at hy
      unfold lnv
      clear hbk2 ht2
      gi_wp2
      refine ⟨(fun h => by cases h), hR.mono ?_⟩
      rintro e W3 (⟨rfl, hJ3, hk3⟩ | ⟨rfl, hJx3⟩)
      · have hs1 := hb1.size
        have hbk3 : Blk3 W3 w1.heap.size 60 (.int .i64 (x.off : Int)) (.slice a1 x.text.length cap1) (.bool x.ends) :=
          (hk3.same w1.heap.size (by simp) (by omega) (.inr hs1)).trans HBK.out
        obtain ⟨d0, d1, d2⟩ := hbk3.cells
        clear hy hR
        gi_wp2
        go_roundw
        case rel =>
          have hs2 := hb2.size
          have hs3 := hk3.size
          refine ⟨off + x.text.length + 1, pre ++ [⟨x, a1, cap1, hnc1⟩], by go_num, by omega, ?_, hJ3, by omega, fun k hk hkB => ?_⟩
          · rw [HLIN.out, HGO.out]; simp
          · exact ((hk3.same k (by omega) hkB (.inl hk)).trans (hb2.block k (by omega))).trans (HKP.out k hk hkB)
        case measure => simp [intOf]; omega
      · gi_wp2
        refine bodyPost_ret (results_none rfl _ _ _) rfl ?_
        exact ⟨⟨_, rfl⟩, .inr ⟨pre ++ [⟨x, a1, cap1, hnc1⟩], hpf.out, hJx3⟩⟩
    · gi_wp2
      go_end0
      refine ⟨⟨_, rfl⟩, .inl ⟨pre, ?_, hJs⟩⟩
      have := HLIN.out
      rw [goes_done _ _ (by omega), List.append_nil] at this
      exact this.symm
end Go.Proofs.Ytcekifknbljbiaa
/- A loop over a text's lines: what its body must do. -/
namespace Go.Proofs.Ytcekifknbljbiaa
open Go.RowKit Go.Shelf
set_option maxRecDepth 100000

theorem own_below {β : Type} {B : Nat} {I : β → World → Prop} (h : OwnFrom B I) {s : β} {X Y : World} (hs : I s X) (hb : Below X.heap.size X Y) : I s Y :=
  h s X Y none hs (grown_of_below hb) (fun _ e => by cases e)

/-- How the body of a round may be left: off its end, or by a break. -/
def linePost (N B m s : Nat) (I : List LnV → World → Prop) (Ix : Nat → List LnV → World → Prop) (xs : List LnV) (W : World) : Exit → Act → World → Prop
  | .normal, _, W' => KeepsFrom N W W' ∧ Kept B m s W W' ∧ I xs W'
  | .exit id, _, W' => KeepsFrom N W W' ∧ Ix id xs W'
  | _, _, _ => False

set_option maxHeartbeats 1000000 in
theorem range_lines {g : Operand} {p : Tmp} {assign body : Code} {Q : Exit → Act → World → Prop} {a : Act} {w : World} (n Bn B : Nat)
    (hg : a.eval g = .func (.func 41) #[] #[.pointer (some ⟨Bn, 0, none⟩)])
    (t : List UInt8) (a0 : Option Addr) (cap0 : Nat) (ht : t.length ≤ 1000000000000) (hcap : t.length ≤ cap0)
    (hbox : w.heap[Bn]? = some (.cells #[.slice a0 t.length cap0] 38 (0, 0))) (hB : B < w.heap.size) (hBn : Bn ≠ B)
    (hT : 0 < t.length → ∃ b cs, a0 = some ⟨b, 0, none⟩ ∧ b ≠ B ∧ w.heap[b]? = some (.cells cs 5 (0, 0)) ∧ ∀ i (h : i < t.length), cs[i]? = some (.int .u8 (t[i].toNat : Int)))
    (I : List LnV → World → Prop) (Ix : Nat → List LnV → World → Prop) (hI : OwnFrom w.heap.size I) (hIx : ∀ id, OwnFrom w.heap.size (Ix id)) (h0 : I [] w) (act : LnV → Nat → Act)
    (hassign : ∀ (l : Nat) (x : LnV) (W : World) (K : Act → World → Prop), K (act x W.heap.size) (W.alloc (.cells #[.int .i64 (x.ln.off : Int), .slice x.a x.ln.text.length x.cap, .bool x.ln.ends] 60)) →
      assign.wpIn (Fence.wide.inRound l) (n - 1 - 1) Try.prog (Exit.then K (fun _ _ _ => False)) { tmps := a.tmps.setIfInBounds p x.val, defers := [] } W)
    (hbody : ∀ (l : Nat) (pre : List LnV) (x : LnV) (W0 W : World) (Bx : Nat), I pre W0 → Below W0.heap.size W0 W → Txt W W0.heap.size x.a x.ln.text → W0.heap.size ≤ Bx →
      Blk3 W Bx 60 (.int .i64 (x.ln.off : Int)) (.slice x.a x.ln.text.length x.cap) (.bool x.ln.ends) → w.heap.size < W0.heap.size → (pre ++ [x]).map LnV.ln <+: linesOf t →
      body.wpIn (Fence.wide.inRound l) (n - 1 - 1) Try.prog (linePost w.heap.size B w.heap.size W0.heap.size I Ix (pre ++ [x]) W) (act x Bx) W)
    (hdone : ∀ (D : Nat) (xs : List LnV) (W : World), w.heap.size ≤ D → xs.map LnV.ln = linesOf t → I xs W → W.heap[D]? = some (.deferred (some [])) → Q .normal { a with defers := { target := .collected D, args := #[] } :: a.defers } W)
    (hstop : ∀ (D id : Nat) (pre : List LnV) (W : World), w.heap.size ≤ D → pre.map LnV.ln <+: linesOf t → Ix id pre W → W.heap[D]? = some (.deferred (some [])) → (Code.exit id).wpIn Fence.wide n Try.prog Q { a with defers := { target := .collected D, args := #[] } :: a.defers } W) :
    (Code.rangeFunc g #[p] assign body).wpIn Fence.wide n Try.prog Q a w := by
  refine wpIn_rangeFunc fun fn hfn => ?_
  -- the record, by its state and its pending jump
  let rc : LoopState → Option Code → Loop := fun st pe => { state := st, pending := pe, fn := fn, tmps := a.tmps, params := #[p], assign := assign, body := body, defers := w.heap.size }
  obtain ⟨W1, hW1⟩ : ∃ W1, W1 = (w.alloc (.deferred (some []))).alloc (.loop (rc .ready none)) := ⟨_, rfl⟩
  have fD : W1.heap[w.heap.size]? = some (.deferred (some [])) := by
    rw [hW1]; exact (Below.heap_alloc _ _ _ (by simp)).trans (World.alloc_heap_new w _)
  have fL : W1.heap[w.heap.size + 1]? = some (.loop (rc .ready none)) := by
    have h := World.alloc_heap_new (w.alloc (.deferred (some []))) (.loop (rc .ready none))
    rw [World.size_alloc] at h
    rw [hW1]; exact h
  have fB : Below w.heap.size w W1 := by
    rw [hW1]; exact ((Below.refl _ w).alloc (Nat.le_refl _) _).alloc (by simp) _
  refine ⟨w.heap.size + 1, [{ target := .collected w.heap.size, args := #[] }], W1, { target := .fn (.func 41) #[.pointer (some ⟨Bn, 0, none⟩)], args := #[.func (.yield (w.heap.size + 1)) #[] #[]] }, W1, 41,
    #[.func (.yield (w.heap.size + 1)) #[] #[], .pointer (some ⟨Bn, 0, none⟩)], W1, ?_, ?_, fun _ _ => trivial, ?_, (fun h => by cases h), ?_⟩
  · rw [hW1]; exact run_enterLoop_outer fn a.tmps #[p] assign body
  · simp only [resolve, hg]; simp [go_sem]
  · simp [invoke, go_sem]
  refine (all1_any (n - 1) (w.heap.size + 1) Bn B w.heap.size t a0 cap0 ht hcap
    (fun pre W => I pre W ∧ W.heap[w.heap.size + 1]? = some (.loop (rc .ready none)) ∧ W.heap[w.heap.size]? = some (.deferred (some [])))
    (fun pre W => ∃ id, Ix id pre W ∧ W.heap[w.heap.size + 1]? = some (.loop (rc .done (some (.exit id)))) ∧ W.heap[w.heap.size]? = some (.deferred (some [])))
    ?abides ?yields W1 fB.size ((fB.block Bn (txt_lt hbox)).trans hbox) hB ⟨txt_lt hbox, hBn⟩ ?text ⟨own_below hI h0 fB, fL, fD⟩).mono ?_
  case abides =>
    rintro pre X Y ⟨h1, h2, h3⟩ hb
    exact ⟨own_below hI h1 hb, (hb.block _ (txt_lt h2)).trans h2, (hb.block _ (txt_lt h3)).trans h3⟩
  case text =>
    intro hp
    obtain ⟨b, cs, e, hb, hh, hc⟩ := hT hp
    exact ⟨b, cs, e, txt_lt hh, hb, (fB.block b (txt_lt hh)).trans hh, hc⟩
  case yields =>
    rintro pre x W0 W ⟨hi, hl0, hd0⟩ hb htx hpf
    have ltL : w.heap.size + 1 < W0.heap.size := txt_lt hl0
    have ltD : w.heap.size < W0.heap.size := txt_lt hd0
    have hl : W.heap[w.heap.size + 1]? = some (.loop (rc .ready none)) := (hb.block _ ltL).trans hl0
    have hd : W.heap[w.heap.size]? = some (.deferred (some [])) := (hb.block _ ltD).trans hd0
    refine ⟨fn, _, assign, body, run_yield (args := #[x.val]) hl rfl, roundIn_of_wpIn hfn ?_⟩
    have et : (((rc .ready none).params.zip #[x.val]).foldl (fun tmps (t, a) => tmps.setIfInBounds t a) (rc .ready none).tmps) = a.tmps.setIfInBounds p x.val := by simp [rc]
    rw [et]
    refine hassign _ x W _ ?_
    obtain ⟨Wa, hWa⟩ : ∃ Wa, Wa = W.alloc (.cells #[.int .i64 (x.ln.off : Int), .slice x.a x.ln.text.length x.cap, .bool x.ln.ends] 60) := ⟨_, rfl⟩
    have ba : Below W.heap.size W Wa := by rw [hWa]; exact (Below.refl _ _).alloc (Nat.le_refl _) _
    have sa : Wa.heap.size = W.heap.size + 1 := by rw [hWa]; simp
    have ka : Blk3 Wa W.heap.size 60 (.int .i64 (x.ln.off : Int)) (.slice x.a x.ln.text.length x.cap) (.bool x.ln.ends) := by rw [hWa]; exact new_cells _ _ _ _ _
    rw [← hWa]
    have ltW := hb.size
    have la := (ba.block _ (by omega)).trans hl
    have da := (ba.block _ (by omega)).trans hd
    refine ⟨_, run_beginRound la rfl, ?_⟩
    obtain ⟨o, ho⟩ : ∃ o : Obj, o = .loop { rc .ready none with state := .busy } := ⟨_, rfl⟩
    rw [← ho]
    have lb : (Wa.putObj (w.heap.size + 1) o).heap[w.heap.size + 1]? = some o := World.putObj_heap_same (by omega)
    have db : (Wa.putObj (w.heap.size + 1) o).heap[w.heap.size]? = some (.deferred (some [])) := (World.putObj_heap_other (by omega)).trans da
    have bb : Below (W0.putObj (w.heap.size + 1) o).heap.size (W0.putObj (w.heap.size + 1) o) (Wa.putObj (w.heap.size + 1) o) := by
      refine ⟨ba.os.trans hb.os, ba.tape.trans hb.tape, ba.output.trans hb.output, by simp; omega, fun k hk => ?_⟩
      rw [World.putObj_size] at hk
      by_cases e : k = w.heap.size + 1
      · subst e; rw [World.putObj_heap_same (by omega), World.putObj_heap_same (by omega)]
      · rw [World.putObj_heap_other e, World.putObj_heap_other e]
        exact (ba.block k (by omega)).trans (hb.block k hk)
    have tb : Txt (Wa.putObj (w.heap.size + 1) o) (W0.putObj (w.heap.size + 1) o).heap.size x.a x.ln.text := fun hp => by
      obtain ⟨b, cs, e, hs, hh, hc⟩ := (htx.keep ba) hp
      exact ⟨b, cs, e, by simpa using hs, (World.putObj_heap_other (by omega)).trans hh, hc⟩
    have kb : Blk3 (Wa.putObj (w.heap.size + 1) o) W.heap.size 60 (.int .i64 (x.ln.off : Int)) (.slice x.a x.ln.text.length x.cap) (.bool x.ln.ends) := (World.putObj_heap_other (by omega)).trans ka
    refine wpIn_mono (hbody (w.heap.size + 1) pre x (W0.putObj (w.heap.size + 1) o) (Wa.putObj (w.heap.size + 1) o) W.heap.size (hI.putObj _ hi (by omega) hl0 rfl) bb tb (by simpa using ltW) kb (by simpa using ltD) hpf) ?_
    rintro e a3 W3 hp
    cases e with
    | normal =>
      obtain ⟨k3, q3, i3⟩ := hp
      have l3 := k3.same _ _ (by omega) lb (by rw [ho]; rfl)
      have d3 := k3.same _ _ (Nat.le_refl _) db rfl
      rw [ho] at l3
      refine ⟨_, _, run_endRound none l3, .inl ⟨rfl, ⟨hI.putObj _ i3 (by omega) l3 rfl, World.putObj_heap_same (txt_lt l3), (World.putObj_heap_other (by omega)).trans d3⟩, ?_⟩⟩
      have z3 := q3.size
      rw [World.putObj_size] at z3
      refine ⟨by rw [World.putObj_size]; omega, fun k hk hkB hks => ?_⟩
      have hne : k ≠ w.heap.size + 1 := by omega
      rw [World.putObj_heap_other hne, q3.same k (by simp; omega) hkB (by simpa using hks), World.putObj_heap_other hne]
      exact ba.block k hk
    | exit id =>
      obtain ⟨k3, i3⟩ := hp
      have l3 := k3.same _ _ (by omega) lb (by rw [ho]; rfl)
      have d3 := k3.same _ _ (Nat.le_refl _) db rfl
      rw [ho] at l3
      exact ⟨_, _, run_endRound (some (.exit id)) l3, .inr ⟨rfl, id, (hIx id).putObj _ i3 (by omega) l3 rfl, World.putObj_heap_same (txt_lt l3), (World.putObj_heap_other (by omega)).trans d3⟩⟩
    | ret => exact hp.elim
    | goto _ => exact hp.elim
    | panic _ => exact hp.elim
    | outgrown => exact hp.elim
  · rintro e W2 ⟨⟨v, rfl⟩, ⟨xs, hS, hi, hl, hd⟩ | ⟨pre, hS, id, hi, hl, hd⟩⟩
    · exact ⟨none, _, run_endLoop hl (by simp [rc]), hdone _ xs _ (Nat.le_refl _) hS (hI.putObj _ hi (by omega) hl rfl) ((World.putObj_heap_other (by omega)).trans hd)⟩
    · exact ⟨some (.exit id), _, run_endLoop hl (by simp [rc]), hstop _ id pre _ (Nat.le_refl _) hS ((hIx id).putObj _ hi (by omega) hl rfl) ((World.putObj_heap_other (by omega)).trans hd)⟩
end Go.Proofs.Ytcekifknbljbiaa
/- The contract of the reference's Split. -/
namespace Go.Proofs.Ytcekifknbljbiaa
open Go.RowKit
set_option maxRecDepth 100000

def rcells (x : Ln) : List Value := [.int .i64 (x.off : Int), .string (str x.text), .bool x.ends]
/-- The bytes between two places. -/
def mid (t : List UInt8) (i j : Nat) : List UInt8 := (t.take j).drop i
theorem mid_len (t : List UInt8) (i j : Nat) (h : j ≤ t.length) : (mid t i j).length = j - i := by simp [mid]; omega
theorem mid_self (t : List UInt8) (i : Nat) : mid t i i = [] := by
  unfold mid
  exact List.drop_of_length_le (by simp; omega)
theorem mid_snoc (t : List UInt8) (i k : Nat) (hi : i ≤ k) (h : k < t.length) : mid t i (k + 1) = mid t i k ++ [t[k]] := by
  unfold mid
  rw [List.take_succ_eq_append_getElem h, List.drop_append_of_le_length (by simp; omega)]
theorem goes_step10 (t : List UInt8) (i k : Nat) (hi : i ≤ k) (h : k < t.length) (h10 : t[k] = 10) :
    goes i (mid t i k) (t.drop k) = ⟨i, mid t i k, true⟩ :: goes (k + 1) (mid t (k + 1) (k + 1)) (t.drop (k + 1)) := by
  rw [List.drop_eq_getElem_cons h, h10, goes_newline, mid_len t i k (by omega), mid_self]
  have e : i + (k - i) + 1 = k + 1 := by omega
  rw [e]
theorem goes_step (t : List UInt8) (i k : Nat) (hi : i ≤ k) (h : k < t.length) (h10 : t[k] ≠ 10) :
    goes i (mid t i k) (t.drop k) = goes i (mid t i (k + 1)) (t.drop (k + 1)) := by
  rw [List.drop_eq_getElem_cons h, goes_byte _ _ _ _ h10, mid_snoc t i k hi h]
theorem extract_mid (t : List UInt8) (i j : Nat) : (str t).extract i j = str (mid t i j) := by
  apply ByteArray.ext
  simp [str, mid, List.drop_take]

end Go.Proofs.Ytcekifknbljbiaa
