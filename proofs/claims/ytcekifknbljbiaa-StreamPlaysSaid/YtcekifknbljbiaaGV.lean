/- Package by package: VMath V2. -/
import Derived.Test.YtcekifknbljbiaaGW
/- Mathematics of stages 18 and 20: a window's room and moves; lines of bytes that come in pieces. -/
namespace Go.Proofs.Ytcekifknbljbiaa.Stm
set_option maxRecDepth 100000
abbrev Tx := List UInt8
/-- What a window holds, its room, and how many bytes were moved. -/
structure Wn where
  held : Tx
  room : Nat
  move : Nat
deriving DecidableEq
def wnNew : Wn := ⟨[], 0, 0⟩
/-- The room behind more bytes than there is room for. -/
def grown (r n : Nat) : Nat := max (max (2 * r) n) 16
def Wn.add (w : Wn) (b : Tx) : Wn :=
  if b = [] then w
  else if w.room < w.held.length + b.length then ⟨w.held ++ b, grown w.room (w.held.length + b.length), w.move + w.held.length + b.length⟩
  else ⟨w.held ++ b, w.room, w.move + b.length⟩
def Wn.clear (w : Wn) : Wn := ⟨[], w.room, w.move⟩
theorem Wn.add_held (w : Wn) (b : Tx) : (w.add b).held = w.held ++ b := by
  unfold Wn.add
  split
  · rename_i h; rw [h, List.append_nil]
  · split <;> rfl
/-- n bytes were added in all. -/
structure WInv (n : Nat) (w : Wn) : Prop where
  least : n ≤ w.move
  most : w.move ≤ 3 * n
  copied : w.move ≤ n + w.room
  fits : w.held.length ≤ w.room
  came : w.held.length ≤ n
theorem winv_new : WInv 0 wnNew := ⟨Nat.le_refl _, Nat.le_refl _, Nat.le_refl _, Nat.le_refl _, Nat.le_refl _⟩
theorem WInv.add {n : Nat} {w : Wn} (h : WInv n w) (b : Tx) : WInv (n + b.length) (w.add b) := by
  obtain ⟨h1, h2, h3, h4, h5⟩ := h
  unfold Wn.add
  split
  · rename_i e
    subst e
    exact ⟨by simpa using h1, by simpa using h2, by simpa using h3, h4, by simpa using h5⟩
  · split
    · refine ⟨?_, ?_, ?_, ?_, ?_⟩ <;> simp only [List.length_append, grown] <;> omega
    · refine ⟨?_, ?_, ?_, ?_, ?_⟩ <;> simp only [List.length_append] <;> omega
theorem WInv.clear {n : Nat} {w : Wn} (h : WInv n w) : WInv n w.clear := ⟨h.least, h.most, h.copied, Nat.zero_le _, Nat.zero_le _⟩
theorem Wn.room_add (w : Wn) (b : Tx) : w.room ≤ (w.add b).room := by
  unfold Wn.add grown
  split
  · exact Nat.le_refl _
  · split
    · show w.room ≤ max (max (2 * w.room) (w.held.length + b.length)) 16
      omega
    · exact Nat.le_refl _
/-- A line that is told. -/
structure Sl where
  num : Nat
  off : Nat
  text : Tx
deriving DecidableEq
/-- A stream: its window, how many lines ended, how many bytes these have, how many bytes were read, whether it is over, and whether it failed. -/
structure St where
  w : Wn
  most : Nat
  num : Nat
  off : Nat
  hunt : Nat
  over : Bool
  bad : Bool
def stNew (most : Nat) : St := ⟨wnNew, most, 0, 0, 0, false, false⟩
/-- A line that ends with some bytes. -/
def St.line (s : St) (rest : Tx) : St :=
  { s with w := if s.w.held = [] then s.w else (s.w.add rest).clear, num := s.num + 1, off := s.off + (s.w.held ++ rest).length + 1 }
def St.told (s : St) (rest : Tx) : Sl := ⟨s.num, s.off, s.w.held ++ rest⟩
/-- A chunk; part: what came of the line in this chunk. -/
def St.go (s : St) (part : Tx) : Tx → St × List Sl
  | [] => ({ s with w := s.w.add part }, [])
  | c :: t =>
    if c = 10 then let r := ({ s with hunt := s.hunt + 1 } : St).line part |>.go [] t; (r.1, s.told part :: r.2)
    else if s.most < s.w.held.length + part.length + 1 then ({ s with hunt := s.hunt + 1, over := true, bad := true }, [])
    else ({ s with hunt := s.hunt + 1 } : St).go (part ++ [c]) t
def St.feed (s : St) (chunk : Tx) : St × List Sl := if s.over then (s, []) else s.go [] chunk
def St.fin (s : St) : St × List Sl :=
  if s.over then (s, [])
  else if s.w.held = [] then ({ s with over := true }, [])
  else (({ s with over := true } : St).line [], [s.told []])
/-! The same of all bytes, however they come. -/
/-- The lines that are told. -/
def told (most : Nat) : Nat → Nat → Tx → Tx → List Sl
  | _, _, _, [] => []
  | num, off, cur, c :: t => if c = 10 then ⟨num, off, cur⟩ :: told most (num + 1) (off + cur.length + 1) [] t else if most < cur.length + 1 then [] else told most num off (cur ++ [c]) t
/-- Is a line too long? -/
def fails (most : Nat) : Tx → Tx → Bool
  | _, [] => false
  | cur, c :: t => if c = 10 then fails most [] t else if most < cur.length + 1 then true else fails most (cur ++ [c]) t
/-- Where it stands then: the number of the line, where it begins, and what came of it. -/
def num' (most : Nat) : Nat → Tx → Tx → Nat
  | num, _, [] => num
  | num, cur, c :: t => if c = 10 then num' most (num + 1) [] t else if most < cur.length + 1 then num else num' most num (cur ++ [c]) t
def off' (most : Nat) : Nat → Tx → Tx → Nat
  | off, _, [] => off
  | off, cur, c :: t => if c = 10 then off' most (off + cur.length + 1) [] t else if most < cur.length + 1 then off else off' most off (cur ++ [c]) t
def cur' (most : Nat) : Tx → Tx → Tx
  | cur, [] => cur
  | cur, c :: t => if c = 10 then cur' most [] t else if most < cur.length + 1 then cur else cur' most (cur ++ [c]) t
/-- How many bytes are read. -/
def reads (most : Nat) : Tx → Tx → Nat
  | _, [] => 0
  | cur, c :: t => (if c = 10 then reads most [] t else if most < cur.length + 1 then 0 else reads most (cur ++ [c]) t) + 1
theorem reads_le (most : Nat) : ∀ (t cur : Tx), reads most cur t ≤ t.length
  | [], _ => Nat.le_refl _
  | c :: t, cur => by
    have h1 := reads_le most t []
    have h2 := reads_le most t (cur ++ [c])
    rw [reads, List.length_cons]
    split
    · omega
    · split <;> omega
theorem reads_all (most : Nat) : ∀ (t cur : Tx), fails most cur t = false → reads most cur t = t.length
  | [], _, _ => rfl
  | c :: t, cur, h => by
    rw [fails] at h
    rw [reads, List.length_cons]
    by_cases h1 : c = 10
    · rw [if_pos h1] at h ⊢
      rw [reads_all most t [] h]
    · rw [if_neg h1] at h ⊢
      by_cases h2 : most < cur.length + 1
      · rw [if_pos h2] at h; cases h
      · rw [if_neg h2] at h ⊢
        rw [reads_all most t (cur ++ [c]) h]
/-- Of two pieces, one behind the other. -/
theorem fails_append (most : Nat) : ∀ (a cur b : Tx), fails most cur (a ++ b) = (fails most cur a || fails most (cur' most cur a) b)
  | [], cur, b => by simp [fails, cur']
  | c :: a, cur, b => by
    rw [List.cons_append, fails, fails, cur']
    by_cases h1 : c = 10
    · rw [if_pos h1, if_pos h1, if_pos h1, fails_append most a]
    · rw [if_neg h1, if_neg h1, if_neg h1]
      by_cases h2 : most < cur.length + 1
      · rw [if_pos h2, if_pos h2, Bool.true_or]
      · rw [if_neg h2, if_neg h2, if_neg h2, fails_append most a]
theorem told_append (most : Nat) : ∀ (a : Tx) (num off : Nat) (cur b : Tx), told most num off cur (a ++ b) = told most num off cur a ++ if fails most cur a = true then [] else told most (num' most num cur a) (off' most off cur a) (cur' most cur a) b
  | [], num, off, cur, b => by simp [told, fails, num', off', cur']
  | c :: a, num, off, cur, b => by
    rw [List.cons_append, told, told, fails, num', off', cur']
    by_cases h1 : c = 10
    · simp only [if_pos h1]
      rw [told_append most a, List.cons_append]
    · simp only [if_neg h1]
      by_cases h2 : most < cur.length + 1
      · simp only [if_pos h2]
        rfl
      · simp only [if_neg h2]
        rw [told_append most a]
theorem pos_append (most : Nat) : ∀ (a : Tx) (num off : Nat) (cur b : Tx), fails most cur a = false → num' most num cur (a ++ b) = num' most (num' most num cur a) (cur' most cur a) b ∧ off' most off cur (a ++ b) = off' most (off' most off cur a) (cur' most cur a) b ∧ cur' most cur (a ++ b) = cur' most (cur' most cur a) b ∧ reads most cur (a ++ b) = a.length + reads most (cur' most cur a) b
  | [], num, off, cur, b, _ => ⟨rfl, rfl, rfl, by simp [cur']⟩
  | c :: a, num, off, cur, b, h => by
    rw [fails] at h
    rw [List.cons_append, num', num', off', off', cur', cur', reads]
    by_cases h1 : c = 10
    · simp only [if_pos h1] at h ⊢
      obtain ⟨q1, q2, q3, q4⟩ := pos_append most a (num + 1) (off + cur.length + 1) [] b h
      exact ⟨q1, q2, q3, by rw [q4, List.length_cons]; omega⟩
    · simp only [if_neg h1] at h ⊢
      by_cases h2 : most < cur.length + 1
      · rw [if_pos h2] at h; cases h
      · simp only [if_neg h2] at h ⊢
        obtain ⟨q1, q2, q3, q4⟩ := pos_append most a num off (cur ++ [c]) b h
        exact ⟨q1, q2, q3, by rw [q4, List.length_cons]; omega⟩
theorem pos_stop (most : Nat) : ∀ (a : Tx) (num off : Nat) (cur b : Tx), fails most cur a = true → num' most num cur (a ++ b) = num' most num cur a ∧ off' most off cur (a ++ b) = off' most off cur a ∧ reads most cur (a ++ b) = reads most cur a
  | [], _, _, _, _, h => by cases h
  | c :: a, num, off, cur, b, h => by
    rw [fails] at h
    rw [List.cons_append, num', num', off', off', reads, reads]
    by_cases h1 : c = 10
    · simp only [if_pos h1] at h ⊢
      obtain ⟨q1, q2, q4⟩ := pos_stop most a (num + 1) (off + cur.length + 1) [] b h
      exact ⟨q1, q2, by rw [q4]⟩
    · simp only [if_neg h1] at h ⊢
      by_cases h2 : most < cur.length + 1
      · simp [h2]
      · simp only [if_neg h2] at h ⊢
        obtain ⟨q1, q2, q4⟩ := pos_stop most a num off (cur ++ [c]) b h
        exact ⟨q1, q2, by rw [q4]⟩
/-- What a chunk does to a stream is what it does to all bytes. -/
theorem go_is : ∀ (t : Tx) (s : St) (part : Tx), (s.go part t).2 = told s.most s.num s.off (s.w.held ++ part) t ∧ (s.go part t).1.hunt = s.hunt + reads s.most (s.w.held ++ part) t ∧ (s.go part t).1.most = s.most ∧ (s.go part t).1.num = num' s.most s.num (s.w.held ++ part) t ∧ (s.go part t).1.off = off' s.most s.off (s.w.held ++ part) t ∧
    (fails s.most (s.w.held ++ part) t = true → (s.go part t).1.over = true ∧ (s.go part t).1.bad = true) ∧ (fails s.most (s.w.held ++ part) t = false → (s.go part t).1.over = s.over ∧ (s.go part t).1.bad = s.bad ∧ (s.go part t).1.w.held = cur' s.most (s.w.held ++ part) t)
  | [], s, part => by
    refine ⟨rfl, rfl, rfl, rfl, rfl, (fun h => by cases h), fun _ => ⟨rfl, rfl, ?_⟩⟩
    show (s.w.add part).held = _
    rw [Wn.add_held]; rfl
  | c :: t, s, part => by
    rw [St.go, told, reads, num', off', fails, cur']
    by_cases h1 : c = 10
    · simp only [if_pos h1]
      have hh : (({ s with hunt := s.hunt + 1 } : St).line part).w.held = [] := by
        unfold St.line
        show (if s.w.held = [] then s.w else (s.w.add part).clear).held = []
        split
        · assumption
        · rfl
      obtain ⟨q1, q2, q3, q4, q5, q6, q7⟩ := go_is t (({ s with hunt := s.hunt + 1 } : St).line part) []
      rw [hh, List.append_nil] at q1 q2 q4 q5 q6 q7
      refine ⟨?_, ?_, q3, q4, q5, q6, q7⟩
      · rw [q1]; rfl
      · rw [q2]
        show s.hunt + 1 + reads s.most [] t = _
        omega
    · simp only [if_neg h1, List.length_append]
      by_cases h2 : s.most < s.w.held.length + part.length + 1
      · simp [h2]
      · simp only [if_neg h2]
        obtain ⟨q1, q2, q3, q4, q5, q6, q7⟩ := go_is t ({ s with hunt := s.hunt + 1 } : St) (part ++ [c])
        rw [← List.append_assoc] at q1 q2 q4 q5 q6 q7
        refine ⟨q1, ?_, q3, q4, q5, q6, q7⟩
        rw [q2]
        show s.hunt + 1 + reads s.most (s.w.held ++ part ++ [c]) t = _
        omega
end Go.Proofs.Ytcekifknbljbiaa.Stm
/- Mathematics of stage 20: all chunks, and the end; the lines are those of all bytes; what is moved. -/
namespace Go.Proofs.Ytcekifknbljbiaa.Stm
set_option maxRecDepth 100000
/-- Chunks, one behind the other. -/
def St.feeds (s : St) : List Tx → St × List Sl
  | [] => (s, [])
  | x :: l => (((s.feed x).1.feeds l).1, (s.feed x).2 ++ ((s.feed x).1.feeds l).2)
theorem feed_over {s : St} (h : s.over = true) (x : Tx) : s.feed x = (s, []) := by rw [St.feed, if_pos h]
theorem feeds_over {s : St} (h : s.over = true) : ∀ l, s.feeds l = (s, [])
  | [] => rfl
  | x :: l => by rw [St.feeds, feed_over h]; simp [feeds_over h l]
theorem fin_over {s : St} (h : s.over = true) : s.fin = (s, []) := by rw [St.fin, if_pos h]
/-- What chunks do to a stream is what all bytes do. -/
theorem feeds_is : ∀ (l : List Tx) (s : St), s.over = false → s.bad = false → (s.feeds l).2 = told s.most s.num s.off s.w.held l.flatten ∧ (s.feeds l).1.hunt = s.hunt + reads s.most s.w.held l.flatten ∧ (s.feeds l).1.most = s.most ∧ (s.feeds l).1.num = num' s.most s.num s.w.held l.flatten ∧ (s.feeds l).1.off = off' s.most s.off s.w.held l.flatten ∧
    (s.feeds l).1.over = fails s.most s.w.held l.flatten ∧ (s.feeds l).1.bad = fails s.most s.w.held l.flatten ∧ (fails s.most s.w.held l.flatten = false → (s.feeds l).1.w.held = cur' s.most s.w.held l.flatten)
  | [], s, h1, h2 => ⟨rfl, rfl, rfl, rfl, rfl, h1, h2, fun _ => rfl⟩
  | x :: l, s, h1, h2 => by
    obtain ⟨q1, q2, q3, q4, q5, q6, q7⟩ := go_is x s []
    rw [List.append_nil] at q1 q2 q4 q5 q6 q7
    have e : s.feed x = s.go [] x := by rw [St.feed, h1]; rfl
    rw [St.feeds, e, List.flatten_cons]
    cases hf : fails s.most s.w.held x with
    | true =>
      obtain ⟨p1, p2⟩ := q6 hf
      obtain ⟨r1, r2, r3⟩ := pos_stop s.most x s.num s.off s.w.held l.flatten hf
      rw [feeds_over p1, told_append, if_pos hf, fails_append, hf, r1, r2, r3]
      refine ⟨?_, q2, q3, q4, q5, ?_, ?_, fun h => by cases h⟩
      · rw [List.append_nil, List.append_nil]; exact q1
      · rw [p1]; rfl
      · rw [p2]; rfl
    | false =>
      obtain ⟨p1, p2, p3⟩ := q7 hf
      rw [h1] at p1
      rw [h2] at p2
      obtain ⟨r1, r2, r3, r4⟩ := pos_append s.most x s.num s.off s.w.held l.flatten hf
      obtain ⟨i1, i2, i3, i4, i5, i6, i7, i8⟩ := feeds_is l (s.go [] x).1 p1 p2
      rw [q3, p3] at i1 i2 i4 i5 i6 i7 i8
      rw [q4, q5] at i1
      rw [q2, reads_all s.most x s.w.held hf] at i2
      rw [q4] at i4
      rw [q5] at i5
      rw [told_append, hf, fails_append, hf, r1, r2, r3, r4, Bool.false_or]
      refine ⟨?_, ?_, i3.trans q3, i4, i5, i6, i7, i8⟩
      · show (s.go [] x).2 ++ _ = _
        rw [q1, i1]
        simp
      · rw [i2]; omega
/-- All that is told of some bytes, with the last line. -/
def full (most num off : Nat) (cur t : Tx) : List Sl :=
  told most num off cur t ++ if fails most cur t = true then [] else if cur' most cur t = [] then [] else [⟨num' most num cur t, off' most off cur t, cur' most cur t⟩]
theorem run_is (l : List Tx) (s : St) (h1 : s.over = false) (h2 : s.bad = false) : (s.feeds l).2 ++ (s.feeds l).1.fin.2 = full s.most s.num s.off s.w.held l.flatten ∧ (s.feeds l).1.fin.1.bad = fails s.most s.w.held l.flatten ∧ (s.feeds l).1.fin.1.over = true ∧ (s.feeds l).1.fin.1.hunt = s.hunt + reads s.most s.w.held l.flatten ∧
    (fails s.most s.w.held l.flatten = true → (s.feeds l).1.fin.1.num = num' s.most s.num s.w.held l.flatten) := by
  obtain ⟨q1, q2, q3, q4, q5, q6, q7, q8⟩ := feeds_is l s h1 h2
  cases hf : fails s.most s.w.held l.flatten with
  | true =>
    rw [hf] at q6 q7
    rw [fin_over q6, full, hf, q1]
    exact ⟨by simp, q7, q6, q2, fun _ => q4⟩
  | false =>
    rw [hf] at q6 q7
    have p8 := q8 hf
    rw [St.fin, q6, full, hf, q1]
    by_cases hc : cur' s.most s.w.held l.flatten = []
    · rw [hc] at p8
      simp only [p8, hc]
      exact ⟨by simp, q7, rfl, q2, fun h => by cases h⟩
    · have hc2 : (s.feeds l).1.w.held ≠ [] := by rw [p8]; exact hc
      simp only [hc, hc2, if_false]
      refine ⟨?_, q7, rfl, q2, fun h => by cases h⟩
      simp [St.told, q4, q5, p8]
/-- Lines, numbered. -/
def numb : Nat → List Ln → List Sl
  | _, [] => []
  | n, x :: l => ⟨n, x.off, x.text⟩ :: numb (n + 1) l
theorem numb_len : ∀ (l : List Ln) (n : Nat), (numb n l).length = l.length
  | [], _ => rfl
  | x :: l, n => by rw [numb, List.length_cons, List.length_cons, numb_len l]
theorem numb_at : ∀ (l : List Ln) (n i : Nat) (h : i < l.length), (numb n l)[i]? = some ⟨n + i, l[i].off, l[i].text⟩
  | [], _, i, h => by simp at h
  | x :: l, n, 0, _ => rfl
  | x :: l, n, i + 1, h => by
    have := numb_at l (n + 1) i (by simpa using h)
    rw [numb, List.getElem?_cons_succ, this, List.getElem_cons_succ]
    simp only [Option.some.injEq, Sl.mk.injEq, and_true]
    omega
/-- If no line is too long, they are the lines of all bytes. -/
theorem full_lines (most : Nat) : ∀ (t : Tx) (num off : Nat) (cur : Tx), fails most cur t = false → full most num off cur t = numb num (goes off cur t)
  | [], num, off, cur, _ => by
    rw [full, told, fails, cur', num', off']
    by_cases h : cur = []
    · subst h; rfl
    · rw [goes_open off cur h]
      simp [h, numb]
  | c :: t, num, off, cur, h => by
    rw [fails] at h
    by_cases h1 : c = 10
    · rw [if_pos h1] at h
      have ih := full_lines most t (num + 1) (off + cur.length + 1) [] h
      subst h1
      rw [goes_newline, numb, ← ih, full, full, told, fails, cur', num', off']
      simp
    · rw [if_neg h1] at h
      by_cases h2 : most < cur.length + 1
      · rw [if_pos h2] at h; cases h
      · rw [if_neg h2] at h
        have ih := full_lines most t num off (cur ++ [c]) h
        rw [goes_byte off cur t c h1, ← ih, full, full, told, fails, cur', num', off']
        simp [h1, h2]
theorem goes_head : ∀ (t : Tx) (off : Nat) (cur : Tx), cur ≠ [] → ∃ x l, goes off cur t = x :: l ∧ cur.length ≤ x.text.length
  | [], off, cur, h => ⟨_, _, goes_open off cur h, Nat.le_refl _⟩
  | c :: t, off, cur, h => by
    by_cases h1 : c = 10
    · subst h1
      exact ⟨_, _, goes_newline off cur t, Nat.le_refl _⟩
    · rw [goes_byte off cur t c h1]
      obtain ⟨x, l, e, hx⟩ := goes_head t off (cur ++ [c]) (by simp)
      rw [List.length_append] at hx
      exact ⟨x, l, e, by omega⟩
/-- It fails just if a line is too long; the lines ahead of it are told. -/
theorem told_cap (most : Nat) : ∀ (t : Tx) (num off : Nat) (cur : Tx), cur.length ≤ most → fails most cur t = true → told most num off cur t = numb num ((goes off cur t).takeWhile fun x => decide (x.text.length ≤ most)) ∧ num' most num cur t = num + ((goes off cur t).takeWhile fun x => decide (x.text.length ≤ most)).length ∧ ((goes off cur t).takeWhile fun x => decide (x.text.length ≤ most)).length < (goes off cur t).length
  | [], _, _, _, _, h => by cases h
  | c :: t, num, off, cur, hc, h => by
    rw [fails] at h
    rw [told, num']
    by_cases h1 : c = 10
    · rw [if_pos h1] at h
      obtain ⟨i1, i2, i3⟩ := told_cap most t (num + 1) (off + cur.length + 1) [] (Nat.zero_le _) h
      subst h1
      rw [if_pos rfl, if_pos rfl, goes_newline, List.takeWhile_cons]
      have hd : decide ((⟨off, cur, true⟩ : Ln).text.length ≤ most) = true := decide_eq_true hc
      rw [if_pos hd, numb, List.length_cons, List.length_cons, i1, i2]
      exact ⟨rfl, by omega, by omega⟩
    · rw [if_neg h1] at h
      rw [if_neg h1, if_neg h1, goes_byte off cur t c h1]
      by_cases h2 : most < cur.length + 1
      · rw [if_pos h2, if_pos h2]
        obtain ⟨x, l, e, hx⟩ := goes_head t off (cur ++ [c]) (by simp)
        rw [List.length_append, List.length_singleton] at hx
        rw [e, List.takeWhile_cons, if_neg (by simp; omega)]
        exact ⟨rfl, rfl, by simp⟩
      · rw [if_neg h2] at h
        rw [if_neg h2, if_neg h2]
        exact told_cap most t num off (cur ++ [c]) (by rw [List.length_append, List.length_singleton]; omega) h
theorem fails_long (most : Nat) : ∀ (t : Tx) (off : Nat) (cur : Tx), cur.length ≤ most → fails most cur t = false → ∀ x ∈ goes off cur t, x.text.length ≤ most
  | [], off, cur, hc, _, x, hx => by
    by_cases h : cur = []
    · subst h; simp [goes_nil] at hx
    · rw [goes_open off cur h] at hx
      rw [List.mem_singleton.1 hx]; exact hc
  | c :: t, off, cur, hc, h, x, hx => by
    rw [fails] at h
    by_cases h1 : c = 10
    · rw [if_pos h1] at h
      subst h1
      rw [goes_newline] at hx
      rcases List.mem_cons.1 hx with rfl | hx
      · exact hc
      · exact fails_long most t _ [] (Nat.zero_le _) h x hx
    · rw [if_neg h1] at h
      by_cases h2 : most < cur.length + 1
      · rw [if_pos h2] at h; cases h
      · rw [if_neg h2] at h
        rw [goes_byte off cur t c h1] at hx
        exact fails_long most t off (cur ++ [c]) (by rw [List.length_append, List.length_singleton]; omega) h x hx
theorem short_fails (most : Nat) : ∀ (t cur : Tx), cur.length + t.length ≤ most → fails most cur t = false
  | [], _, _ => rfl
  | c :: t, cur, h => by
    rw [List.length_cons] at h
    rw [fails]
    by_cases h1 : c = 10
    · rw [if_pos h1]; exact short_fails most t [] (by simp; omega)
    · rw [if_neg h1, if_neg (by omega)]
      exact short_fails most t (cur ++ [c]) (by rw [List.length_append, List.length_singleton]; omega)
/-! What is moved. -/
theorem line_w (s : St) (rest : Tx) : (s.line rest).w = if s.w.held = [] then s.w else (s.w.add rest).clear := rfl
theorem go_inv : ∀ (t : Tx) (s : St) (part : Tx) (n : Nat), WInv n s.w → ∃ m, WInv m (s.go part t).1.w ∧ m ≤ n + part.length + t.length
  | [], s, part, n, h => ⟨n + part.length, h.add part, by simp⟩
  | c :: t, s, part, n, h => by
    rw [St.go, List.length_cons]
    by_cases h1 : c = 10
    · simp only [if_pos h1]
      have hl : ∃ k, WInv k (({ s with hunt := s.hunt + 1 } : St).line part).w ∧ k ≤ n + part.length := by
        rw [line_w]
        show ∃ k, WInv k (if s.w.held = [] then s.w else (s.w.add part).clear) ∧ _
        split
        · exact ⟨n, h, by omega⟩
        · exact ⟨n + part.length, (h.add part).clear, Nat.le_refl _⟩
      obtain ⟨k, hk, hkn⟩ := hl
      obtain ⟨m, hm, hmk⟩ := go_inv t (({ s with hunt := s.hunt + 1 } : St).line part) [] k hk
      exact ⟨m, hm, by simp at hmk; omega⟩
    · simp only [if_neg h1]
      by_cases h2 : s.most < s.w.held.length + part.length + 1
      · simp only [if_pos h2]
        exact ⟨n, h, by omega⟩
      · simp only [if_neg h2]
        obtain ⟨m, hm, hmk⟩ := go_inv t ({ s with hunt := s.hunt + 1 } : St) (part ++ [c]) n h
        exact ⟨m, hm, by rw [List.length_append, List.length_singleton] at hmk; omega⟩
theorem feeds_inv : ∀ (l : List Tx) (s : St) (n : Nat), WInv n s.w → ∃ m, WInv m (s.feeds l).1.w ∧ m ≤ n + l.flatten.length
  | [], s, n, h => ⟨n, h, by simp⟩
  | x :: l, s, n, h => by
    have hx : ∃ k, WInv k (s.feed x).1.w ∧ k ≤ n + x.length := by
      unfold St.feed
      split
      · exact ⟨n, h, by omega⟩
      · obtain ⟨m, hm, hmk⟩ := go_inv x s [] n h
        exact ⟨m, hm, by simpa using hmk⟩
    obtain ⟨k, hk, hkn⟩ := hx
    obtain ⟨m, hm, hmk⟩ := feeds_inv l (s.feed x).1 k hk
    exact ⟨m, hm, by rw [List.flatten_cons, List.length_append]; omega⟩
theorem fin_inv {s : St} {n : Nat} (h : WInv n s.w) : WInv n s.fin.1.w := by
  unfold St.fin
  split
  · exact h
  · split
    · exact h
    · rw [line_w]
      show WInv n (if s.w.held = [] then s.w else (s.w.add []).clear)
      split
      · exact h
      · exact (by simpa using h.add [] : WInv n (s.w.add [])).clear
/-- Lines that a chunk holds whole aren't added. -/
theorem go_whole : ∀ (t : Tx) (s : St) (part : Tx), s.w.held = [] → (s.go part (t ++ [10])).1.w = s.w
  | [], s, part, h => by
    rw [List.nil_append, St.go, if_pos rfl]
    show ((({ s with hunt := s.hunt + 1 } : St).line part).go [] []).1.w = s.w
    rw [St.go]
    show (({ s with hunt := s.hunt + 1 } : St).line part).w.add [] = s.w
    rw [line_w]
    show (if s.w.held = [] then s.w else _).add [] = s.w
    rw [if_pos h, Wn.add, if_pos rfl]
  | c :: t, s, part, h => by
    rw [List.cons_append, St.go]
    by_cases h1 : c = 10
    · simp only [if_pos h1]
      have e : (({ s with hunt := s.hunt + 1 } : St).line part).w = s.w := by
        rw [line_w]
        show (if s.w.held = [] then s.w else _) = s.w
        rw [if_pos h]
      rw [go_whole t _ [] (by rw [e]; exact h), e]
    · simp only [if_neg h1]
      split
      · rfl
      · exact go_whole t ({ s with hunt := s.hunt + 1 } : St) (part ++ [c]) h
/-- One byte at a time: all but newlines are added. -/
theorem byte_inv {s : St} {n : Nat} (h : WInv n s.w) (ho : s.over = false) (c : UInt8) (hm : s.w.held.length + 1 ≤ s.most) : WInv (n + if c = 10 then 0 else 1) (s.feed [c]).1.w := by
  rw [St.feed, ho]
  show WInv _ (s.go [] [c]).1.w
  rw [St.go]
  by_cases h1 : c = 10
  · simp only [if_pos h1]
    show WInv (n + 0) ((({ s with hunt := s.hunt + 1 } : St).line []).go [] []).1.w
    rw [St.go]
    show WInv (n + 0) ((({ s with hunt := s.hunt + 1 } : St).line []).w.add [])
    have hl : WInv n (({ s with hunt := s.hunt + 1 } : St).line []).w := by
      rw [line_w]
      show WInv n (if s.w.held = [] then s.w else (s.w.add []).clear)
      split
      · exact h
      · exact (by simpa using h.add [] : WInv n (s.w.add [])).clear
    simpa using hl.add []
  · simp only [if_neg h1, List.length_nil, Nat.add_zero]
    rw [if_neg (by omega)]
    show WInv (n + 1) (({ s with hunt := s.hunt + 1 } : St).go ([] ++ [c]) []).1.w
    exact h.add [c]
end Go.Proofs.Ytcekifknbljbiaa.Stm
