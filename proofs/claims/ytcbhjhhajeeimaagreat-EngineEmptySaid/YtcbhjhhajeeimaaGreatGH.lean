/- Package by package: H1 H2 H3 H4 H5 H6 H7 H8 Ha. -/
import Derived.Test.YtcbhjhhajeeimaaGreatGA
import Derived.Test.YtcbhjhhajeeimaaGreatGL
import Derived.WalkMore
/- Mathematics of Shifts: what is worked out once, over the falls of the tree. -/
namespace Go.Proofs.YtcbhjhhajeeimaaGreat.Shf
open Go.Proofs.YtcbhjhhajeeimaaGreat.Tri Go.Proofs.YtcbhjhhajeeimaaGreat.Lnk Go.Proofs.YtcbhjhhajeeimaaGreat.Cwl Go.Proofs.YtcbhjhhajeeimaaGreat.Bck
set_option maxRecDepth 100000

/-- A path has a shorter end. -/
def Tail (q s : Tx) : Prop := s.length < q.length ∧ q.drop (q.length - s.length) = s
theorem tail_of {u s : Tx} (h : u ≠ []) : Tail (u ++ s) s := by
  have := List.length_pos_iff.2 h
  refine ⟨by rw [List.length_append]; omega, ?_⟩
  rw [List.length_append, show u.length + s.length - s.length = u.length by omega, List.drop_left]
theorem Tail.split {q s : Tx} (h : Tail q s) : ∃ u, u ≠ [] ∧ q = u ++ s := by
  refine ⟨q.take (q.length - s.length), fun e => ?_, ?_⟩
  · have := congrArg List.length e
    rw [List.length_take] at this
    have := h.1
    simp at *
    omega
  · conv => lhs; rw [← List.take_append_drop (q.length - s.length) q, h.2]
theorem ahead_tail {q s : Tx} (h : Tail q s) : Cwl.ahead q.reverse s.reverse = q.length - s.length := by
  unfold Cwl.ahead
  rw [List.length_reverse, List.length_reverse, List.take_reverse, if_pos ⟨h.1, by rw [h.2]⟩]
theorem ahead_no {q s : Tx} (h : ¬ Tail q s) : Cwl.ahead q.reverse s.reverse = 0 := by
  unfold Cwl.ahead
  rw [List.length_reverse, List.length_reverse, List.take_reverse, if_neg fun g => h ⟨g.1, List.reverse_inj.1 g.2⟩]
theorem tail_pos {q s : Tx} (h : 0 < Cwl.ahead q.reverse s.reverse) : Tail q s := by
  refine Classical.byContradiction fun hn => ?_
  rw [ahead_no hn] at h
  omega
/-- The least over two lists. -/
theorem minOver_app (a : Nat) (ks js : List Nat) : minOver a (ks ++ js) = min (minOver a ks) (minOver a js) := by
  have h1 : minOver a (ks ++ js) ≤ minOver a ks := min_sub (Nat.le_refl _) fun k hk _ => List.mem_append_left _ hk
  have h2 : minOver a (ks ++ js) ≤ minOver a js := min_sub (Nat.le_refl _) fun k hk _ => List.mem_append_right _ hk
  rcases min_is a (ks ++ js) with e | ⟨k, hk, h0, e⟩
  · have := min_le a ks
    have := min_le a js
    omega
  · rcases List.mem_append.1 hk with hk | hk
    · have := min_mem a ks k hk h0; omega
    · have := min_mem a js k hk h0; omega
theorem min_step {a : Nat} {ks : List Nat} {k : Nat} (h : 0 < k) : minOver a (ks ++ [k]) = min (minOver a ks) k := by
  rw [min_snoc]
  split <;> omega
theorem min_zero (a : Nat) (ks : List Nat) : minOver a (ks ++ [0]) = minOver a ks := by
  rw [min_snoc, if_neg (by omega)]
/-- The falls of a path: the next shorter end that is a path. -/
theorem fall_tail {ps : List Tx} (hw : Wf ps) {q s : Tx} (hs : s ∈ ps) (h : failOf ps q = place ps s) : Tail q s := by
  have h0 := (place_nonneg ps s).2 hs
  have hne : q ≠ [] := fun e => by rw [e, fail_nil] at h; omega
  obtain ⟨u, z, e, hu, hz, _, hf, _⟩ := fail_step hw q hne
  rw [hf] at h
  obtain ⟨i, hi, e1, e2, _⟩ := place_mem hz
  obtain ⟨j, hj, e3, e4, _⟩ := place_mem hs
  have : i = j := by omega
  subst this
  rw [e, ← e2, e4]
  exact tail_of hu
/-- Whoever has an end that is a path falls to it, or to a longer one that has it. -/
theorem tail_fall {ps : List Tx} (hw : Wf ps) {q s : Tx} (hs : s ∈ ps) (h : Tail q s) : ∃ z, z ∈ ps ∧ failOf ps q = place ps z ∧ Tail q z ∧ (z = s ∨ Tail z s) := by
  have hne : q ≠ [] := fun e => by have := h.1; rw [e] at this; simp at this
  obtain ⟨u, z, e, hu, hz, hzl, hf, _, _, hn⟩ := fail_step hw q hne
  refine ⟨z, hz, hf, by rw [e]; exact tail_of hu, ?_⟩
  obtain ⟨v, hv, e2⟩ := h.split
  have hvl := List.length_pos_iff.2 hv
  have hlen : u.length + z.length = v.length + s.length := by rw [← List.length_append, ← List.length_append, ← e, ← e2]
  have hd : q.drop v.length = s := by rw [e2, List.drop_left]
  have hge : u.length ≤ v.length := Nat.le_of_not_lt fun hlt => hn v.length hvl hlt (by rw [hd]; exact hs)
  have hzd : z.drop (v.length - u.length) = s := by
    rw [← hd, e, List.drop_append, List.drop_of_length_le hge, List.nil_append]
  rcases Nat.eq_or_lt_of_le hge with h1 | h1
  · left
    rw [← hzd, h1, Nat.sub_self, List.drop_zero]
  · right
    refine ⟨by omega, ?_⟩
    rw [show z.length - s.length = v.length - u.length by omega]
    exact hzd
/-- First, node by node: k of them. -/
def fstAt (ps : List Tx) (s q : Tx) : Nat := if failOf ps q = place ps s then q.length - s.length else 0
def fstTo (ps : List Tx) (L k : Nat) (s : Tx) : Nat := minOver L ((ps.take k).map (fstAt ps s))
theorem fst_zero (ps : List Tx) (L : Nat) (s : Tx) : fstTo ps L 0 s = L := rfl
theorem fst_step {ps : List Tx} (hw : Wf ps) (L : Nat) {k : Nat} (hk : k < ps.length) {s : Tx} (hs : s ∈ ps) : fstTo ps L (k + 1) s = if failOf ps ps[k] = place ps s then min (fstTo ps L k s) (ps[k].length - s.length) else fstTo ps L k s := by
  unfold fstTo
  rw [List.take_succ_eq_append_getElem hk, List.map_append]
  show minOver L (_ ++ [fstAt ps s ps[k]]) = _
  unfold fstAt
  split
  · rename_i h
    have := (fall_tail hw hs h).1
    exact min_step (by omega)
  · exact min_zero _ _
theorem fst_all {ps : List Tx} (hw : Wf ps) (L : Nat) {s : Tx} (hs : s ∈ ps) : fstTo ps L ps.length s = minOver L (ps.map fun q => Cwl.ahead q.reverse s.reverse) := by
  unfold fstTo
  rw [List.take_length]
  apply Nat.le_antisymm
  · have key : ∀ n, ∀ q ∈ ps, q.length ≤ n → Tail q s → minOver L (ps.map (fstAt ps s)) ≤ q.length - s.length := by
      intro n
      induction n with
      | zero => intro q _ hl ht; have := ht.1; omega
      | succ n ih =>
        intro q hq hl ht
        obtain ⟨z, hz, hf, hqz, h⟩ := tail_fall hw hs ht
        have := hqz.1
        rcases h with rfl | h
        · have e : fstAt ps z q = q.length - z.length := if_pos hf
          exact min_mem _ _ _ (List.mem_map.2 ⟨q, hq, e⟩) (by omega)
        · have := ih z hz (by omega) h
          omega
    rcases min_is L (ps.map fun q => Cwl.ahead q.reverse s.reverse) with e | ⟨k, hk, h0, e⟩
    · rw [e]; exact min_le _ _
    · obtain ⟨q, hq, rfl⟩ := List.mem_map.1 hk
      have ht := tail_pos h0
      rw [e, ahead_tail ht]
      exact key _ q hq (Nat.le_refl _) ht
  · refine min_sub (Nat.le_refl _) fun k hk h0 => ?_
    obtain ⟨q, hq, rfl⟩ := List.mem_map.1 hk
    unfold fstAt at h0 ⊢
    split at h0
    · rename_i h
      rw [if_pos h]
      exact List.mem_map.2 ⟨q, hq, ahead_tail (fall_tail hw hs h)⟩
    · omega
/-- Second without the way: node by node, k of them; a text's ends one by one, j of them gone (those longer than j). -/
def sndAt (l : List Tx) (s q : Tx) : Nat := if q ∈ l then Cwl.ahead q.reverse s.reverse else 0
def sndUp (ps l : List Tx) (L k : Nat) (s : Tx) : Nat := minOver L ((ps.take k).map (sndAt l s))
theorem snd_zero (ps l : List Tx) (L : Nat) (s : Tx) : sndUp ps l L 0 s = L := rfl
/-- The base: of a node itself. -/
def base (l : List Tx) (L : Nat) (s : Tx) : Nat := minOver L (l.map fun x => Cwl.ahead x.reverse s.reverse)
theorem snd_base {ps l : List Tx} (hl : ∀ x ∈ l, x ∈ ps) (L : Nat) (s : Tx) : sndUp ps l L ps.length s = base l L s := by
  unfold sndUp base
  rw [List.take_length]
  apply Nat.le_antisymm
  · refine min_sub (Nat.le_refl _) fun k hk _ => ?_
    obtain ⟨x, hx, rfl⟩ := List.mem_map.1 hk
    exact List.mem_map.2 ⟨x, hl x hx, if_pos hx⟩
  · refine min_sub (Nat.le_refl _) fun k hk h0 => ?_
    obtain ⟨q, hq, rfl⟩ := List.mem_map.1 hk
    unfold sndAt at h0 ⊢
    split at h0
    · rename_i h
      rw [if_pos h]
      exact List.mem_map.2 ⟨q, h, rfl⟩
    · omega
theorem snd_skip {ps l : List Tx} (L : Nat) {k : Nat} (hk : k < ps.length) (h : ps[k] ∉ l) (s : Tx) : sndUp ps l L (k + 1) s = sndUp ps l L k s := by
  unfold sndUp
  rw [List.take_succ_eq_append_getElem hk, List.map_append]
  show minOver L (_ ++ [sndAt l s ps[k]]) = _
  rw [sndAt, if_neg h]
  exact min_zero _ _
/-- While a text's ends are gone through: those that are longer than z have been. -/
def sndIn (ps l : List Tx) (L k : Nat) (q : Tx) (n : Nat) (s : Tx) : Nat := if 0 < Cwl.ahead q.reverse s.reverse ∧ n ≤ s.length then min (sndUp ps l L k s) (Cwl.ahead q.reverse s.reverse) else sndUp ps l L k s
theorem sndIn_start (ps l : List Tx) (L k : Nat) (q : Tx) (n : Nat) (hn : q.length ≤ n) (s : Tx) : sndIn ps l L k q n s = sndUp ps l L k s := by
  unfold sndIn
  refine if_neg fun h => ?_
  have := (tail_pos h.1).1
  omega
theorem sndIn_end {ps l : List Tx} (L : Nat) {k : Nat} (hk : k < ps.length) (h : ps[k] ∈ l) (s : Tx) : sndIn ps l L k ps[k] 0 s = sndUp ps l L (k + 1) s := by
  unfold sndIn
  have e : sndUp ps l L (k + 1) s = minOver L ((ps.take k).map (sndAt l s) ++ [Cwl.ahead ps[k].reverse s.reverse]) := by
    unfold sndUp
    rw [List.take_succ_eq_append_getElem hk, List.map_append]
    show minOver L (_ ++ [sndAt l s ps[k]]) = _
    rw [sndAt, if_pos h]
  rw [e]
  split
  · rename_i h0
    exact (min_step h0.1).symm
  · rename_i h0
    have h1 : Cwl.ahead ps[k].reverse s.reverse = 0 := by omega
    rw [h1, min_zero]; rfl
/-- One end more: all but it stay. -/
theorem sndIn_step {ps : List Tx} (l : List Tx) (L k : Nat) {q z : Tx} {n : Nat} (hz : z ∈ ps) (ht : Tail q z) (hzn : z.length < n) (hno : ∀ y ∈ ps, Tail q y → y.length < n → y.length ≤ z.length) {s : Tx} (hs : s ∈ ps) :
    sndIn ps l L k q z.length s = if s = z then min (sndIn ps l L k q n s) (q.length - z.length) else sndIn ps l L k q n s := by
  unfold sndIn
  by_cases e : s = z
  · subst e
    have h1 := ht.1
    rw [if_pos rfl, ahead_tail ht, if_pos ⟨by omega, Nat.le_refl _⟩, if_neg (by omega)]
  · rw [if_neg e]
    by_cases h0 : 0 < Cwl.ahead q.reverse s.reverse
    · have hts := tail_pos h0
      by_cases hn : n ≤ s.length
      · rw [if_pos ⟨h0, by omega⟩, if_pos ⟨h0, hn⟩]
      · have h3 := hno s hs hts (by omega)
        have hne : s.length ≠ z.length := fun h => e (by
          have a := hts.2
          have b := ht.2
          rw [h] at a
          rw [← a, b])
        rw [if_neg (by omega), if_neg (by omega)]
    · rw [if_neg (fun h => h0 h.1), if_neg (fun h => h0 h.1)]
theorem tail_trans {q z s : Tx} (h : Tail q z) (k : Tail z s) : Tail q s := by
  obtain ⟨u, hu, e⟩ := h.split
  obtain ⟨v, hv, e2⟩ := k.split
  rw [e, e2, ← List.append_assoc]
  exact tail_of (by simp [hu])
/-- No path that is an end stands between a path and what it falls to; the ends of an end. -/
theorem fall_between {ps : List Tx} (hw : Wf ps) {q z : Tx} (h : failOf ps q = place ps z) (hz : z ∈ ps) {y : Tx} (hy : y ∈ ps) (ht : Tail q y) : y.length ≤ z.length := by
  obtain ⟨z', hz', h1, _, h2⟩ := tail_fall hw hy ht
  rw [h] at h1
  obtain ⟨i, hi, e1, e2, _⟩ := place_mem hz
  obtain ⟨j, hj, e3, e4, _⟩ := place_mem hz'
  have : i = j := by omega
  subst this
  have e5 : z = z' := by rw [← e2, e4]
  subst e5
  rcases h2 with rfl | h2
  · exact Nat.le_refl _
  · exact Nat.le_of_lt h2.1
theorem tail_cut {q z y : Tx} (h : Tail q z) (k : Tail q y) (hl : y.length < z.length) : Tail z y := by
  obtain ⟨u, hu, e⟩ := h.split
  refine ⟨hl, ?_⟩
  have := k.2
  rw [e, List.length_append, List.drop_append, List.drop_of_length_le (by omega), List.nil_append] at this
  rwa [show u.length + z.length - y.length - u.length = z.length - y.length by omega] at this
theorem flat_congr {α β : Type} {f g : α → List β} : ∀ (l : List α), (∀ x ∈ l, f x = g x) → l.flatMap f = l.flatMap g
  | [], _ => rfl
  | x :: l, h => by rw [List.flatMap_cons, List.flatMap_cons, h x (by simp), flat_congr l fun y hy => h y (by simp [hy])]
/-- What stands on the way. -/
theorem second_root (l : List Tx) : secondOf l [] = base l (Cwl.leastOf l) [] := by
  unfold secondOf base secondAll
  simp
theorem second_snoc (l : List Tx) (s : Tx) (c : UInt8) : secondOf l (s ++ [c]) = min (base l (Cwl.leastOf l) (s ++ [c])) (secondOf l s) := by
  unfold secondOf base
  have e : secondAll l (s ++ [c]) = secondAll l s ++ l.map fun x => Cwl.ahead x.reverse (s ++ [c]).reverse := by
    unfold secondAll
    rw [List.length_append, List.length_singleton, List.range_succ, List.flatMap_append]
    congr 1
    · refine flat_congr _ fun n hn => ?_
      have := List.mem_range.1 hn
      rw [List.take_append_of_le_length (by omega)]
    · rw [List.flatMap_singleton, List.take_of_length_le (by simp)]
  rw [e, minOver_app, Nat.min_comm]
end Go.Proofs.YtcbhjhhajeeimaaGreat.Shf
/- A Shifts in memory; at, First, Second, Far. -/
namespace Go.Proofs.YtcbhjhhajeeimaaGreat.Shf
open Go.RowKit Go.Maps Go.Proofs.YtcbhjhhajeeimaaGreat.Tri Go.Proofs.YtcbhjhhajeeimaaGreat.Lnk Go.Proofs.YtcbhjhhajeeimaaGreat.Cwl Go.Proofs.YtcbhjhhajeeimaaGreat.Bck Go.Proofs.YtcbhjhhajeeimaaGreat.Reg
set_option maxRecDepth 100000
set_option linter.unusedVariables false

/-- What is kept of a node: how deep it is, and the two. -/
structure Sf where
  d : Nat
  f : Nat
  s : Nat
def scells (r : Sf) : List Value := [.int .i64 (r.d : Int), .int .i64 (r.f : Int), .int .i64 (r.s : Int)]
def rvals (l : List Sf) : List Value := l.flatMap scells
theorem rvals_length (l : List Sf) : (rvals l).length = l.length * 3 := by
  induction l with
  | nil => rfl
  | cons p l ih => simp only [rvals, List.flatMap_cons, List.length_append, List.length_cons] at ih ⊢; rw [ih]; simp [scells]; omega
theorem rvals_append (l m : List Sf) : rvals (l ++ m) = rvals l ++ rvals m := by simp [rvals]
theorem rvals_at : ∀ (xs : List Sf) (i j : Nat), j < 3 → (h : i < xs.length) → (rvals xs)[i * 3 + j]? = (scells xs[i])[j]?
  | [], i, j, _, h => by simp at h
  | y :: xs, 0, j, hj, _ => by
    unfold rvals
    rw [List.flatMap_cons, List.getElem?_append_left (by simp [scells]; omega)]
    simp
  | y :: xs, i + 1, j, hj, h => by
    have h' : i < xs.length := by simpa using h
    unfold rvals
    rw [List.flatMap_cons, List.getElem?_append_right (by simp [scells]; omega)]
    have e : (i + 1) * 3 + j - (scells y).length = i * 3 + j := by simp [scells]; omega
    rw [e]
    exact rvals_at xs i j hj h'
theorem rvals_one (l : List Sf) : ∀ v ∈ rvals l, v.oneCell' = true := by
  intro v hv
  unfold rvals at hv
  obtain ⟨r, _, h⟩ := List.mem_flatMap.1 hv
  simp only [scells, List.mem_cons, List.not_mem_nil, or_false] at h
  rcases h with rfl | rfl | rfl <;> rfl
theorem rvals_put1 : ∀ (xs : List Sf) (i : Nat) (h : i < xs.length) (x : Nat), (rvals xs).set (i * 3 + 1) (.int .i64 (x : Int)) = rvals (xs.set i ⟨xs[i].d, x, xs[i].s⟩)
  | [], i, h, _ => by simp at h
  | y :: xs, 0, _, x => by simp [rvals, scells]
  | y :: xs, i + 1, h, x => by
    have h' : i < xs.length := by simpa using h
    have ih := rvals_put1 xs i h' x
    unfold rvals at ih ⊢
    rw [List.flatMap_cons, List.set_append_right _ _ (by simp [scells]; omega)]
    have e : (i + 1) * 3 + 1 - (scells y).length = i * 3 + 1 := by simp [scells]; omega
    rw [e, ih]
    simp
theorem rvals_put2 : ∀ (xs : List Sf) (i : Nat) (h : i < xs.length) (x : Nat), (rvals xs).set (i * 3 + 2) (.int .i64 (x : Int)) = rvals (xs.set i ⟨xs[i].d, xs[i].f, x⟩)
  | [], i, h, _ => by simp at h
  | y :: xs, 0, _, x => by simp [rvals, scells]
  | y :: xs, i + 1, h, x => by
    have h' : i < xs.length := by simpa using h
    have ih := rvals_put2 xs i h' x
    unfold rvals at ih ⊢
    rw [List.flatMap_cons, List.set_append_right _ _ (by simp [scells]; omega)]
    have e : (i + 1) * 3 + 2 - (scells y).length = i * 3 + 2 := by simp [scells]; omega
    rw [e, ih]
    simp
/-- A row of them: of all paths, by two functions. -/
def tab (ps : List Tx) (F G : Tx → Nat) : List Sf := ps.map fun p => ⟨p.length, F p, G p⟩
theorem tab_len (ps : List Tx) (F G : Tx → Nat) : (tab ps F G).length = ps.length := by simp [tab]
theorem tab_at (ps : List Tx) (F G : Tx → Nat) (i : Nat) (h : i < ps.length) : (tab ps F G)[i]'(by rw [tab_len]; exact h) = ⟨ps[i].length, F ps[i], G ps[i]⟩ := by simp [tab]
theorem tab_put1 {ps : List Tx} (hd : ps.Nodup) (F G F' : Tx → Nat) {i : Nat} (hi : i < ps.length) (h : ∀ p ∈ ps, p ≠ ps[i] → F' p = F p) :
    (tab ps F G).set i ⟨ps[i].length, F' ps[i], G ps[i]⟩ = tab ps F' G := by
  apply List.ext_getElem
  · simp [tab]
  · intro j h1 h2
    rw [tab_len] at h2
    rw [List.getElem_set, tab_at _ _ _ j h2, tab_at _ _ _ j h2]
    by_cases e : i = j
    · subst e; simp
    · have hne : ps[j] ≠ ps[i] := fun q => e (nd_inj hd q).symm
      rw [if_neg e, h _ (List.getElem_mem h2) hne]
theorem tab_put2 {ps : List Tx} (hd : ps.Nodup) (F G G' : Tx → Nat) {i : Nat} (hi : i < ps.length) (h : ∀ p ∈ ps, p ≠ ps[i] → G' p = G p) :
    (tab ps F G).set i ⟨ps[i].length, F ps[i], G' ps[i]⟩ = tab ps F G' := by
  apply List.ext_getElem
  · simp [tab]
  · intro j h1 h2
    rw [tab_len] at h2
    rw [List.getElem_set, tab_at _ _ _ j h2, tab_at _ _ _ j h2]
    by_cases e : i = j
    · subst e; simp
    · have hne : ps[j] ≠ ps[i] := fun q => e (nd_inj hd q).symm
      rw [if_neg e, h _ (List.getElem_mem h2) hne]
theorem tab_congr {ps : List Tx} {F F' G G' : Tx → Nat} (hF : ∀ p ∈ ps, F p = F' p) (hG : ∀ p ∈ ps, G p = G' p) : tab ps F G = tab ps F' G' := by
  unfold tab
  apply List.map_congr_left
  intro p hp
  rw [hF p hp, hG p hp]
/-- The struct in memory: the row, and how near each byte is. -/
def Sd (w : World) (t : Nat) (v : Value) (nr : Nat → Nat) : Prop :=
  ∃ cells : Array Value, w.heap[t]? = some (.cells cells 166 (0, 0)) ∧ cells.size = 257 ∧ cells[0]? = some v ∧ ∀ i, i < 256 → cells[1 + i]? = some (.int .i64 (nr i : Int))
theorem Sd.lt {w : World} {t : Nat} {v : Value} {nr : Nat → Nat} (h : Sd w t v nr) : t < w.heap.size := by
  obtain ⟨_, h, _⟩ := h
  exact txt_lt h
theorem Sd.same {w w' : World} {t : Nat} {v : Value} {nr : Nat → Nat} (h : Sd w t v nr) (e : w'.heap[t]? = w.heap[t]?) : Sd w' t v nr := by
  obtain ⟨cells, h1, h2⟩ := h
  exact ⟨cells, e.trans h1, h2⟩
theorem Sd.keep {w w' : World} {t : Nat} {v : Value} {nr : Nat → Nat} (h : Sd w t v nr) (hb : Below w.heap.size w w') : Sd w' t v nr := h.same (hb.block t h.lt)
theorem Sd.row {w : World} {t : Nat} {v : Value} {nr : Nat → Nat} (h : Sd w t v nr) : w.cell? ⟨t, 0, none⟩ = some v := by
  obtain ⟨cells, h1, _, h2, _⟩ := h
  exact (cell_of_row w t 0 _ _ _ h1).trans h2
theorem Sd.at {w : World} {t : Nat} {v : Value} {nr : Nat → Nat} (h : Sd w t v nr) {i : Nat} (hi : i < 256) : w.cell? ⟨t, 1 + i, none⟩ = some (.int .i64 (nr i : Int)) := by
  obtain ⟨cells, h1, _, _, h2⟩ := h
  exact (cell_of_row w t _ _ _ _ h1).trans (h2 i hi)
theorem Sd.free {w : World} {t : Nat} {v : Value} {nr : Nat → Nat} (h : Sd w t v nr) (i : Nat) : w.frozen? ⟨t, i, none⟩ = false := by
  obtain ⟨cells, h1, _⟩ := h
  exact frozen_of_row w t i cells 166 h1
theorem Sd.put0 {w : World} {t : Nat} {v : Value} {nr : Nat → Nat} (h : Sd w t v nr) (u : Value) : Sd (w.setCell ⟨t, 0, none⟩ u) t u nr := by
  obtain ⟨cells, h1, h2, h3, h4⟩ := h
  refine ⟨cells.setIfInBounds 0 u, heap_setCell_same w t 0 cells 166 u h1, by rw [Array.size_setIfInBounds]; exact h2, ?_, fun i hi => ?_⟩
  · rw [Array.getElem?_setIfInBounds_self]; simp [h2]
  · rw [Array.getElem?_setIfInBounds_ne (by omega)]; exact h4 i hi
theorem Sd.put {w : World} {t : Nat} {v : Value} {nr nr' : Nat → Nat} (h : Sd w t v nr) {k : Nat} (hk : k < 256) (hn : ∀ i, i ≠ k → nr' i = nr i) {x : Int} (hx : x = (nr' k : Int)) : Sd (w.setCell ⟨t, 1 + k, none⟩ (.int .i64 x)) t v nr' := by
  obtain ⟨cells, h1, h2, h3, h4⟩ := h
  refine ⟨cells.setIfInBounds (1 + k) (.int .i64 x), heap_setCell_same w t (1 + k) cells 166 _ h1, by rw [Array.size_setIfInBounds]; exact h2, ?_, fun i hi => ?_⟩
  · rw [Array.getElem?_setIfInBounds_ne (by omega)]; exact h3
  · by_cases e : i = k
    · subst e
      rw [Array.getElem?_setIfInBounds_self, hx]; simp [h2]; omega
    · rw [Array.getElem?_setIfInBounds_ne (by omega), hn i e]; exact h4 i hi
theorem Sd.congr {w : World} {t : Nat} {v : Value} {nr nr' : Nat → Nat} (h : Sd w t v nr) (e : ∀ i, i < 256 → nr i = nr' i) : Sd w t v nr' := by
  obtain ⟨cells, h1, h2, h3, h4⟩ := h
  exact ⟨cells, h1, h2, h3, fun i hi => by rw [← e i hi]; exact h4 i hi⟩
/-- A row of nodes. -/
def Rw (w : World) (g : Nat) (xs : List Sf) : Prop := ∀ (i : Nat) (h : i < xs.length), w.cell? ⟨g, i * 3, none⟩ = some (.int .i64 (xs[i].d : Int)) ∧ w.cell? ⟨g, i * 3 + 1, none⟩ = some (.int .i64 (xs[i].f : Int)) ∧ w.cell? ⟨g, i * 3 + 2, none⟩ = some (.int .i64 (xs[i].s : Int))
theorem own_rw {w : World} {s g n cap : Nat} {xs : List Sf} (h2 : w.ownsRow s 169 3 (.slice (some ⟨g, 0, none⟩) n cap) n (rvals xs)) (hn : xs.length = n) : Rw w g xs := by
  intro i hi
  have key : ∀ j, j < 3 → w.cell? ⟨g, i * 3 + j, none⟩ = (scells xs[i])[j]? := fun j hj => by
    rw [h2.cellAt (i * 3 + j) (by omega), rvals_at _ i j hj hi]
  exact ⟨key 0 (by omega), key 1 (by omega), key 2 (by omega)⟩
/-- The Shifts of some texts: all is there, or (of a nil tree) nothing is. -/
def Tb (w : World) (t : Nat) (l : List Tx) : Prop :=
  (∃ g cap, Sd w t (.slice (some ⟨g, 0, none⟩) (paths (turned l)).length cap) (fun c => nearK (turned l) (UInt8.ofNat c)) ∧ (∀ p ∈ paths (turned l), p.length ≤ 1000000) ∧ g < w.heap.size ∧ Rw w g (tab (paths (turned l)) (firstOf (turned l) (paths (turned l))) (secondOf (turned l)))) ∨
  (turned l = [] ∧ Sd w t (.slice none 0 0) fun _ => 0)
theorem Tb.keep {w w' : World} {t : Nat} {l : List Tx} (h : Tb w t l) (hb : Below w.heap.size w w') : Tb w' t l := by
  rcases h with ⟨g, cap, h1, h0, h2, h3⟩ | ⟨h1, h2⟩
  · refine .inl ⟨g, cap, h1.keep hb, h0, Nat.lt_of_lt_of_le h2 hb.size, fun i hi => ?_⟩
    obtain ⟨c0, c1, c2⟩ := h3 i hi
    exact ⟨(hb.cell (p := ⟨g, _, none⟩) h2).trans c0, (hb.cell (p := ⟨g, _, none⟩) h2).trans c1, (hb.cell (p := ⟨g, _, none⟩) h2).trans c2⟩
  · exact .inr ⟨h1, h2.keep hb⟩
/-- What is kept of a number. -/
def kept (l : List Tx) (n : Int) : Sf := match pathOf (paths (turned l)) n with | some s => ⟨s.length, firstOf (turned l) (paths (turned l)) s, secondOf (turned l) s⟩ | none => ⟨0, 0, 0⟩
theorem kept_at {l : List Tx} {i : Nat} (h : i < (paths (turned l)).length) : kept l (i : Int) = (tab (paths (turned l)) (firstOf (turned l) (paths (turned l))) (secondOf (turned l)))[i]'(by rw [tab_len]; exact h) := by rw [tab_at _ _ _ i h, kept, pathOf_at h]
theorem kept_off {l : List Tx} {n : Int} (h : ¬ (0 ≤ n ∧ n < (paths (turned l)).length)) : kept l n = ⟨0, 0, 0⟩ := by rw [kept, pathOf_none h]
def sV (r : Sf) : Value := .agg #[.int .i64 (r.d : Int), .int .i64 (r.f : Int), .int .i64 (r.s : Int)]
theorem kept_nil {l : List Tx} (h : turned l = []) (n : Int) : kept l n = ⟨0, 0, 0⟩ := by
  unfold kept
  rw [h]
  cases hp : pathOf (paths ([] : List Tx)) n with
  | none => rfl
  | some s =>
    obtain ⟨i, hi, _, e⟩ := pathOf_some hp
    have hs : s = [] := by
      have := List.getElem_mem hi
      rw [e] at this
      have h2 : s ∈ [([] : Tx)] := this
      simpa using h2
    subst hs
    have h1 : firstOf [] (paths []) [] ≤ Cwl.leastOf [] := first_le _ _ _
    have h2 : secondOf [] [] ≤ Cwl.leastOf [] := second_le _ _
    have h0 : Cwl.leastOf ([] : List Tx) = 0 := rfl
    show (⟨0, firstOf [] (paths []) [], secondOf [] []⟩ : Sf) = _
    rw [show firstOf [] (paths []) [] = 0 by omega, show secondOf [] [] = 0 by omega]
theorem at_any (w : World) (t : Nat) (l : List Tx) (h : Tb w t l) (n : Int) :
    Calls Tryz.prog 150 #[.pointer (some ⟨t, 0, none⟩), .int .i64 n] w fun e w' => e = .returned (sV (kept l n)) ∧ Below w.heap.size w w' := by
  have off : ∀ (m cap : Nat) (a : Option Addr), w.cell? ⟨t, 0, none⟩ = some (.slice a m cap) → t < w.heap.size → ¬ (0 ≤ n ∧ n < (m : Int)) → Calls Tryz.prog 150 #[.pointer (some ⟨t, 0, none⟩), .int .i64 n] w fun e w' => e = .returned (sV ⟨0, 0, 0⟩) ∧ Below w.heap.size w w' := by
    intro m cap a c0 ht hin
    clear h
    by_cases h0 : n < 0
    · clear hin
      go_enter Tryz.func150, Tryz.ntmps150
      go_wp2
      exact bodyPost_ret (v := sV ⟨0, 0, 0⟩) (by simp [results, Tryz.results150, sV, go_sem]) rfl ⟨rfl, (Below.refl _ _).alloc (Nat.le_refl _) _⟩
    · have h2 : (m : Int) ≤ n := by omega
      clear hin
      go_enter Tryz.func150, Tryz.ntmps150
      go_wp2
      exact bodyPost_ret (v := sV ⟨0, 0, 0⟩) (by simp [results, Tryz.results150, sV, go_sem]) rfl ⟨rfl, (Below.refl _ _).alloc (Nat.le_refl _) _⟩
  rcases h with ⟨g, cap, h1, hdp, h2, h3⟩ | ⟨h1, h2⟩
  · have c0 := h1.row
    have ht := h1.lt
    by_cases hin : 0 ≤ n ∧ n < ((paths (turned l)).length : Int)
    · obtain ⟨i, rfl⟩ : ∃ i : Nat, n = (i : Int) := ⟨n.toNat, by omega⟩
      have hi : i < (paths (turned l)).length := by omega
      rw [kept_at hi]
      obtain ⟨d0, d1, d2⟩ := h3 i (by rw [tab_len]; exact hi)
      have hin2 : ¬ ((paths (turned l)).length : Int) ≤ (i : Int) := by omega
      have hin3 : (i : Int) < ((paths (turned l)).length : Int) := by omega
      clear h1 h3 off hdp
      generalize (tab (paths (turned l)) (firstOf (turned l) (paths (turned l))) (secondOf (turned l)))[i]'_ = r at *
      generalize (paths (turned l)).length = m at *
      go_enter Tryz.func150, Tryz.ntmps150
      go_wp2
      exact bodyPost_ret (v := sV r) (by simp [results, Tryz.results150, sV, go_sem]) rfl ⟨rfl, (Below.refl _ _).alloc (Nat.le_refl _) _⟩
    · rw [kept_off hin]
      exact off _ _ _ c0 ht hin
  · rw [kept_nil h1]
    exact off _ _ _ h2.row h2.lt (by omega)
theorem at_none (w : World) (n : Int) : Calls Tryz.prog 150 #[.pointer none, .int .i64 n] w fun e w' => e = .returned (sV ⟨0, 0, 0⟩) ∧ Below w.heap.size w w' := by
  go_enter Tryz.func150, Tryz.ntmps150
  go_wp2
  exact bodyPost_ret (v := sV ⟨0, 0, 0⟩) (by simp [results, Tryz.results150, sV, go_sem]) rfl ⟨rfl, (Below.refl _ _).alloc (Nat.le_refl _) _⟩
/-- The Shifts of some texts (nil is that of no texts). -/
def Sh (w : World) (p : Option Addr) (l : List Tx) : Prop := (p = none → turned l = []) ∧ ∀ a, p = some a → ∃ t, a = ⟨t, 0, none⟩ ∧ Tb w t l
theorem Sh.keep {w w' : World} {p : Option Addr} {l : List Tx} (h : Sh w p l) (hb : Below w.heap.size w w') : Sh w' p l :=
  ⟨h.1, fun a ha => by obtain ⟨t, e, ht⟩ := h.2 a ha; exact ⟨t, e, ht.keep hb⟩⟩
theorem sh_none (w : World) : Sh w none [] := ⟨fun _ => rfl, fun a h => by cases h⟩
def GivesSh (w : World) (l : List Tx) (e : Ending) (w' : World) : Prop := ∃ p, e = .returned (.pointer p) ∧ Sh w' p l ∧ Below w.heap.size w w'
theorem sat_any (w : World) (p : Option Addr) (l : List Tx) (h : Sh w p l) (n : Int) :
    Calls Tryz.prog 150 #[.pointer p, .int .i64 n] w fun e w' => e = .returned (sV (kept l n)) ∧ Below w.heap.size w w' := by
  cases p with
  | none => rw [kept_nil (h.1 rfl)]; exact at_none w n
  | some a =>
    obtain ⟨t, rfl, ht⟩ := h.2 a rfl
    exact at_any w t l ht n
theorem field_s1 (r : Sf) (w : World) : (Instr.field 169 (sV r) 1).run Tryz.prog w = .ok (.agg #[.int .i64 (r.f : Int), .int .i64 (r.s : Int)]) w := by
  simp [Instr.field, sV, asAgg, go_sem]
theorem index_s0 (a b : Int) (w : World) : (Instr.index 167 (.agg #[.int .i64 a, .int .i64 b]) (.int .i64 0)).run Tryz.prog w = .ok (.int .i64 a) w := by
  simp [Instr.index, go_sem]
theorem index_s1 (a b : Int) (w : World) : (Instr.index 167 (.agg #[.int .i64 a, .int .i64 b]) (.int .i64 1)).run Tryz.prog w = .ok (.int .i64 b) w := by
  simp [Instr.index, go_sem]
theorem ssecond_kept (w : World) (p : Option Addr) (l : List Tx) (h : Sh w p l) (n : Int) :
    Calls Tryz.prog 149 #[.pointer p, .int .i64 n] w fun e w' => e = .returned (.int .i64 ((kept l n).s : Int)) ∧ Below w.heap.size w w' := by
  have HA := Lib.hid (sat_any w p l h n)
  have hf := field_s1 (kept l n)
  have hi0 := index_s0
  have hi1 := index_s1
  clear h
  generalize kept l n = r at *
  go_enter Tryz.func149, Tryz.ntmps149
  go_wp2_with (go_at_call 150; (with_reducible refine HA.out.mono ?_); rintro e w1 ⟨rfl, hb⟩)
  go_ret
  exact ⟨rfl, hb⟩
theorem least_deep {l : List Tx} (h : ∀ p ∈ paths (turned l), p.length ≤ 1000000) : Cwl.leastOf (turned l) ≤ 1000000 := by
  by_cases h0 : turned l = []
  · rw [h0]; exact Nat.zero_le _
  · obtain ⟨x, hx, e⟩ := Cwl.least_is h0
    rw [e]
    exact h x (paths_sub _ x hx)
theorem kept_deep {l : List Tx} (h : ∀ p ∈ paths (turned l), p.length ≤ 1000000) (n : Int) : (kept l n).d ≤ 1000000 ∧ (kept l n).f ≤ 1000000 ∧ (kept l n).s ≤ 1000000 := by
  have hm := least_deep h
  by_cases hin : 0 ≤ n ∧ n < ((paths (turned l)).length : Int)
  · obtain ⟨i, rfl⟩ : ∃ i : Nat, n = (i : Int) := ⟨n.toNat, by omega⟩
    have hi : i < (paths (turned l)).length := by omega
    rw [kept_at hi, tab_at _ _ _ i hi]
    have h1 := first_le (turned l) (paths (turned l)) (paths (turned l))[i]
    have h2 := second_le (turned l) (paths (turned l))[i]
    exact ⟨h _ (List.getElem_mem hi), Nat.le_trans h1 hm, Nat.le_trans h2 hm⟩
  · rw [kept_off hin]
    exact ⟨Nat.zero_le _, Nat.zero_le _, Nat.zero_le _⟩
set_option maxHeartbeats 1000000 in
theorem sfar_kept (w : World) (t : Nat) (l : List Tx) (v : Value) (nr : Nat → Nat) (hs : Sd w t v nr) (r : Sf) (n : Int) (c : UInt8)
    (ha : Calls Tryz.prog 150 #[.pointer (some ⟨t, 0, none⟩), .int .i64 n] w fun e w' => e = .returned (sV r) ∧ Below w.heap.size w w')
    (h1 : r.d ≤ 1000000) (h2 : r.f ≤ 1000000) (h3 : r.s ≤ 1000000) (k : Nat) (hk : nr c.toNat = k) (h4 : k ≤ 1000001) :
    Calls Tryz.prog 148 #[.pointer (some ⟨t, 0, none⟩), .int .i64 n, .int .u8 (c.toNat : Int)] w fun e w' => e = .returned (.int .i64 (min (r.s : Int) (max (r.f : Int) ((k : Int) - r.d - 1)))) ∧ Below w.heap.size w w' := by
  unfold sV at ha
  have HA := Lib.hid ha
  have HS := Lib.hid hs
  have hc := c.toNat_lt
  clear ha hs
  go_enter Tryz.func148, Tryz.ntmps148
  go_wp2_with (go_at_call 150; (with_reducible refine HA.out.mono ?_); rintro e w1 ⟨rfl, hb⟩; have HB1 := Lib.hid hb; clear hb)
  have hs2 := (HS.out.keep HB1.out).keep ((Below.refl _ w1).alloc (Nat.le_refl _) (.cells #[.int .i64 (r.d : Int), .int .i64 (r.f : Int), .int .i64 (r.s : Int)] 169))
  have hw2 := HB1.out.alloc HB1.out.size (.cells #[.int .i64 (r.d : Int), .int .i64 (r.f : Int), .int .i64 (r.s : Int)] 169)
  have hcs := hs2.at hc
  rw [hk] at hcs
  have hblk : Blk3 (w1.alloc (.cells #[.int .i64 (r.d : Int), .int .i64 (r.f : Int), .int .i64 (r.s : Int)] 169)) w1.heap.size 169 (.int .i64 (r.d : Int)) (.int .i64 (r.f : Int)) (.int .i64 (r.s : Int)) := new_cells w1 _ _ _ _
  obtain ⟨c0, c1, c2⟩ := hblk.cells
  have HW2 := Lib.hid hw2
  clear hs2 hw2 hblk HS HB1 HA
  generalize w1.alloc (.cells #[.int .i64 (r.d : Int), .int .i64 (r.f : Int), .int .i64 (r.s : Int)] 169) = W at *
  generalize w1.heap.size = g at *
  obtain ⟨d, f, s⟩ := r
  simp only at *
  have e1 : wrap64 ((k : Int) - (d : Int)) = (k : Int) - d := by unfold wrap64; omega
  have e2 : wrap64 ((k : Int) - (d : Int) - 1) = (k : Int) - d - 1 := by unfold wrap64; omega
  have hc2 : (c.toNat : Int) < 256 := by omega
  go_quiet (fail)
  go_wp2
  go_ret
  exact ⟨rfl, below_drews HW2.out nq⟩
theorem sfar_none (w : World) (n : Int) (c : UInt8) :
    Calls Tryz.prog 148 #[.pointer none, .int .i64 n, .int .u8 (c.toNat : Int)] w fun e w' => e = .returned (.int .i64 0) ∧ Below w.heap.size w w' := by
  go_enter Tryz.func148, Tryz.ntmps148
  go_wp2
  go_ret
  exact ⟨rfl, Below.refl _ _⟩
/-- What the document says of a node of a number. -/
def fstN (l : List Tx) (n : Int) : Nat := match pathOf (paths (turned l)) n with | some s => firstOf (turned l) (paths (turned l)) s | none => 0
def sndN (l : List Tx) (n : Int) : Nat := match pathOf (paths (turned l)) n with | some s => secondOf (turned l) s | none => 0
def farN (l : List Tx) (n : Int) (c : UInt8) : Nat := match pathOf (paths (turned l)) n with | some s => farOf (turned l) (paths (turned l)) s c | none => 0
theorem kept_fst (l : List Tx) (n : Int) : (kept l n).f = fstN l n := by unfold kept fstN; split <;> rfl
theorem kept_snd (l : List Tx) (n : Int) : (kept l n).s = sndN l n := by unfold kept sndN; split <;> rfl
theorem kept_far {l : List Tx} (h : turned l ≠ []) (n : Int) (c : UInt8) : (farN l n c : Int) = min ((kept l n).s : Int) (max ((kept l n).f : Int) ((nearK (turned l) c : Int) - (kept l n).d - 1)) := by
  unfold farN kept
  split
  · rename_i s _
    unfold farOf
    rw [if_neg h]
    simp only
    omega
  · simp only
    omega
theorem farN_empty {l : List Tx} (h : turned l = []) (n : Int) (c : UInt8) : farN l n c = 0 := by
  unfold farN
  split
  · unfold farOf; exact if_pos h
  · rfl
theorem ssecond_any (w : World) (p : Option Addr) (l : List Tx) (h : Sh w p l) (n : Int) (hn : (Lit.int .i64 n).wf = true) :
    Calls Tryz.prog 149 #[.pointer p, .int .i64 n] w fun e w' => e = .returned (.int .i64 (sndN l n : Int)) ∧ Below w.heap.size w w' := by
  rw [← kept_snd]; exact ssecond_kept w p l h n
theorem sfar_any (w : World) (p : Option Addr) (l : List Tx) (h : Sh w p l) (n : Int) (hn : (Lit.int .i64 n).wf = true) (c : UInt8) :
    Calls Tryz.prog 148 #[.pointer p, .int .i64 n, .int .u8 (c.toNat : Int)] w fun e w' => e = .returned (.int .i64 (farN l n c : Int)) ∧ Below w.heap.size w w' := by
  cases p with
  | none => rw [farN_empty (h.1 rfl)]; exact sfar_none w n c
  | some a =>
    have hat := sat_any w _ l h n
    obtain ⟨t, rfl, ht⟩ := h.2 a rfl
    rcases ht with ⟨g, cap, h1, hdp, h2, h3⟩ | ⟨h1, h2⟩
    · obtain ⟨b1, b2, b3⟩ := kept_deep hdp n
      have hk : nearK (turned l) (UInt8.ofNat c.toNat) = nearK (turned l) c := by rw [UInt8.ofNat_toNat]
      have hkb : nearK (turned l) c ≤ Cwl.leastOf (turned l) + 1 := min_le _ _
      have hlb := least_deep hdp
      have := sfar_kept w t l _ _ h1 (kept l n) n c hat b1 b2 b3 _ hk (by omega)
      by_cases h0 : turned l = []
      · rw [kept_nil h0] at this
        rw [farN_empty h0]
        refine this.mono ?_
        rintro e w' ⟨rfl, hb⟩
        refine ⟨ret_int ?_, hb⟩
        simp only
        omega
      · rw [kept_far h0]
        exact this
    · rw [farN_empty h1]
      rw [kept_nil h1] at hat
      refine (sfar_kept w t l _ _ h2 ⟨0, 0, 0⟩ n c hat (by simp) (by simp) (by simp) 0 rfl (by simp)).mono ?_
      rintro e w' ⟨rfl, hb⟩
      exact ⟨rfl, hb⟩
theorem fstN_at {l : List Tx} {i : Nat} (h : i < (paths (turned l)).length) : fstN l (i : Int) = firstOf (turned l) (paths (turned l)) (paths (turned l))[i] := by unfold fstN; rw [pathOf_at h]
theorem sndN_at {l : List Tx} {i : Nat} (h : i < (paths (turned l)).length) : sndN l (i : Int) = secondOf (turned l) (paths (turned l))[i] := by unfold sndN; rw [pathOf_at h]
theorem farN_at {l : List Tx} {i : Nat} (h : i < (paths (turned l)).length) (c : UInt8) : farN l (i : Int) c = farOf (turned l) (paths (turned l)) (paths (turned l))[i] c := by unfold farN; rw [pathOf_at h]
theorem fstN_off {l : List Tx} {n : Int} (h : ¬ (0 ≤ n ∧ n < (paths (turned l)).length)) : fstN l n = 0 := by unfold fstN; rw [pathOf_none h]
theorem sndN_off {l : List Tx} {n : Int} (h : ¬ (0 ≤ n ∧ n < (paths (turned l)).length)) : sndN l n = 0 := by unfold sndN; rw [pathOf_none h]
theorem farN_off {l : List Tx} {n : Int} (h : ¬ (0 ≤ n ∧ n < (paths (turned l)).length)) (c : UInt8) : farN l n c = 0 := by unfold farN; rw [pathOf_none h]
theorem fstN_nil (n : Int) : fstN [] n = 0 := by rw [← kept_fst, kept_nil rfl]
theorem sndN_nil (n : Int) : sndN [] n = 0 := by rw [← kept_snd, kept_nil rfl]
theorem farN_nil (n : Int) (c : UInt8) : farN [] n c = 0 := farN_empty rfl n c
end Go.Proofs.YtcbhjhhajeeimaaGreat.Shf
/- falls: where each node goes on, and its closure. -/
namespace Go.Proofs.YtcbhjhhajeeimaaGreat.Shf
open Go.RowKit Go.Maps Go.Proofs.YtcbhjhhajeeimaaGreat.Tri Go.Proofs.YtcbhjhhajeeimaaGreat.Lnk Go.Proofs.YtcbhjhhajeeimaaGreat.Cwl Go.Proofs.YtcbhjhhajeeimaaGreat.Bck Go.Proofs.YtcbhjhhajeeimaaGreat.Reg
set_option maxRecDepth 100000
set_option linter.unusedVariables false

/-- While the order grows: those in it know where they fall. -/
def fls (ps Q : List Tx) : List Int := ps.map fun q => if q ∈ Q then failOf ps q else 0
theorem fls_len (ps Q : List Tx) : (fls ps Q).length = ps.length := by simp [fls]
theorem fls_at (ps Q : List Tx) (i : Nat) (h : i < ps.length) : (fls ps Q)[i]'(by rw [fls_len]; exact h) = if ps[i] ∈ Q then failOf ps ps[i] else 0 := by simp [fls]
theorem fls_snoc {ps : List Tx} (hd : ps.Nodup) (Q : List Tx) {i : Nat} (hi : i < ps.length) : fls ps (Q ++ [ps[i]]) = (fls ps Q).set i (failOf ps ps[i]) := by
  apply List.ext_getElem
  · simp [fls]
  · intro j h1 h2
    rw [fls_len] at h1
    rw [List.getElem_set, fls_at _ _ j h1, fls_at _ _ j h1]
    by_cases e : i = j
    · subst e; simp
    · have hne : ps[j] ≠ ps[i] := fun q => e (nd_inj hd q).symm
      simp [hne, e]
theorem fls_all {ps Q : List Tx} (h : ∀ p ∈ ps, p ∈ Q) : fls ps Q = ps.map (failOf ps) := by
  unfold fls
  apply List.map_congr_left
  intro p hp
  rw [if_pos (h p hp)]
theorem fls_root {ps : List Tx} (hw : Wf ps) : fls ps [[]] = (List.replicate ps.length 0).set 0 (-1) := by
  apply List.ext_getElem
  · simp [fls]
  · intro j h1 h2
    rw [fls_len] at h1
    rw [List.getElem_set, fls_at _ _ j h1]
    by_cases e : 0 = j
    · subst e
      simp [hw.at0, failOf]
    · have hne : ps[j] ≠ [] := fun q => e ((hw.nil_iff h1).1 q).symm
      simp [hne, e]
/-- The row of falls in memory: its cells. -/
def Fr (w : World) (g n : Nat) (ps Q : List Tx) : Prop := n = ps.length ∧ g < w.heap.size ∧ ∀ p ∈ ps, p ∈ Q → ∃ i : Nat, place ps p = (i : Int) ∧ i < ps.length ∧ ps.length = n ∧ w.cell? ⟨g, i, none⟩ = some (.int .i64 (failOf ps p))
theorem own_fr {w : World} {s g n cap : Nat} {ps Q : List Tx} (h : w.ownsRow s 3 1 (.slice (some ⟨g, 0, none⟩) n cap) n (ivals (fls ps Q))) (hn : ps.length = n) : Fr w g n ps Q := by
  refine ⟨hn.symm, (own_block_lt h (g := g) rfl).2.1, fun p hp hq => ?_⟩
  obtain ⟨i, hi, e, e2, _⟩ := place_mem hp
  refine ⟨i, e, hi, hn, ?_⟩
  have := h.cellAt i (by omega)
  rw [this, ivals_at _ _ (by rw [fls_len]; exact hi), fls_at _ _ i hi, e2, if_pos hq]
/-- How deep a number is. -/
def mz (ps : List Tx) (n : Int) : Nat := if n < 0 then 0 else (pathD ps n).length + 1
theorem mz_place {ps : List Tx} {z : Tx} (h : z ∈ ps) : mz ps (place ps z) = z.length + 1 := by
  have h0 := (place_nonneg ps z).2 h
  obtain ⟨i, hi, e, e2, _⟩ := place_mem h
  rw [mz, if_neg (by omega), e, pathD_at hi, e2]
theorem mz_fail {ps : List Tx} (hw : Wf ps) (z : Tx) : mz ps (failOf ps z) ≤ z.length := by
  by_cases hz : z = []
  · subst hz; rw [fail_nil, mz, if_pos (by omega)]; simp
  · obtain ⟨u, z', e, hu, h1, h2, h3, _⟩ := fail_step hw z hz
    rw [h3, mz_place h1]; omega
set_option maxHeartbeats 2000000 in
/-- The closure: from where a path falls to, by a byte. -/
theorem land_any (w : World) (s x : Nat) (l : List Tx) (hbk : Bk w s x l) (gf gb g n : Nat) (Q : List Tx)
    (hgf : w.cell? ⟨gf, 0, none⟩ = some (.slice (some ⟨g, 0, none⟩) n n)) (hgb : w.cell? ⟨gb, 0, none⟩ = some (.pointer (some ⟨x, 0, none⟩)))
    (hfr : Fr w g n (paths (turned l)) Q) (hn : n ≤ 1000000) (p : Tx) (hp : ∀ y ∈ paths (turned l), y.length < p.length → y ∈ Q) (c : UInt8) :
    Calls Tryz.prog 99 #[.int .i64 (failOf (paths (turned l)) p), .int .u8 (c.toNat : Int), .pointer (some ⟨gf, 0, none⟩), .pointer (some ⟨gb, 0, none⟩)] w fun e w' => e = .returned (.int .i64 (failOf (paths (turned l)) (p ++ [c]))) ∧ w = w' := by
  obtain ⟨tt, hx, htr⟩ := hbk.tree
  have HS := Lib.hid (step_any w s tt (paths (turned l)) (turned l) htr)
  have HW := Lib.hid (paths_wf (turned l))
  have hgbl := cell_lt0 hgb
  have hgfl := cell_lt0 hgf
  have hxl := cell_lt0 hx
  obtain ⟨hn0, hgl, hr⟩ := hfr
  have HR := Lib.hid hr
  have HQ := Lib.hid hp
  clear hp htr hr hbk
  generalize paths (turned l) = ps at *
  go_enter Tryz.func99, Tryz.ntmps99
  go_wp2
  go_loop [0] (fun v => ∃ z : Tx, z.length ≤ p.length ∧ v = .int .i64 (failOf ps z) ∧ failOf ps (z ++ [c]) = failOf ps (p ++ [c])) (fun v => mz ps (intOf v))
  case atStart => exact ⟨p, Nat.le_refl _, rfl, rfl⟩
  case round =>
    obtain ⟨z, hz, rfl, he⟩ := hrel
    by_cases hz0 : z = []
    · subst hz0
      rw [List.nil_append, fail_one HW.out] at he
      have HE := Lib.hid he
      clear he
      rw [fail_nil]
      go_wp2
      go_ret
      exact ⟨ret_int HE.out, rfl⟩
    · obtain ⟨u, y, e, hu, hy, hyl, ef, ec, _⟩ := fail_step HW.out z hz0
      rw [ec c] at he
      obtain ⟨i, ei, hi, hin0, d0⟩ := HR.out y hy (HQ.out y hy (by omega))
      have HSC : Hid (Calls Tryz.prog 66 #[.pointer (some ⟨tt, 0, none⟩), .int .i64 (i : Int), .int .u8 (c.toNat : Int)] w fun e w' => e = .returned (.int .i64 (place ps (y ++ [c]))) ∧ w = w') := Lib.hid (by
        have := HS.out (i : Int) (wf_nat (by omega) (by omega)) c
        rwa [← ei, step_eq hy c, ei] at this)
      have HM : Hid (mz ps (failOf ps y) < mz ps (failOf ps z)) := Lib.hid (by
        have := mz_fail HW.out y
        rw [ef, mz_place hy]; omega)
      rw [ef, ei] at HM ⊢
      have hin : (i : Int) < (n : Int) := by omega
      clear hy ef ei ec hz0 e hu hin0 hi hn0
      by_cases hm : y ++ [c] ∈ ps
      · rw [if_pos hm] at he
        have hx0 : 0 ≤ place ps (y ++ [c]) := (place_nonneg ps _).2 hm
        have HE := Lib.hid he
        clear he hm d0
        generalize place ps (y ++ [c]) = x0 at *
        go_wp2_with (go_at_call 66; (with_reducible refine HSC.out.mono ?_); rintro e w1 ⟨rfl, rfl⟩)
        go_ret
        exact ⟨ret_int HE.out, rfl⟩
      · rw [if_neg hm] at he
        have hx0 : place ps (y ++ [c]) < 0 := (place_neg ps _).2 hm
        have HE := Lib.hid he
        clear he hm
        generalize place ps (y ++ [c]) = x0 at *
        generalize hfy : failOf ps y = fy at *
        have HFY := Lib.hid hfy
        clear hfy
        go_wp2_with (go_at_call 66; (with_reducible refine HSC.out.mono ?_); rintro e w1 ⟨rfl, rfl⟩)
        go_round
        case rel => exact ⟨y, by omega, by rw [HFY.out], HE.out⟩
        case measure => simpa [intOf] using HM.out
end Go.Proofs.YtcbhjhhajeeimaaGreat.Shf
/- falls: its contract. -/
namespace Go.Proofs.YtcbhjhhajeeimaaGreat.Shf
open Go.RowKit Go.Maps Go.Proofs.YtcbhjhhajeeimaaGreat.Tri Go.Proofs.YtcbhjhhajeeimaaGreat.Lnk Go.Proofs.YtcbhjhhajeeimaaGreat.Cwl Go.Proofs.YtcbhjhhajeeimaaGreat.Bck Go.Proofs.YtcbhjhhajeeimaaGreat.Reg
set_option maxRecDepth 100000
set_option linter.unusedVariables false

theorem kidsT_at (ps : List Tx) (p : Tx) (j : Nat) (h : j < (rkids ps p).length) : (kidsT ps p)[j]'(by unfold kidsT; simpa using h) = p ++ [(rkids ps p)[j]] := by simp [kidsT]
theorem kidsT_len (ps : List Tx) (p : Tx) : (kidsT ps p).length = (rkids ps p).length := by simp [kidsT]
theorem kidsT_take (ps : List Tx) (p : Tx) (j : Nat) (h : j < (rkids ps p).length) : (kidsT ps p).take (j + 1) = (kidsT ps p).take j ++ [p ++ [(rkids ps p)[j]]] := by
  rw [List.take_succ_eq_append_getElem (by rw [kidsT_len]; exact h), kidsT_at ps p j h]
/-- While falls goes on: the row of falls, the order, and the two variables that the closure has. -/
def Fq (w : World) (s g n b1 gf x : Nat) (ps Qf Qo : List Tx) (vo : Value) : Prop :=
  w.ownsRow s 3 1 (.slice (some ⟨g, 0, none⟩) n n) n (ivals (fls ps Qf)) ∧ w.ownsRow (g + 1) 3 1 vo Qo.length (ivals (Qo.map (place ps))) ∧
    Blk1 w b1 123 (.pointer (some ⟨x, 0, none⟩)) ∧ Blk1 w gf 111 (.slice (some ⟨g, 0, none⟩) n n)
theorem Fq.keep {w w' : World} {s g n b1 gf x : Nat} {ps Qf Qo : List Tx} {vo : Value} (h : Fq w s g n b1 gf x ps Qf Qo vo) (hb : Below w.heap.size w w') : Fq w' s g n b1 gf x ps Qf Qo vo := by
  obtain ⟨h1, h2, h4, h5⟩ := h
  exact ⟨own_keep h1 hb, own_keep h2 hb, (hb.block _ h4.lt).trans h4, (hb.block _ h5.lt).trans h5⟩
/-- One fall more. -/
theorem Fq.store {w : World} {s g n b1 gf x : Nat} {ps Q Qo : List Tx} {vo : Value} (h : Fq w s g n b1 gf x ps Q Qo vo) (hw : Wf ps) {m : Nat} (hm : m < ps.length) :
    Fq (w.setCell ⟨g, m, none⟩ (.int .i64 (failOf ps ps[m]))) s g n b1 gf x ps (Q ++ [ps[m]]) Qo vo ∧ s ≤ g := by
  obtain ⟨h1, h2, h4, h5⟩ := h
  obtain ⟨hsg, hgz, cs, hh⟩ := own_block_lt h1 (g := g) rfl
  have ne1 : b1 ≠ g := fun e => by subst e; have := hh.symm.trans h4; simp at this
  have ne2 : gf ≠ g := fun e => by subst e; have := hh.symm.trans h5; simp at this
  refine ⟨⟨?_, own_far_block h2 fun k hk => Below.heap_setCell _ _ _ _ fun e => ?_, (Below.heap_setCell _ _ _ _ ne1).trans h4, (Below.heap_setCell _ _ _ _ ne2).trans h5⟩, hsg⟩
  · rw [fls_snoc hw.nodup Q hm]
    have := (h1.stored m (.int .i64 (failOf ps ps[m]))).1
    have e : (ivals (fls ps Q)).set m (.int .i64 (failOf ps ps[m])) = ivals ((fls ps Q).set m (failOf ps ps[m])) := by simp [ivals]
    rwa [e] at this
  · have := own_ge h2 hk
    have e2 : k = g := e
    omega
/-- The order, one number more. -/
theorem Fq.more {w w4 : World} {s g n b1 gf x : Nat} {ps Q Qo : List Tx} {vo v4 : Value} {q : Tx} (h : Fq w s g n b1 gf x ps Q Qo vo)
    (hg : w.grownBy w4 vo.ownBlock) (h4 : w4.ownsRow (g + 1) 3 1 v4 (Qo.length + 1) (ivals (Qo.map (place ps) ++ [place ps q]))) : Fq w4 s g n b1 gf x ps Q (Qo ++ [q]) v4 := by
  obtain ⟨h1, h2, h5, h6⟩ := h
  have far : ∀ k, k < w.heap.size → vo.ownBlock ≠ some k → w4.heap[k]? = w.heap[k]? := fun k hk hne => hg.block k hk fun e => hne e.symm
  have nk : ∀ {k t : Nat} {u : Value}, Blk1 w k t u → t ≠ 3 → vo.ownBlock ≠ some k := fun hb ht e => by
    obtain ⟨_, _, cs', hh'⟩ := own_block_lt h2 e
    have := hh'.symm.trans hb
    simp at this
    exact ht this.2.symm
  refine ⟨own_far_block h1 fun k hk => ?_, ?_, (far _ h5.lt (nk h5 (by decide))).trans h5, (far _ h6.lt (nk h6 (by decide))).trans h6⟩
  · have e : g = k := by simpa [Value.ownBlock] using hk
    subst e
    exact far _ (own_block_lt h1 rfl).2.1 fun e => by have := own_ge h2 e; omega
  · rw [List.length_append, List.length_singleton, List.map_append]
    exact h4
theorem made_list (n : Nat) : (madeCells (Value.int .i64 0).cells (n * 1)).toList = ivals (List.replicate n 0) := by
  apply List.ext_getElem?
  intro j
  by_cases hj : j < n
  · simp only [madeCells, ivals, List.map_replicate, List.getElem?_replicate, if_pos hj, Array.getElem?_toList, Array.getElem?_map]
    rw [Array.getElem?_range]
    have : j % 1 = 0 := Nat.mod_one j
    simp [Value.cells, hj, this]
  · simp [madeCells, ivals, hj]
set_option maxHeartbeats 4000000 in
theorem falls_any (w : World) (s0 x : Nat) (l : List Tx) (hbk : Bk w s0 x l) (ps : List Tx) (hps : paths (turned l) = ps) (hn : ps.length ≤ 1000000) :
    Calls Tryz.prog 80 #[.pointer (some ⟨x, 0, none⟩)] w fun e w' => ∃ g, e = .returned (.slice (some ⟨g, 0, none⟩) ps.length ps.length) ∧ w'.ownsRow w.heap.size 3 1 (.slice (some ⟨g, 0, none⟩) ps.length ps.length) ps.length (ivals (ps.map (failOf ps))) ∧ Below w.heap.size w w' := by
  obtain ⟨tt, hx, htr⟩ := hbk.tree
  rw [hps] at htr
  have HW : Hid (Wf ps) := Lib.hid (hps ▸ paths_wf (turned l))
  have HIV := Lib.hid (fun i => inv_bq HW.out i)
  have HT : Hid (∀ X, Below w.heap.size w X → Tr X s0 tt ps (turned l)) := Lib.hid fun X hX => htr.keep hX
  have HN : Hid (∀ X, Below w.heap.size w X → _) := Lib.hid fun X hX => nodes_any X s0 tt ps _ (htr.keep hX)
  have HX : Hid (∀ X, Below w.heap.size w X → X.cell? ⟨x, 0, none⟩ = some (.pointer (some ⟨tt, 0, none⟩))) := Lib.hid fun X hX => (hX.cell (p := ⟨x, 0, none⟩) (cell_lt0 hx)).trans hx
  have HLAND := Lib.hid (fun X (hX : Below w.heap.size w X) => land_any X s0 x l (hbk.keep hX))
  rw [hps] at HLAND
  have hxl := cell_lt0 hx
  have hpos := HW.out.pos
  obtain ⟨i0, hi, hz0, hz1, hz2⟩ := info_parts Lnk.info3
  clear htr hbk hps
  have hmf : ∀ (fn : Fn) (first cap : Array Value) (w : World), (Instr.makeFunc fn first cap).run Tryz.prog w = .ok (.func fn first cap) w := fun _ _ _ _ => rfl
  go_enter Tryz.func80, Tryz.ntmps80
  have hxa : (w.alloc (.cells #[.pointer (some ⟨x, 0, none⟩)] 123)).cell? ⟨x, 0, none⟩ = some (.pointer (some ⟨tt, 0, none⟩)) := HX.out _ ((Below.refl _ w).alloc (Nat.le_refl _) _)
  go_wp2_with (first
    | (go_at_call 47; (with_reducible refine (HN.out _ ((Below.refl _ w).alloc (Nat.le_refl _) _)).mono ?_); rintro e w0 ⟨rfl, rfl⟩)
    | (at_make; refine wpList_make_full _ rfl _ _ 111 rfl (w.heap.size + 1) 3 i0 (.int .i64 0) 1 Lnk.und32 hi hz0 hz1 .i64 .i64 _ _ ps.length rfl rfl (by simp) (by simp) (by rw [hz2]; omega) (by unfold maxLen; omega) (by simp) ?_; intro w1 hown hg1; rw [made_list, World.size_alloc] at hown; have HGL := Lib.hid (own_block_lt hown (g := w.heap.size + 1) rfl).2.1; have hb1 := ((Below.refl _ w).alloc (Nat.le_refl _) (.cells #[.pointer (some ⟨x, 0, none⟩)] 123)).grown hg1 (by simp) (fun k hk => by cases hk); have hk1 : Blk1 w1 w.heap.size 123 (.pointer (some ⟨x, 0, none⟩)) := ((hg1.block w.heap.size (by simp) (by simp)).trans (heap_alloc_new w _)); have how2 := hown.alloc (.cells #[.slice (some ⟨w.heap.size + 1, 0, none⟩) ps.length ps.length] 111); have hcg := how2.cellAt 0 (by omega); have hfg := how2.frozenAt 0; rw [ivals_at _ _ (by simp; omega)] at hcg; have HB1 := Lib.hid hb1; have HK1 := Lib.hid hk1; have HO2 := Lib.hid how2; clear hown hg1 hb1 hk1 how2))
  have hgl := HGL.out
  clear HGL
  have hF0 : Fq (((w1.alloc (.cells #[.slice (some ⟨w.heap.size + 1, 0, none⟩) ps.length ps.length] 111)).setCell ⟨w.heap.size + 1, 0, none⟩ (.int .i64 (-1))).alloc (.cells #[.int .i64 0] 3)) w.heap.size (w.heap.size + 1) ps.length w.heap.size w1.heap.size x ps [[]] [[]] (.slice (some ⟨w1.heap.size + 1, 0, none⟩) 1 1) := by
    have h2 := (HO2.out.stored 0 (.int .i64 (-1))).1.alloc (.cells #[.int .i64 0] 3)
    have e : (ivals (List.replicate ps.length 0)).set 0 (.int .i64 (-1)) = ivals (fls ps [[]]) := by rw [fls_root HW.out]; simp [ivals]
    rw [e] at h2
    have h3 := World.ownsRow_lit (base := w.heap.size + 1 + 1) (e := 3) (size := 1) ((w1.alloc (.cells #[.slice (some ⟨w.heap.size + 1, 0, none⟩) ps.length ps.length] 111)).setCell ⟨w.heap.size + 1, 0, none⟩ (.int .i64 (-1))) #[.int .i64 0] 1 (by simp; omega) (by unfold maxLen; omega) rfl
    rw [show ((w1.alloc (.cells #[.slice (some ⟨w.heap.size + 1, 0, none⟩) ps.length ps.length] 111)).setCell ⟨w.heap.size + 1, 0, none⟩ (.int .i64 (-1))).heap.size = w1.heap.size + 1 by simp] at h3
    refine ⟨own_base h2 (by omega), ?_, ?_, ?_⟩
    · have e2 : ivals ([([] : Tx)].map (place ps)) = [.int .i64 0] := by simp [ivals, place_nil HW.out]
      rw [e2]
      exact h3
    · refine (Below.heap_alloc _ _ _ (by simp; omega)).trans ((Below.heap_setCell _ _ _ _ (by simp)).trans ((Below.heap_alloc _ _ _ (by omega)).trans HK1.out))
    · refine (Below.heap_alloc _ _ _ (by simp)).trans ((Below.heap_setCell _ _ _ _ (by simp; omega)).trans (heap_alloc_new w1 _))
  have hbl : Below w.heap.size w (((w1.alloc (.cells #[.slice (some ⟨w.heap.size + 1, 0, none⟩) ps.length ps.length] 111)).setCell ⟨w.heap.size + 1, 0, none⟩ (.int .i64 (-1))).alloc (.cells #[.int .i64 0] 3)) :=
    ((HB1.out.alloc (by omega) _).setCell (p := ⟨w.heap.size + 1, 0, none⟩) (by simp) _).alloc (by simp; omega) _
  clear hcg hfg HB1 HK1 HO2 hxa HN
  generalize ((w1.alloc (.cells #[.slice (some ⟨w.heap.size + 1, 0, none⟩) ps.length ps.length] 111)).setCell ⟨w.heap.size + 1, 0, none⟩ (.int .i64 (-1))).alloc (.cells #[.int .i64 0] 3) = w2 at *
  obtain ⟨g, hg⟩ : ∃ g, g = w.heap.size + 1 := ⟨_, rfl⟩
  rw [← hg] at hF0 ⊢ hgl
  obtain ⟨og, hog⟩ : ∃ og, og = w1.heap.size + 1 := ⟨_, rfl⟩
  rw [← hog] at hF0 ⊢
  generalize hgf : w1.heap.size = gf at *
  obtain ⟨b1, hb1⟩ : ∃ b1, b1 = w.heap.size := ⟨_, rfl⟩
  have hF1 : Fq w2 w.heap.size g ps.length b1 gf x ps [[]] [[]] (.slice (some ⟨og, 0, none⟩) 1 1) := by rw [hb1]; exact hF0
  generalize hs : w.heap.size = s at *
  rw [← hb1]
  clear hF0 hg hog hgf hb1 hgl
  go_loopw [5, 6] (fun vo i wr => ∃ k : Nat, k ≤ (bq ps k).length ∧ i = .int .i64 k ∧ Fq wr s g ps.length b1 gf x ps (bq ps k) (bq ps k) vo ∧ Below s w wr) (fun _ i _ => ps.length - (intOf i).toNat)
  case atStart => exact ⟨0, Nat.zero_le _, rfl, hF1, hbl⟩
  case round =>
    obtain ⟨k, hk, rfl, hq, hbel⟩ := hrel
    have hql := bq_len HW.out k
    by_cases hlt : k < (bq ps k).length
    · have HI2 := Lib.hid (HIV.out k)
      have HSUCC := Lib.hid (bq_succ hlt)
      have HSH : Hid (∀ y ∈ ps, y.length < (bq ps k)[k].length + 1 → y ∈ bq ps k) := Lib.hid fun y hy hle => (HIV.out k).shallow HW.out hlt _ y rfl (by omega) hy
      have hpq := List.getElem_mem hlt
      have hpp := (HIV.out k).sub _ hpq
      generalize hQ : bq ps k = Q at *
      generalize hP : Q[k] = p at *
      have ⟨h1, h2, k1, k2⟩ := hq
      obtain ⟨a, co, evo, hi2, hnil⟩ := own_is h2
      have hz : k < (Q.map (place ps)).length := by simpa using hlt
      obtain ⟨bo, oo, rfl, hbo, hco⟩ := hi2 (by omega)
      have hck := hco k hz
      rw [List.getElem_map, hP] at hck
      subst evo
      have d1 := k1.cell
      have hkl : (k : Int) < ((Q.map (place ps)).length : Int) := by omega
      have htc := HX.out _ hbel
      have HKC : Hid (Calls Tryz.prog 65 #[.pointer (some ⟨tt, 0, none⟩), .int .i64 (place ps p)] wr (GivesText wr (rkids ps p))) := Lib.hid (by
        have := kids_any wr s0 tt ps _ (HT.out _ hbel) (place ps p) (wf_nat (place_ge _ _) (by have := place_lt ps p; omega))
        rwa [kids_eq hpp] at this)
      obtain ⟨i, hip, ei, ei2, _⟩ := place_mem hpp
      rw [ei] at hck HKC
      have HEI := Lib.hid ei
      have HEI2 := Lib.hid ei2
      have HPP := Lib.hid hpp
      have HPQ := Lib.hid hpq
      have HKL := Lib.hid (kidsT_len ps p)
      have HKT := Lib.hid (kidsT_take ps p)
      have HMK := Lib.hid (mem_rkids ps p)
      have HFQ := Lib.hid hq
      have HBE := Lib.hid hbel
      have HLT := Lib.hid hlt
      clear h1 h2 hi2 hco hbel k1 k2 ei ei2 hpp hpq hq hlt hQ hP
      generalize hks : rkids ps p = ks at *
      clear hks
      go_wp2_with (go_at_call 65; (with_reducible refine HKC.out.mono ?_); rintro e w3 ⟨ak, ck, rfl, htx, hkc, hkn, hb2⟩)
      have HTX := Lib.hid (show Txt w3 (g + 1) ak ks from htx.less (by have := (own_block_lt HFQ.out.1 (g := g) rfl).2.1; omega))
      have hq2 := HFQ.out.keep hb2
      have hbe2 := HBE.out.trans (hb2.mono (by have := HBE.out.size; omega))
      clear htx hb2 hck d1 htc hbo HKC HFQ HBE
      go_loopw [5, 38] (fun vo v wr => ∃ j : Nat, j ≤ ks.length ∧ v = .int .i64 (j : Int) ∧ Fq wr s g ps.length b1 gf x ps (Q ++ (kidsT ps p).take j) (Q ++ (kidsT ps p).take j) vo ∧ Below s w wr ∧ Txt wr (g + 1) ak ks) (fun _ v _ => ks.length - (intOf v).toNat)
      case atStart => exact ⟨0, Nat.zero_le _, rfl, by rw [List.take_zero, List.append_nil]; rw [List.length_map] at hq2; exact hq2, hbe2, HTX.out⟩
      case round =>
        obtain ⟨j, hj, rfl, hq, hbel, htx⟩ := hrel
        by_cases hjl : j < ks.length
        · obtain ⟨bk, ok, rfl, hbk, hcc⟩ := htx.bs (by omega)
          have hck := hcc j hjl
          have HTK := Lib.hid (HKT.out j hjl)
          have hqp : p ++ [ks[j]] ∈ ps := (HMK.out ks[j]).1 (List.getElem_mem hjl)
          obtain ⟨m, hm, em, em2, _⟩ := place_mem hqp
          have hpQ : ps[i] ∈ Q ++ (kidsT ps p).take j := List.mem_append_left _ (by rw [HEI2.out]; exact HPQ.out)
          have hfr : Fr wr g ps.length ps (Q ++ (kidsT ps p).take j) := own_fr hq.1 rfl
          obtain ⟨_, hgl, hfr2⟩ := hfr
          obtain ⟨i', e1, _, _, r0⟩ := hfr2 ps[i] (List.getElem_mem hip) hpQ
          rw [HEI2.out, HEI.out] at e1
          obtain rfl : i = i' := by omega
          rw [HEI2.out] at r0
          have d1 := hq.2.2.1.cell
          have d2 := hq.2.2.2.cell
          have htc := HX.out _ hbel
          have hfull : Q.length + ks.length ≤ ps.length := by have := bq_len HW.out (k + 1); rw [HSUCC.out, List.length_append, HKL.out] at this; exact this
          have HSTEP : Hid (Calls Tryz.prog 66 #[.pointer (some ⟨tt, 0, none⟩), .int .i64 (i : Int), .int .u8 (ks[j].toNat : Int)] wr fun e w' => e = .returned (.int .i64 (m : Int)) ∧ wr = w') := Lib.hid (by
            have := step_any wr s0 tt ps _ (HT.out _ hbel) (i : Int) (wf_nat (by omega) (by omega)) ks[j]
            rwa [← HEI.out, step_eq HPP.out, em, HEI.out] at this)
          have hqd : Fq wr.drew s g ps.length b1 gf x ps (Q ++ (kidsT ps p).take j) (Q ++ (kidsT ps p).take j) _ := hq.keep (below_drews (Below.refl wr.heap.size wr) 1)
          have hbd : Below s w wr.drew := below_drews hbel 1
          have hLAND : Calls Tryz.prog 99 #[.int .i64 (failOf ps p), .int .u8 (ks[j].toNat : Int), .pointer (some ⟨gf, 0, none⟩), .pointer (some ⟨b1, 0, none⟩)] wr.drew fun e w' => e = .returned (.int .i64 (failOf ps (p ++ [ks[j]]))) ∧ wr.drew = w' :=
            HLAND.out wr.drew hbd gf b1 g ps.length (Q ++ (kidsT ps p).take j) hqd.2.2.2.cell hqd.2.2.1.cell (own_fr hqd.1 rfl) hn p (fun y hy hyl => List.mem_append_left _ (HSH.out y hy (by omega))) ks[j]
          have HL2 := Lib.hid hLAND
          have hst := hqd.store HW.out hm
          rw [em2] at hst
          have hcm := hqd.1.cellAt m (by omega)
          rw [ivals_at _ _ (by rw [fls_len]; exact hm)] at hcm
          have HCM := Lib.hid hcm
          have hfm := hqd.1.frozenAt m
          have HFM := Lib.hid hfm
          have htx2 : Txt wr.drew (g + 1) (some ⟨bk, ok, none⟩) ks := htx.keep (below_drews (Below.refl wr.heap.size wr) 1)
          have hgt : Txt (wr.drew.setCell ⟨g, m, none⟩ (.int .i64 (failOf ps (p ++ [ks[j]])))) (g + 1) (some ⟨bk, ok, none⟩) ks := txt_grown htx2 (grown_set _ g m _) fun r cs fr e he => by
            obtain rfl := Option.some.inj e
            obtain ⟨_, _, cs', hh⟩ := own_block_lt hqd.1 (g := g) rfl
            rw [hh] at he
            simp at he
          have HSI : Hid ((wr.drew.setCell ⟨g, m, none⟩ (.int .i64 (failOf ps (p ++ [ks[j]])))).cell? ⟨g, i, none⟩ = some (.int .i64 (failOf ps p))) := Lib.hid (by
            rw [hst.1.1.cellAt i (by omega), ivals_at _ _ (by rw [fls_len]; exact hip), fls_at _ _ i hip, if_pos (List.mem_append_left _ hpQ), HEI2.out])
          have HST := Lib.hid hst
          have HBD := Lib.hid (hbd.setCell (p := ⟨g, m, none⟩) (show s ≤ g from hst.2) (.int .i64 (failOf ps (p ++ [ks[j]]))))
          have HGT := Lib.hid hgt
          have HSX : Hid (wr.drew.cell? ⟨gf, 0, none⟩ = some (.slice (some ⟨g, 0, none⟩) ps.length ps.length) ∧ wr.drew.cell? ⟨g, i, none⟩ = some (.int .i64 (failOf ps p))) := Lib.hid ⟨d2, r0⟩
          have HEM := Lib.hid em
          have hil : (i : Int) < (ps.length : Int) := by omega
          have hml : (m : Int) < (ps.length : Int) := by omega
          have hjk : (j : Int) < (ks.length : Int) := by omega
          have hs5 : s ≤ wr.heap.size := by have := hbel.size; omega
          clear hfr2 r0 hqd hbd hLAND hst hcm hfm htx2 hgt e1 hcc htx hbel hq em hqp em2 hpQ d2
          generalize failOf ps (p ++ [ks[j]]) = F at *
          generalize failOf ps p = F0 at *
          generalize hqq : p ++ [ks[j]] = q at *
          generalize ks[j] = c at *
          generalize hQj : Q ++ (kidsT ps p).take j = Qj at *
          have HQJ := Lib.hid hQj
          clear hQj hqq
          go_wp2_with (go_at_call 66; (with_reducible refine HSTEP.out.mono ?_); rintro e w1 ⟨rfl, rfl⟩)
          clear HSTEP hck d1 htc
          refine wp_region_held_drew (S := fun w' => w'.cell? ⟨gf, 0, none⟩ = some (.slice (some ⟨g, 0, none⟩) ps.length ps.length) ∧ w'.cell? ⟨g, i, none⟩ = some (.int .i64 F0)) (by kernel_rfl) HSX.out (fun hH0 => ?_)
          clear HSX
          generalize wr.drew = x0 at *
          refine held_take (i := 0) (d := 49) (oi := _) (v := ?_) rfl rfl (by kernel_rfl) (by kernel_rfl) (by kernel_rfl) (fun _ _ _ h => h) (Or.inl ⟨by rfl, ?_⟩) (by assumption) ?_
          rotate_left
          · (intro w hSw; obtain ⟨s1, s2⟩ := hSw; go_simp; (try with_reducible rfl))
          simp only [Act.put, List.setIfInBounds_toArray, List.set_cons_zero, List.set_cons_succ]
          refine held_take (i := 1) (d := 50) (oi := _) (v := ?_) rfl rfl (by kernel_rfl) (by kernel_rfl) (by kernel_rfl) (fun _ _ _ h => h) (Or.inl ⟨by rfl, ?_⟩) (by assumption) ?_
          rotate_left
          · (intro w hSw; obtain ⟨s1, s2⟩ := hSw; go_simp; (try with_reducible rfl))
          simp only [Act.put, List.setIfInBounds_toArray, List.set_cons_zero, List.set_cons_succ]
          refine held_take (i := 2) (d := 51) (oi := _) (v := ?_) rfl rfl (by kernel_rfl) (by kernel_rfl) (by kernel_rfl) (fun _ _ _ h => h) (Or.inl ⟨by rfl, ?_⟩) (by assumption) ?_
          rotate_left
          · (intro w hSw; obtain ⟨s1, s2⟩ := hSw; go_simp; (try with_reducible rfl))
          simp only [Act.put, List.setIfInBounds_toArray, List.set_cons_zero, List.set_cons_succ]
          refine held_take (i := 3) (d := 52) (oi := _) (v := ?_) rfl rfl (by kernel_rfl) (by kernel_rfl) (by kernel_rfl) (fun _ _ _ h => h) (Or.inl ⟨by rfl, ?_⟩) (by assumption) ?_
          rotate_left
          · (intro w hSw; obtain ⟨s1, s2⟩ := hSw; go_simp; (try with_reducible rfl))
          simp only [Act.put, List.setIfInBounds_toArray, List.set_cons_zero, List.set_cons_succ]
          refine held_take (i := 4) (d := 53) (oi := _) (v := ?_) rfl rfl (by kernel_rfl) (by kernel_rfl) (by kernel_rfl) (fun _ _ _ h => h) (Or.inl ⟨by rfl, ?_⟩) (by assumption) ?_
          rotate_left
          · (intro w hSw; obtain ⟨s1, s2⟩ := hSw; go_simp; (try with_reducible rfl))
          simp only [Act.put, List.setIfInBounds_toArray, List.set_cons_zero, List.set_cons_succ]
          refine held_take (i := 5) (d := 54) (oi := _) (v := ?_) rfl rfl (by kernel_rfl) (by kernel_rfl) (by kernel_rfl) (fun _ _ _ h => h) (Or.inl ⟨by rfl, ?_⟩) (by assumption) ?_
          rotate_left
          · (intro w hSw; obtain ⟨s1, s2⟩ := hSw; go_simp; (try with_reducible rfl))
          simp only [Act.put, List.setIfInBounds_toArray, List.set_cons_zero, List.set_cons_succ]
          refine held_take (i := 6) (d := 55) (oi := _) (v := ?_) rfl rfl (by kernel_rfl) (by kernel_rfl) (by kernel_rfl) (fun _ _ _ h => h) (Or.inl ⟨by rfl, ?_⟩) (by assumption) ?_
          rotate_left
          · (intro w hSw; obtain ⟨s1, s2⟩ := hSw; go_simp; (try with_reducible rfl))
          simp only [Act.put, List.setIfInBounds_toArray, List.set_cons_zero, List.set_cons_succ]
          refine held_take (i := 7) (d := 56) (oi := _) (v := ?_) rfl rfl (by kernel_rfl) (by kernel_rfl) (by kernel_rfl) (fun _ _ _ h => h) (Or.inl ⟨by rfl, ?_⟩) (by assumption) ?_
          rotate_left
          · (intro w hSw; obtain ⟨s1, s2⟩ := hSw; go_simp; (try with_reducible rfl))
          simp only [Act.put, List.setIfInBounds_toArray, List.set_cons_zero, List.set_cons_succ]
          refine wpAnyH_ready (rs := [8]) (by kernel_rfl) (by simp) ?_
          refine AllReadyH.cons rfl (fun K hK => ?_) AllReadyH.nil
          go_simp
          go_wp2_with (go_at_call 99; (with_reducible refine HL2.out.mono ?_); rintro e x' ⟨rfl, rfl⟩)
          refine hK.out _ _ hH0 (fun _ => ?_)
          clear hK K HL2
          refine held_take (i := 9) (d := 58) (oi := _) (v := ?_) rfl rfl (by kernel_rfl) (by kernel_rfl) (by kernel_rfl) (fun _ _ _ h => h) (Or.inl ⟨by rfl, ?_⟩) (by assumption) ?_
          rotate_left
          · (intro w hSw; obtain ⟨s1, s2⟩ := hSw; go_simp; (try with_reducible rfl))
          simp only [Act.put, List.setIfInBounds_toArray, List.set_cons_zero, List.set_cons_succ]
          obtain ⟨⟨t1, t2, t3, t4⟩, hsg⟩ := HST.out
          have hcm := HCM.out
          have hfm := HFM.out
          refine wpAnyH_ready (rs := [10]) (by kernel_rfl) (by simp) ?_
          refine AllReadyH.cons rfl (fun K hK => ?_) AllReadyH.nil
          go_simp
          refine hK.out _ _ ⟨t4.cell, HSI.out⟩ (fun _ => ?_)
          clear hK K hH0
          refine wpAnyH_done (by kernel_rfl) ?_ _
          have HF5 := Lib.hid (show Fq (x0.setCell ⟨g, m, none⟩ (.int .i64 F)) s g ps.length b1 gf x ps (Qj ++ [q]) Qj u5 from ⟨t1, t2, t3, t4⟩)
          clear hcm hfm HCM HFM HSI HST t1 t2 t3 t4
          have hz5 : s ≤ (x0.setCell ⟨g, m, none⟩ (.int .i64 F)).heap.size := by have := HBD.out.size; omega
          generalize x0.setCell ⟨g, m, none⟩ (.int .i64 F) = w5 at *
          have hF5 := HF5.out
          obtain ⟨ao, co2, rfl, _, _⟩ := own_is hF5.2.1
          have hln : (Qj.map (place ps)).length = Qj.length := by simp
          rw [hln] at HF5 hF5 ⊢
          have hql2 : Qj.length ≤ 1000000 := by
            have h1 : (Q ++ kidsT ps p).length ≤ ps.length := by rw [← HSUCC.out]; exact bq_len HW.out _
            rw [← HQJ.out, List.length_append, List.length_take, HKL.out]
            rw [List.length_append, HKL.out] at h1
            omega
          have HO5 := Lib.hid hF5.2.1
          clear hF5
          go_wp2_with (at_builtin; refine app_is rfl _ _ rfl (g + 1) _ _ (Qj.map (place ps)) (m : Int) rfl (HO5.out.alloc _) ⟨w5.heap.size, 0, none⟩ rfl (cell_new1 _ _ _) (by omega) (by have := (own_block_lt HF5.out.1 (g := g) rfl).2.1; simp; omega) ?_; intro v2 w6 hown2 hg2)
          have hF6 := ((HF5.out.keep ((Below.refl _ w5).alloc (Nat.le_refl _) (.cells #[.int .i64 (m : Int)] 3))).more (q := q) hg2 (by rw [HEM.out]; exact hown2))
          have hT6 : Txt w6 (g + 1) (some ⟨bk, ok, none⟩) ks := txt_grown (HGT.out.keep ((Below.refl _ w5).alloc (Nat.le_refl _) (.cells #[.int .i64 (m : Int)] 3))) hg2 fun r cs fr e he => by
            obtain ⟨_, _, cs', hh⟩ := own_block_lt (HO5.out.alloc (.cells #[.int .i64 (m : Int)] 3)) e
            rw [hh] at he
            simp at he
          have hB6 : Below s w w6 := (HBD.out.alloc hz5 (.cells #[.int .i64 (m : Int)] 3)).grown hg2 (by simp; omega) (fun k hk => by have := own_ge HO5.out hk; omega)
          rw [← HQJ.out, List.append_assoc, ← HTK.out] at hF6
          exact ⟨⟨j + 1, by omega, by go_num, hF6, hB6, hT6⟩, by simp [intOf]; omega⟩
        · obtain rfl : j = ks.length := by omega
          have HQE : Hid (Q ++ (kidsT ps p).take ks.length = bq ps (k + 1)) := Lib.hid (by rw [HSUCC.out, List.take_of_length_le (by rw [HKL.out]; exact Nat.le_refl _)])
          rw [HQE.out] at hq
          have HLQ5 := Lib.hid hq
          have HB5 := Lib.hid hbel
          have hkq : k + 1 ≤ (bq ps (k + 1)).length := by rw [HSUCC.out, List.length_append]; have := HLT.out; omega
          have HLT2 := HLT.out
          clear hq hbel htx
          go_wp2
          exact ⟨⟨k + 1, hkq, by go_num, HLQ5.out, HB5.out⟩, by simp [intOf]; omega⟩
    · have hke : bq ps k = ord ps := ord_of_end (by omega) (by omega)
      rw [hke] at hq
      obtain ⟨h1, h3, _, k2⟩ := hq
      obtain ⟨a, co, rfl, _, _⟩ := own_is h3
      have hln : ((ord ps).map (place ps)).length = (ord ps).length := by simp
      rw [hln]
      rw [hke] at hlt
      have d2 := k2.cell
      have HR : Hid (wr.ownsRow s 3 1 (.slice (some ⟨g, 0, none⟩) ps.length ps.length) ps.length (ivals (ps.map (failOf ps)))) := Lib.hid (by
        rw [← fls_all (ord_all HW.out)]; exact h1)
      have HBE := Lib.hid hbel
      have hle : ¬ (k : Int) < ((ord ps).length : Int) := by omega
      clear h1 h3 hln hbel k2 hke hk hql hlt
      go_wp2
      go_ret
      exact ⟨g, rfl, HR.out, HBE.out⟩
end Go.Proofs.YtcbhjhhajeeimaaGreat.Shf
/- fill: its two closures. -/
namespace Go.Proofs.YtcbhjhhajeeimaaGreat.Shf
open Go.RowKit Go.Maps Go.Proofs.YtcbhjhhajeeimaaGreat.Tri Go.Proofs.YtcbhjhhajeeimaaGreat.Lnk Go.Proofs.YtcbhjhhajeeimaaGreat.Cwl Go.Proofs.YtcbhjhhajeeimaaGreat.Bck Go.Proofs.YtcbhjhhajeeimaaGreat.Reg
set_option maxRecDepth 100000
set_option linter.unusedVariables false

theorem ahead_any (w : World) (b0 t g n cap i j d1 d2 : Nat) (h0 : w.cell? ⟨b0, 0, none⟩ = some (.pointer (some ⟨t, 0, none⟩))) (h1 : w.cell? ⟨t, 0, none⟩ = some (.slice (some ⟨g, 0, none⟩) n cap))
    (hi : i < n) (hj : j < n) (h2 : w.cell? ⟨g, i * 3, none⟩ = some (.int .i64 (d1 : Int))) (h3 : w.cell? ⟨g, j * 3, none⟩ = some (.int .i64 (d2 : Int))) (e1 : d1 ≤ 1000000) (e2 : d2 ≤ 1000000) :
    Calls Tryz.prog 97 #[.int .i64 (i : Int), .int .i64 (j : Int), .pointer (some ⟨b0, 0, none⟩)] w fun e w' => e = .returned (.int .i64 ((d1 : Int) - d2)) ∧ ∃ q, w' = w.drewN q := by
  have hb0 := cell_lt0 h0
  have ht := cell_lt0 h1
  have hg := cell_lt0 h2
  have hin : (i : Int) < (n : Int) := by omega
  have hjn : (j : Int) < (n : Int) := by omega
  have hw : wrap64 ((d1 : Int) - (d2 : Int)) = (d1 : Int) - d2 := by unfold wrap64; omega
  go_enter Tryz.func97, Tryz.ntmps97
  go_wp2
  go_quiet (fail)
  go_wp2
  go_ret
  exact ⟨rfl, nq, rfl⟩
theorem keep_any (w : World) (b0 t g n cap i c a : Nat) (y : Int) (h0 : w.cell? ⟨b0, 0, none⟩ = some (.pointer (some ⟨t, 0, none⟩))) (h1 : w.cell? ⟨t, 0, none⟩ = some (.slice (some ⟨g, 0, none⟩) n cap))
    (hi : i < n) (hc : c < 2) (h2 : w.cell? ⟨g, i * 3 + 1 + c, none⟩ = some (.int .i64 (a : Int))) (hf : w.frozen? ⟨g, i * 3 + 1 + c, none⟩ = false) :
    Calls Tryz.prog 96 #[.int .i64 (c : Int), .int .i64 (i : Int), .int .i64 y, .pointer (some ⟨b0, 0, none⟩)] w fun e w' => (∃ v, e = .returned v) ∧ w' = (w.setCell ⟨g, i * 3 + 1 + c, none⟩ (.int .i64 (min (a : Int) y))).drew := by
  have hb0 := cell_lt0 h0
  have ht := cell_lt0 h1
  have hg := cell_lt0 h2
  have hin : (i : Int) < (n : Int) := by omega
  have hc2 : (c : Int) < 2 := by omega
  go_enter Tryz.func96, Tryz.ntmps96
  go_wp2
  go_region
  go_end0
  exact ⟨⟨_, rfl⟩, rfl⟩
end Go.Proofs.YtcbhjhhajeeimaaGreat.Shf
/- fill. -/
namespace Go.Proofs.YtcbhjhhajeeimaaGreat.Shf
open Go.RowKit Go.Maps Go.Proofs.YtcbhjhhajeeimaaGreat.Tri Go.Proofs.YtcbhjhhajeeimaaGreat.Lnk Go.Proofs.YtcbhjhhajeeimaaGreat.Cwl Go.Proofs.YtcbhjhhajeeimaaGreat.Bck Go.Proofs.YtcbhjhhajeeimaaGreat.Reg
set_option maxRecDepth 100000
set_option linter.unusedVariables false

/-- While the two are filled in: the struct, the row of nodes, the variable that the closures have, the row of falls. -/
def Fi (w : World) (s t g n cap b0 gf : Nat) (nr : Nat → Nat) (ps : List Tx) (F G : Tx → Nat) : Prop :=
  Sd w t (.slice (some ⟨g, 0, none⟩) n cap) nr ∧ w.ownsRow s 169 3 (.slice (some ⟨g, 0, none⟩) n cap) n (rvals (tab ps F G)) ∧
    Blk1 w b0 125 (.pointer (some ⟨t, 0, none⟩)) ∧ w.ownsRow s 3 1 (.slice (some ⟨gf, 0, none⟩) n n) n (ivals (ps.map (failOf ps)))
theorem Fi.keep {w w' : World} {s t g n cap b0 gf : Nat} {nr : Nat → Nat} {ps : List Tx} {F G : Tx → Nat} (h : Fi w s t g n cap b0 gf nr ps F G) (hb : Below w.heap.size w w') : Fi w' s t g n cap b0 gf nr ps F G := by
  obtain ⟨h1, h2, h3, h4⟩ := h
  exact ⟨h1.keep hb, own_keep h2 hb, (hb.block _ h3.lt).trans h3, own_keep h4 hb⟩
theorem Fi.congr {w : World} {s t g n cap b0 gf : Nat} {nr : Nat → Nat} {ps : List Tx} {F F' G G' : Tx → Nat} (h : Fi w s t g n cap b0 gf nr ps F G) (hF : ∀ p ∈ ps, F p = F' p) (hG : ∀ p ∈ ps, G p = G' p) : Fi w s t g n cap b0 gf nr ps F' G' := by
  obtain ⟨h1, h2, h3, h4⟩ := h
  refine ⟨h1, ?_, h3, h4⟩
  rw [← tab_congr hF hG]
  exact h2
theorem Fi.row {w : World} {s t g n cap b0 gf : Nat} {nr : Nat → Nat} {ps : List Tx} {F G : Tx → Nat} (h : Fi w s t g n cap b0 gf nr ps F G) (hn : ps.length = n) {i : Nat} (hi : i < ps.length) :
    w.cell? ⟨g, i * 3, none⟩ = some (.int .i64 (ps[i].length : Int)) ∧ w.cell? ⟨g, i * 3 + 1, none⟩ = some (.int .i64 (F ps[i] : Int)) ∧ w.cell? ⟨g, i * 3 + 2, none⟩ = some (.int .i64 (G ps[i] : Int)) ∧ ∀ j, w.frozen? ⟨g, j, none⟩ = false := by
  obtain ⟨_, h2, _, _⟩ := h
  obtain ⟨c0, c1, c2⟩ := own_rw h2 (by rw [tab_len]; exact hn) i (by rw [tab_len]; exact hi)
  rw [tab_at _ _ _ i hi] at c0 c1 c2
  exact ⟨c0, c1, c2, fun j => h2.frozenAt j⟩
theorem Fi.fall {w : World} {s t g n cap b0 gf : Nat} {nr : Nat → Nat} {ps : List Tx} {F G : Tx → Nat} (h : Fi w s t g n cap b0 gf nr ps F G) (hn : ps.length = n) {i : Nat} (hi : i < ps.length) :
    w.cell? ⟨gf, i, none⟩ = some (.int .i64 (failOf ps ps[i])) := by
  rw [h.2.2.2.cellAt i (by omega), ivals_at _ _ (by simpa using hi)]
  simp
theorem Fi.far {w : World} {s t g n cap b0 gf : Nat} {nr : Nat → Nat} {ps : List Tx} {F G : Tx → Nat} (h : Fi w s t g n cap b0 gf nr ps F G) : t ≠ g ∧ b0 ≠ g ∧ gf ≠ g ∧ s ≤ g ∧ g < w.heap.size := by
  obtain ⟨h1, h2, h3, h4⟩ := h
  obtain ⟨hsg, hgz, cs, hh⟩ := own_block_lt h2 (g := g) rfl
  obtain ⟨_, _, cf, hf⟩ := own_block_lt h4 (g := gf) rfl
  obtain ⟨c1, e1, _⟩ := h1
  refine ⟨fun e => ?_, fun e => ?_, fun e => ?_, hsg, hgz⟩
  · subst e; have := hh.symm.trans e1; simp at this
  · subst e; have := hh.symm.trans h3; simp at this
  · subst e; have := hh.symm.trans hf; simp at this
theorem Fi.put1 {w : World} {s t g n cap b0 gf : Nat} {nr : Nat → Nat} {ps : List Tx} {F G F' : Tx → Nat} (h : Fi w s t g n cap b0 gf nr ps F G) (hd : ps.Nodup) {i : Nat} (hi : i < ps.length) (hF : ∀ p ∈ ps, p ≠ ps[i] → F' p = F p) {x : Int} (hx : x = (F' ps[i] : Int)) :
    Fi (w.setCell ⟨g, i * 3 + 1, none⟩ (.int .i64 x)) s t g n cap b0 gf nr ps F' G := by
  obtain ⟨f1, f2, f3, _, _⟩ := h.far
  obtain ⟨h1, h2, h3, h4⟩ := h
  refine ⟨h1.same (Below.heap_setCell _ _ _ _ f1), ?_, (Below.heap_setCell _ _ _ _ f2).trans h3, own_far_block h4 fun k hk => Below.heap_setCell _ _ _ _ fun e => ?_⟩
  · have h5 := (h2.stored (i * 3 + 1) (.int .i64 x)).1
    rw [hx, rvals_put1 _ i (by rw [tab_len]; exact hi)] at h5
    rw [tab_at _ _ _ i hi] at h5
    rw [tab_put1 hd F G F' hi hF] at h5
    rw [hx]
    exact h5
  · have e1 : gf = k := by simpa [Value.ownBlock] using hk
    have e2 : k = g := e
    omega
theorem Fi.put2 {w : World} {s t g n cap b0 gf : Nat} {nr : Nat → Nat} {ps : List Tx} {F G G' : Tx → Nat} (h : Fi w s t g n cap b0 gf nr ps F G) (hd : ps.Nodup) {i : Nat} (hi : i < ps.length) (hG : ∀ p ∈ ps, p ≠ ps[i] → G' p = G p) {x : Int} (hx : x = (G' ps[i] : Int)) :
    Fi (w.setCell ⟨g, i * 3 + 2, none⟩ (.int .i64 x)) s t g n cap b0 gf nr ps F G' := by
  obtain ⟨f1, f2, f3, _, _⟩ := h.far
  obtain ⟨h1, h2, h3, h4⟩ := h
  refine ⟨h1.same (Below.heap_setCell _ _ _ _ f1), ?_, (Below.heap_setCell _ _ _ _ f2).trans h3, own_far_block h4 fun k hk => Below.heap_setCell _ _ _ _ fun e => ?_⟩
  · have h5 := (h2.stored (i * 3 + 2) (.int .i64 x)).1
    rw [hx, rvals_put2 _ i (by rw [tab_len]; exact hi)] at h5
    rw [tab_at _ _ _ i hi] at h5
    rw [tab_put2 hd F G G' hi hG] at h5
    rw [hx]
    exact h5
  · have e1 : gf = k := by simpa [Value.ownBlock] using hk
    have e2 : k = g := e
    omega
/-- The closures, while it is filled in. -/
theorem Fi.ahead {w : World} {s t g n cap b0 gf : Nat} {nr : Nat → Nat} {ps : List Tx} {F G : Tx → Nat} (h : Fi w s t g n cap b0 gf nr ps F G) (hn : ps.length = n) {i j : Nat} (hi : i < ps.length) (hj : j < ps.length) (hd : ∀ p ∈ ps, p.length ≤ 1000000) :
    Calls Tryz.prog 97 #[.int .i64 (i : Int), .int .i64 (j : Int), .pointer (some ⟨b0, 0, none⟩)] w fun e w' => e = .returned (.int .i64 ((ps[i].length : Int) - ps[j].length)) ∧ ∃ q, w' = w.drewN q :=
  ahead_any w b0 t g n cap i j _ _ h.2.2.1.cell h.1.row (by omega) (by omega) (h.row hn hi).1 (h.row hn hj).1 (hd _ (List.getElem_mem hi)) (hd _ (List.getElem_mem hj))
theorem Fi.first {w : World} {s t g n cap b0 gf : Nat} {nr : Nat → Nat} {ps : List Tx} {F G F' : Tx → Nat} (h : Fi w s t g n cap b0 gf nr ps F G) (hn : ps.length = n) (hd : ps.Nodup) {i : Nat} (hi : i < ps.length) (y : Int) (hF : ∀ p ∈ ps, p ≠ ps[i] → F' p = F p) (hy : (F' ps[i] : Int) = min (F ps[i] : Int) y) :
    Calls Tryz.prog 96 #[.int .i64 0, .int .i64 (i : Int), .int .i64 y, .pointer (some ⟨b0, 0, none⟩)] w fun e w' => (∃ v, e = .returned v) ∧ Fi w' s t g n cap b0 gf nr ps F' G ∧ ∀ s0 w0, Below s0 w0 w → s0 ≤ s → Below s0 w0 w' := by
  obtain ⟨_, c1, _, cf⟩ := h.row hn hi
  refine (keep_any w b0 t g n cap i 0 _ y h.2.2.1.cell h.1.row (by omega) (by omega) c1 (cf _)).mono ?_
  rintro e w' ⟨he, rfl⟩
  refine ⟨he, ?_, fun s0 w0 hb hs => ?_⟩
  · exact (h.put1 hd hi hF hy.symm).keep (below_drews (Below.refl _ _) 1)
  · exact below_drews (hb.setCell (p := ⟨g, i * 3 + 1 + 0, none⟩) (Nat.le_trans hs h.far.2.2.2.1) _) 1
theorem Fi.second {w : World} {s t g n cap b0 gf : Nat} {nr : Nat → Nat} {ps : List Tx} {F G G' : Tx → Nat} (h : Fi w s t g n cap b0 gf nr ps F G) (hn : ps.length = n) (hd : ps.Nodup) {i : Nat} (hi : i < ps.length) (y : Int) (hG : ∀ p ∈ ps, p ≠ ps[i] → G' p = G p) (hy : (G' ps[i] : Int) = min (G ps[i] : Int) y) :
    Calls Tryz.prog 96 #[.int .i64 1, .int .i64 (i : Int), .int .i64 y, .pointer (some ⟨b0, 0, none⟩)] w fun e w' => (∃ v, e = .returned v) ∧ Fi w' s t g n cap b0 gf nr ps F G' ∧ ∀ s0 w0, Below s0 w0 w → s0 ≤ s → Below s0 w0 w' := by
  obtain ⟨_, _, c2, cf⟩ := h.row hn hi
  refine (keep_any w b0 t g n cap i 1 _ y h.2.2.1.cell h.1.row (by omega) (by omega) c2 (cf _)).mono ?_
  rintro e w' ⟨he, rfl⟩
  refine ⟨he, ?_, fun s0 w0 hb hs => ?_⟩
  · exact (h.put2 hd hi hG hy.symm).keep (below_drews (Below.refl _ _) 1)
  · exact below_drews (hb.setCell (p := ⟨g, i * 3 + 1 + 1, none⟩) (Nat.le_trans hs h.far.2.2.2.1) _) 1
/-- Second, once the ways are gone down: of the nodes ahead of k. -/
def wayTo (ps l : List Tx) (L k : Nat) (p : Tx) : Nat := if place ps p < (k : Int) then secondOf l p else base l L p
theorem way_one {ps l : List Tx} (hw : Wf ps) {p : Tx} (hp : p ∈ ps) : base l (Cwl.leastOf l) p = wayTo ps l (Cwl.leastOf l) 1 p := by
  unfold wayTo
  split
  · rename_i h
    obtain ⟨i, hi, e, e2, _⟩ := place_mem hp
    have : i = 0 := by omega
    subst this
    have : p = [] := by rw [← e2]; exact hw.at0
    subst this
    exact (second_root l).symm
  · rfl
theorem way_all {ps l : List Tx} {L : Nat} (p : Tx) : wayTo ps l L ps.length p = secondOf l p := by
  unfold wayTo
  exact if_pos (place_lt ps p)
theorem way_step {ps l : List Tx} (hw : Wf ps) {k : Nat} (hk : k < ps.length) (h0 : 0 < k) :
    (∀ p ∈ ps, p ≠ ps[k] → wayTo ps l (Cwl.leastOf l) (k + 1) p = wayTo ps l (Cwl.leastOf l) k p) ∧ wayTo ps l (Cwl.leastOf l) (k + 1) ps[k] = min (wayTo ps l (Cwl.leastOf l) k ps[k]) (secondOf l ps[k].dropLast) ∧
      ∃ j, ∃ hj : j < ps.length, j < k ∧ upOf ps (k : Int) = (j : Int) ∧ ps[j] = ps[k].dropLast ∧ wayTo ps l (Cwl.leastOf l) k ps[j] = secondOf l ps[k].dropLast := by
  have hne : ps[k] ≠ [] := fun e => by have := (hw.nil_iff hk).1 e; omega
  have hm := hw.closed_drop (List.getElem_mem hk) hne
  obtain ⟨j, hj, e1, e2, _⟩ := place_mem hm
  have hjk : j < k := by
    obtain ⟨i, hi, e3⟩ := hw.up k hk hne
    have := nd_inj hw.nodup (i := i) (j := j) (hi := by omega) (hj := hj) (by rw [e2, e3])
    omega
  refine ⟨fun p hp hpk => ?_, ?_, j, hj, hjk, by rw [upOf_at hk, if_neg hne, e1], e2, ?_⟩
  · unfold wayTo
    obtain ⟨i, hi, e3, e4, _⟩ := place_mem hp
    have : i ≠ k := fun e => by subst e; exact hpk e4.symm
    rw [e3]
    by_cases h : i < k
    · rw [if_pos (by omega), if_pos (by omega)]
    · rw [if_neg (by omega), if_neg (by omega)]
  · unfold wayTo
    rw [place_at hw.nodup hk, if_pos (by omega), if_neg (by omega)]
    have e := List.dropLast_concat_getLast hne
    conv => lhs; rw [← e, second_snoc, e]
  · unfold wayTo
    rw [place_at hw.nodup hj, if_pos (by omega), e2]
end Go.Proofs.YtcbhjhhajeeimaaGreat.Shf
/- fill: its contract. -/
namespace Go.Proofs.YtcbhjhhajeeimaaGreat.Shf
open Go.RowKit Go.Maps Go.Proofs.YtcbhjhhajeeimaaGreat.Tri Go.Proofs.YtcbhjhhajeeimaaGreat.Lnk Go.Proofs.YtcbhjhhajeeimaaGreat.Cwl Go.Proofs.YtcbhjhhajeeimaaGreat.Bck Go.Proofs.YtcbhjhhajeeimaaGreat.Reg
set_option maxRecDepth 100000
set_option linter.unusedVariables false

theorem fst_one {ps : List Tx} (hw : Wf ps) (L : Nat) {p : Tx} (hp : p ∈ ps) : L = fstTo ps L 1 p := by
  rw [fst_step hw L hw.pos hp, if_neg, fst_zero]
  rw [hw.at0, fail_nil]
  have := (place_nonneg ps p).2 hp
  omega
theorem snd_one {ps l : List Tx} (hw : Wf ps) (hl : ([] : Tx) ∉ l) (L : Nat) (p : Tx) : L = sndUp ps l L 1 p := by
  rw [snd_skip L hw.pos (by rw [hw.at0]; exact hl), snd_zero]
set_option maxHeartbeats 4000000 in
theorem fill_any (w0 w : World) (s0 x : Nat) (l : List Tx) (hbk : Bk w0 s0 x l) (ps lt : List Tx) (hlt : turned l = lt) (hps : paths lt = ps) (s t g n cap gf : Nat) (nr : Nat → Nat) (hs : w0.heap.size = s) (hb0 : Below s w0 w)
    (h1 : Sd w t (.slice (some ⟨g, 0, none⟩) n cap) nr) (h2 : w.ownsRow s 169 3 (.slice (some ⟨g, 0, none⟩) n cap) n (rvals (tab ps (fun _ => Cwl.leastOf lt) fun _ => Cwl.leastOf lt)))
    (h3 : w.ownsRow s 3 1 (.slice (some ⟨gf, 0, none⟩) n n) n (ivals (ps.map (failOf ps)))) (hn : ps.length = n) (hm : n ≤ 1000000) (hd : ∀ p ∈ ps, p.length ≤ 1000000) :
    Calls Tryz.prog 79 #[.pointer (some ⟨t, 0, none⟩), .pointer (some ⟨x, 0, none⟩), .slice (some ⟨gf, 0, none⟩) n n] w fun e w' => (∃ v, e = .returned v) ∧ Sd w' t (.slice (some ⟨g, 0, none⟩) n cap) nr ∧
      w'.ownsRow s 169 3 (.slice (some ⟨g, 0, none⟩) n cap) n (rvals (tab ps (firstOf lt ps) (secondOf lt))) ∧ Below s w0 w' := by
  have HW : Hid (Wf ps) := Lib.hid (hps ▸ paths_wf lt)
  have HSUB : Hid (∀ y ∈ lt, y ∈ ps) := Lib.hid fun y hy => hps ▸ paths_sub lt y hy
  have HNE : Hid (([] : Tx) ∉ lt) := Lib.hid fun h => by have := turned_ne (hlt ▸ h); simp at this
  have HBK : Hid (∀ X, Below s w0 X → Bk X s0 x l) := Lib.hid fun X hX => hbk.keep (by rw [hs]; exact hX)
  have HD := Lib.hid hd
  obtain ⟨tt, hx, htr⟩ := hbk.tree
  rw [hlt, hps] at htr
  have HX : Hid (∀ X, Below s w0 X → X.cell? ⟨x, 0, none⟩ = some (.pointer (some ⟨tt, 0, none⟩))) := Lib.hid fun X hX => (hX.cell (p := ⟨x, 0, none⟩) (by rw [← hs]; exact cell_lt0 hx)).trans hx
  have HTR : Hid (∀ X, Below s w0 X → Tr X s0 tt ps lt) := Lib.hid fun X hX => htr.keep (by rw [hs]; exact hX)
  clear hx htr
  have hsw : s ≤ w.heap.size := by have := hb0.size; omega
  have hmf : ∀ (fn : Fn) (first cap : Array Value) (w : World), (Instr.makeFunc fn first cap).run Tryz.prog w = .ok (.func fn first cap) w := fun _ _ _ _ => rfl
  have hs0 : s ≤ w0.heap.size := by omega
  have H1 := Lib.hid h1
  have H2 := Lib.hid h2
  have H3 := Lib.hid h3
  have HB0 := Lib.hid hb0
  have hxl : x < s := by
    obtain ⟨_, t', hh, _⟩ := hbk
    rw [← hs]; exact txt_lt hh
  clear h1 h2 h3 hb0 hd hbk hs
  obtain ⟨L, hL⟩ : ∃ L, L = Cwl.leastOf lt := ⟨_, rfl⟩
  have HL := Lib.hid hL
  rw [← hL] at H2
  clear hL
  go_enter Tryz.func79, Tryz.ntmps79
  go_wp2
  have hbk2 : Below w.heap.size w (w.alloc (.cells #[.pointer (some ⟨t, 0, none⟩)] 125)) := (Below.refl _ w).alloc (Nat.le_refl _) _
  have hF0 : Fi (w.alloc (.cells #[.pointer (some ⟨t, 0, none⟩)] 125)) s t g n cap w.heap.size gf nr ps (fstTo ps L 1) (sndUp ps lt L 1) := by
    refine ⟨H1.out.keep hbk2, ?_, heap_alloc_new w _, own_keep H3.out hbk2⟩
    rw [← tab_congr (fun p hp => fst_one HW.out L hp) (fun p _ => snd_one HW.out HNE.out L p)]
    exact own_keep H2.out hbk2
  have hbl : Below s w0 (w.alloc (.cells #[.pointer (some ⟨t, 0, none⟩)] 125)) := HB0.out.trans (hbk2.mono hsw)
  clear hbk2 H1 H2 H3 HB0
  generalize w.alloc (.cells #[.pointer (some ⟨t, 0, none⟩)] 125) = w1 at *
  generalize w.heap.size = b0 at *
  have hpos := HW.out.pos
  go_loopw [8] (fun v wr => ∃ k : Nat, 1 ≤ k ∧ k ≤ n ∧ v = .int .i64 k ∧ Fi wr s t g n cap b0 gf nr ps (fstTo ps L k) (sndUp ps lt L k) ∧ Below s w0 wr) (fun v _ => n - (intOf v).toNat)
  case atStart => exact ⟨1, Nat.le_refl _, by omega, rfl, hF0, hbl⟩
  case round =>
    obtain ⟨k, hk1, hk, rfl, hf, hbel⟩ := hrel
    by_cases hkn : k < n
    · have hkl : k < ps.length := by omega
      have hq0 : ps[k] ≠ [] := fun e => by have := (HW.out.nil_iff hkl).1 e; omega
      obtain ⟨u, z, ez, hu, hz, hzl, ef, _, _, _⟩ := fail_step HW.out ps[k] hq0
      obtain ⟨j, hj, e1, rfl, _⟩ := place_mem hz
      have hcf := hf.fall hn hkl
      rw [ef, e1] at hcf
      have HSX : Hid (wr.drew.cell? ⟨gf, k, none⟩ = some (.int .i64 (j : Int))) := Lib.hid hcf
      have hgfl := cell_lt0 hcf
      have hfd : Fi wr.drew s t g n cap b0 gf nr ps (fstTo ps L k) (sndUp ps lt L k) := hf.keep (below_drews (Below.refl _ _) 1)
      have hbd : Below s w0 wr.drew := below_drews hbel 1
      have HAH := Lib.hid (hfd.ahead hn hkl hj HD.out)
      have HKE : Hid (∀ X : World, Fi X s t g n cap b0 gf nr ps (fstTo ps L k) (sndUp ps lt L k) → _) := Lib.hid fun X hX => hX.first (F' := fstTo ps L (k + 1)) hn HW.out.nodup hj ((ps[k].length : Int) - ps[j].length) (fun p hp hne => by
          rw [fst_step HW.out L hkl hp, if_neg fun e => hne ?_]
          rw [ef, e1] at e
          obtain ⟨i', hi', e3, e4, _⟩ := place_mem hp
          have : j = i' := by omega
          subst this
          exact e4.symm) (by
          rw [fst_step HW.out L hkl (List.getElem_mem hj), if_pos (by rw [ef])]
          omega)
      have HF := Lib.hid hfd
      have HFE : Hid (failOf ps ps[k] = (j : Int)) := Lib.hid (by rw [ef, e1])
      have HWH : Hid (∀ X, Below s w0 X → Calls Tryz.prog 83 #[.pointer (some ⟨x, 0, none⟩), .int .i64 (k : Int)] X fun e w' => e = .returned (.bool (decide (ps[k] ∈ lt))) ∧ Below X.heap.size X w') := Lib.hid fun X hX => by
        have := bwhole_any X x l (HBK.out X hX) (k : Int) (wf_nat (by omega) (by omega))
        rw [hlt, hps, pathD_at hkl] at this
        exact this
      have HBD := Lib.hid hbd
      have hkn2 : (k : Int) < (n : Int) := by omega
      clear hcf hf hbel hfd hbd ez hu ef e1
      go_wp2
      refine wp_region_held_drew (S := fun w' => w'.cell? ⟨gf, k, none⟩ = some (.int .i64 (j : Int))) (by kernel_rfl) HSX.out (fun hH0 => ?_)
      clear HSX
      generalize wr.drew = x0 at *
      refine held_take (i := 0) (d := 19) (oi := _) (v := ?_) rfl rfl (by kernel_rfl) (by kernel_rfl) (by kernel_rfl) (fun _ _ _ h => h) (Or.inl ⟨by rfl, ?_⟩) (by assumption) ?_
      rotate_left
      · (intro w hSw; go_simp; (try with_reducible rfl))
      simp only [Act.put, List.setIfInBounds_toArray, List.set_cons_zero, List.set_cons_succ]
      refine held_take (i := 1) (d := 20) (oi := _) (v := ?_) rfl rfl (by kernel_rfl) (by kernel_rfl) (by kernel_rfl) (fun _ _ _ h => h) (Or.inl ⟨by rfl, ?_⟩) (by assumption) ?_
      rotate_left
      · (intro w hSw; go_simp; (try with_reducible rfl))
      simp only [Act.put, List.setIfInBounds_toArray, List.set_cons_zero, List.set_cons_succ]
      refine held_take (i := 2) (d := 21) (oi := _) (v := ?_) rfl rfl (by kernel_rfl) (by kernel_rfl) (by kernel_rfl) (fun _ _ _ h => h) (Or.inl ⟨by rfl, ?_⟩) (by assumption) ?_
      rotate_left
      · (intro w hSw; go_simp; (try with_reducible rfl))
      simp only [Act.put, List.setIfInBounds_toArray, List.set_cons_zero, List.set_cons_succ]
      refine held_take (i := 3) (d := 22) (oi := _) (v := ?_) rfl rfl (by kernel_rfl) (by kernel_rfl) (by kernel_rfl) (fun _ _ _ h => h) (Or.inl ⟨by rfl, ?_⟩) (by assumption) ?_
      rotate_left
      · (intro w hSw; go_simp; (try with_reducible rfl))
      simp only [Act.put, List.setIfInBounds_toArray, List.set_cons_zero, List.set_cons_succ]
      refine held_take (i := 4) (d := 23) (oi := _) (v := ?_) rfl rfl (by kernel_rfl) (by kernel_rfl) (by kernel_rfl) (fun _ _ _ h => h) (Or.inl ⟨by rfl, ?_⟩) (by assumption) ?_
      rotate_left
      · (intro w hSw; go_simp; (try with_reducible rfl))
      simp only [Act.put, List.setIfInBounds_toArray, List.set_cons_zero, List.set_cons_succ]
      refine held_take (i := 5) (d := 24) (oi := _) (v := ?_) rfl rfl (by kernel_rfl) (by kernel_rfl) (by kernel_rfl) (fun _ _ _ h => h) (Or.inl ⟨by rfl, ?_⟩) (by assumption) ?_
      rotate_left
      · (intro w hSw; go_simp; (try with_reducible rfl))
      simp only [Act.put, List.setIfInBounds_toArray, List.set_cons_zero, List.set_cons_succ]
      refine held_take (i := 6) (d := 25) (oi := _) (v := ?_) rfl rfl (by kernel_rfl) (by kernel_rfl) (by kernel_rfl) (fun _ _ _ h => h) (Or.inl ⟨by rfl, ?_⟩) (by assumption) ?_
      rotate_left
      · (intro w hSw; go_simp; (try with_reducible rfl))
      simp only [Act.put, List.setIfInBounds_toArray, List.set_cons_zero, List.set_cons_succ]
      refine held_take (i := 7) (d := 26) (oi := _) (v := ?_) rfl rfl (by kernel_rfl) (by kernel_rfl) (by kernel_rfl) (fun _ _ _ h => h) (Or.inl ⟨by rfl, ?_⟩) (by assumption) ?_
      rotate_left
      · (intro w hSw; go_simp; (try with_reducible rfl))
      simp only [Act.put, List.setIfInBounds_toArray, List.set_cons_zero, List.set_cons_succ]
      refine held_take (i := 8) (d := 27) (oi := _) (v := ?_) rfl rfl (by kernel_rfl) (by kernel_rfl) (by kernel_rfl) (fun _ _ _ h => h) (Or.inl ⟨by rfl, ?_⟩) (by assumption) ?_
      rotate_left
      · (intro w hSw; go_simp; (try with_reducible rfl))
      simp only [Act.put, List.setIfInBounds_toArray, List.set_cons_zero, List.set_cons_succ]
      refine held_take (i := 9) (d := 28) (oi := _) (v := ?_) rfl rfl (by kernel_rfl) (by kernel_rfl) (by kernel_rfl) (fun _ _ _ h => h) (Or.inl ⟨by rfl, ?_⟩) (by assumption) ?_
      rotate_left
      · (intro w hSw; go_simp; (try with_reducible rfl))
      simp only [Act.put, List.setIfInBounds_toArray, List.set_cons_zero, List.set_cons_succ]
      refine held_take (i := 10) (d := 29) (oi := _) (v := ?_) rfl rfl (by kernel_rfl) (by kernel_rfl) (by kernel_rfl) (fun _ _ _ h => h) (Or.inl ⟨by rfl, ?_⟩) (by assumption) ?_
      rotate_left
      · (intro w hSw; go_simp; (try with_reducible rfl))
      simp only [Act.put, List.setIfInBounds_toArray, List.set_cons_zero, List.set_cons_succ]
      refine wpAnyH_ready (rs := [11]) (by kernel_rfl) (by simp) ?_
      refine AllReadyH.cons rfl (fun K hK => ?_) AllReadyH.nil
      go_simp
      go_wp2_with (go_at_call 97; (with_reducible refine HAH.out.mono ?_); rintro e x' ⟨rfl, q, rfl⟩)
      refine hK.out _ _ hH0 (fun _ => ?_)
      clear hK K HAH
      refine wpAnyH_ready (rs := [12]) (by kernel_rfl) (by simp) ?_
      refine AllReadyH.cons rfl (fun K hK => ?_) AllReadyH.nil
      go_simp
      go_wp2_with (go_at_call 96; (with_reducible refine (HKE.out _ (HF.out.keep (below_drews (Below.refl _ _) q))).mono ?_); rintro e x2 ⟨⟨v, rfl⟩, hfi, hbb⟩)
      refine hK.out _ _ (by have := hfi.fall hn hkl; rw [HFE.out] at this; exact this) (fun _ => ?_)
      clear hK K
      refine wpAnyH_done (by kernel_rfl) ?_ _
      have hb2 := hbb s w0 (below_drews HBD.out q) (Nat.le_refl _)
      have HF2 := Lib.hid hfi
      have HB2 := Lib.hid hb2
      clear hfi hbb hb2 HKE HF HBD hH0
      by_cases hwl : ps[k] ∈ lt
      · have hdw : decide (ps[k] ∈ lt) = true := decide_eq_true hwl
        rw [hdw] at HWH
        have HWL := Lib.hid hwl
        have hq1 : ps[k] ∈ ps := List.getElem_mem hkl
        clear hwl hdw hz hzl hq0
        go_wp2_with (go_at_call 83; (with_reducible refine (HWH.out _ HB2.out).mono ?_); rintro e x3 ⟨rfl, hb3⟩; have hf3 := HF2.out.keep hb3; have HF3 := Lib.hid hf3; have hcf := hf3.fall hn hkl; rw [HFE.out] at hcf; have HB4 := Lib.hid (HB2.out.trans (hb3.mono (show s ≤ x2.heap.size by have := HB2.out.size; omega))); clear hf3 hb3)
        rw [← HFE.out]
        clear HFE HF2 HB2 hcf HWH
        go_loopw [9] (fun v wr => ∃ y : Tx, (y = ps[k] ∨ (y ∈ ps ∧ Tail ps[k] y)) ∧ v = .int .i64 (failOf ps y) ∧ Fi wr s t g n cap b0 gf nr ps (fstTo ps L (k + 1)) (sndIn ps lt L k ps[k] y.length) ∧ Below s w0 wr) (fun v _ => mz ps (intOf v))
        case atStart => exact ⟨ps[k], .inl rfl, rfl, HF3.out.congr (fun p _ => rfl) (fun p _ => (sndIn_start ps lt L k ps[k] _ (Nat.le_refl _) p).symm), HB4.out⟩
        case round =>
          obtain ⟨y, hy, rfl, hf, hbel⟩ := hrel
          by_cases hy0 : y = []
          · subst hy0
            have hf5 := hf.congr (fun p _ => rfl) (fun p _ => sndIn_end L hkl HWL.out p)
            have HF5 := Lib.hid hf5
            have HB5 := Lib.hid hbel
            clear hf hf5 hbel hy
            rw [fail_nil]
            go_wp2
            exact ⟨⟨k + 1, by omega, by omega, by go_num, HF5.out, HB5.out⟩, by simp [intOf]; omega⟩
          · obtain ⟨u, z, ez, hu, hz, hzl, ef, _, _, _⟩ := fail_step HW.out y hy0
            obtain ⟨i, hi, e1, rfl, _⟩ := place_mem hz
            have hyz : Tail y ps[i] := by rw [ez]; exact tail_of hu
            have hqz : Tail ps[k] ps[i] := by
              rcases hy with rfl | ⟨_, h⟩
              · exact hyz
              · exact tail_trans h hyz
            have hno : ∀ v ∈ ps, Tail ps[k] v → v.length < y.length → v.length ≤ ps[i].length := fun v hv ht hl => by
              rcases hy with rfl | ⟨_, h⟩
              · exact fall_between HW.out ef hz hv ht
              · exact fall_between HW.out ef hz hv (tail_cut h ht hl)
            have HM : Hid (mz ps (failOf ps ps[i]) < mz ps (failOf ps y)) := Lib.hid (by
              have := mz_fail HW.out ps[i]
              rw [ef, mz_place hz]; omega)
            have HAH := Lib.hid (hf.ahead hn hkl hi HD.out)
            have HKE : Hid (∀ X : World, Fi X s t g n cap b0 gf nr ps (fstTo ps L (k + 1)) (sndIn ps lt L k ps[k] y.length) → _) := Lib.hid fun X hX => hX.second (G' := sndIn ps lt L k ps[k] ps[i].length) hn HW.out.nodup hi ((ps[k].length : Int) - ps[i].length) (fun p hp hne => by
              rw [sndIn_step lt L k hz hqz hzl hno hp, if_neg hne]) (by
              rw [sndIn_step lt L k hz hqz hzl hno hz, if_pos rfl]
              have := hqz.1
              omega)
            have HFA : Hid (∀ X : World, Fi X s t g n cap b0 gf nr ps (fstTo ps L (k + 1)) (sndIn ps lt L k ps[k] ps[i].length) → _) := Lib.hid fun X hX => hX.fall hn hi
            have HQZ := Lib.hid hqz
            have HF := Lib.hid hf
            have HBE := Lib.hid hbel
            have HEF := Lib.hid ef
            rw [ef, e1] at HM ⊢
            have hin : (i : Int) < (n : Int) := by omega
            clear hf hbel ez hu ef hno hqz hyz hy hy0 e1 hzl
            go_wp2_with (first
              | (go_at_call 97; (with_reducible refine HAH.out.mono ?_); rintro e x' ⟨rfl, q, rfl⟩)
              | (go_at_call 96; (with_reducible refine (HKE.out _ (HF.out.keep (below_drews (Below.refl _ _) q))).mono ?_); rintro e x5 ⟨⟨v, rfl⟩, hfi, hbb⟩; have hcf := HFA.out _ hfi; have HFI := Lib.hid hfi; have HBB := Lib.hid (hbb s w0 (below_drews HBE.out q) (Nat.le_refl _)); clear hfi hbb))
            refine ⟨⟨ps[i], .inr ⟨hz, HQZ.out⟩, rfl, HFI.out, HBB.out⟩, ?_⟩
            simpa [intOf] using HM.out
      · have hdw : decide (ps[k] ∈ lt) = false := decide_eq_false hwl
        rw [hdw] at HWH
        have HSK := Lib.hid (fun p => snd_skip (ps := ps) (l := lt) L hkl hwl p)
        clear hwl hdw hz hzl hq0
        go_wp2_with (go_at_call 83; (with_reducible refine (HWH.out _ HB2.out).mono ?_); rintro e x3 ⟨rfl, hb3⟩)
        have hf3 := (HF2.out.keep hb3).congr (fun p _ => rfl) (fun p _ => (HSK.out p).symm)
        have hb4 := HB2.out.trans (hb3.mono (by have := HB2.out.size; omega))
        exact ⟨⟨k + 1, by omega, by omega, by go_num, hf3, hb4⟩, by simp [intOf]; omega⟩
    · obtain rfl : k = n := by omega
      have hf2 := hf.congr (fun p hp => by rw [← hn, fst_all HW.out L hp]) (fun p hp => by rw [← hn, snd_base HSUB.out L p, HL.out, way_one HW.out hp])
      have hf3 : Fi wr s t g k cap b0 gf nr ps (firstOf lt ps) (wayTo ps lt L 1) := hf2.congr (fun p _ => by rw [HL.out]; rfl) (fun p _ => by rw [HL.out])
      have HF2 := Lib.hid hf3
      have HB2 := Lib.hid hbel
      clear hf hf2 hf3 hbel
      have hkk : ¬ (k : Int) < (k : Int) := by omega
      go_wp2
      go_loopw [10] (fun v wr => ∃ m : Nat, 1 ≤ m ∧ m ≤ k ∧ v = .int .i64 m ∧ Fi wr s t g k cap b0 gf nr ps (firstOf lt ps) (wayTo ps lt L m) ∧ Below s w0 wr) (fun v _ => k - (intOf v).toNat)
      case atStart => exact ⟨1, Nat.le_refl _, by omega, rfl, HF2.out, HB2.out⟩
      case round =>
        obtain ⟨m, hm1, hm2, rfl, hf, hbel⟩ := hrel
        by_cases hmk : m < k
        · have hml : m < ps.length := by omega
          have hws := way_step (l := lt) HW.out hml hm1
          rw [← HL.out] at hws
          obtain ⟨a1, a2, j, hj, hjm, eu, ej, ew⟩ := hws
          have hfd : Fi wr.drew s t g k cap b0 gf nr ps (firstOf lt ps) (wayTo ps lt L m) := hf.keep (below_drews (Below.refl _ _) 1)
          have hbd : Below s w0 wr.drew := below_drews hbel 1
          have hne : ps[j] ≠ ps[m] := fun e => by have := nd_inj HW.out.nodup e; omega
          obtain ⟨_, _, c2, _⟩ := hfd.row hn hj
          rw [ew] at c2
          have HSX : Hid (wr.drew.cell? ⟨b0, 0, none⟩ = some (.pointer (some ⟨t, 0, none⟩)) ∧ wr.drew.cell? ⟨t, 0, none⟩ = some (.slice (some ⟨g, 0, none⟩) k cap) ∧ wr.drew.cell? ⟨x, 0, none⟩ = some (.pointer (some ⟨tt, 0, none⟩)) ∧ wr.drew.cell? ⟨g, j * 3 + 2, none⟩ = some (.int .i64 (secondOf lt ps[m].dropLast : Int))) := Lib.hid ⟨hfd.2.2.1.cell, hfd.1.row, HX.out _ hbd, c2⟩
          have HSB : Hid (∀ X, Below wr.drew.heap.size wr.drew X → X.cell? ⟨b0, 0, none⟩ = some (.pointer (some ⟨t, 0, none⟩)) ∧ X.cell? ⟨t, 0, none⟩ = some (.slice (some ⟨g, 0, none⟩) k cap) ∧ X.cell? ⟨x, 0, none⟩ = some (.pointer (some ⟨tt, 0, none⟩)) ∧ X.cell? ⟨g, j * 3 + 2, none⟩ = some (.int .i64 (secondOf lt ps[m].dropLast : Int))) := Lib.hid fun X hX =>
            ⟨(hX.cell (p := ⟨b0, 0, none⟩) hfd.2.2.1.lt).trans hfd.2.2.1.cell, (hX.cell (p := ⟨t, 0, none⟩) hfd.1.lt).trans hfd.1.row, (hX.cell (p := ⟨x, 0, none⟩) (cell_lt0 (HX.out _ hbd))).trans (HX.out _ hbd), (hX.cell (p := ⟨g, j * 3 + 2, none⟩) (cell_lt0 c2)).trans c2⟩
          have HPA : Hid (Calls Tryz.prog 98 #[.pointer (some ⟨tt, 0, none⟩), .int .i64 (m : Int)] wr.drew fun e w' => e = .returned (.int .i64 (j : Int)) ∧ Below wr.drew.heap.size wr.drew w') := Lib.hid (by
            have := parent_any wr.drew s0 tt ps lt (HTR.out _ hbd) (m : Int)
            rwa [eu] at this)
          have HKE : Hid (∀ X : World, Fi X s t g k cap b0 gf nr ps (firstOf lt ps) (wayTo ps lt L m) → _) := Lib.hid fun X hX => hX.second (G' := wayTo ps lt L (m + 1)) hn HW.out.nodup hml (secondOf lt ps[m].dropLast : Int) a1 (by rw [a2]; omega)
          have HFX : Hid (∀ X : World, Fi X s t g k cap b0 gf nr ps (firstOf lt ps) (wayTo ps lt L (m + 1)) → Below s w0 X → X.cell? ⟨b0, 0, none⟩ = some (.pointer (some ⟨t, 0, none⟩)) ∧ X.cell? ⟨t, 0, none⟩ = some (.slice (some ⟨g, 0, none⟩) k cap) ∧ X.cell? ⟨x, 0, none⟩ = some (.pointer (some ⟨tt, 0, none⟩)) ∧ X.cell? ⟨g, j * 3 + 2, none⟩ = some (.int .i64 (secondOf lt ps[m].dropLast : Int))) := Lib.hid fun X hX hb => by
            obtain ⟨_, _, c3, _⟩ := hX.row hn hj
            rw [a1 _ (List.getElem_mem hj) hne, ew] at c3
            exact ⟨hX.2.2.1.cell, hX.1.row, HX.out _ hb, c3⟩
          have HF := Lib.hid hfd
          have HBD := Lib.hid hbd
          have hjl : (j : Int) < (k : Int) := by omega
          have hmi : (m : Int) < (k : Int) := by omega
          clear hf hbel hfd hbd c2 a1 a2 eu ej ew hne hkk HF2 HB2
          generalize secondOf lt ps[m].dropLast = sd at *
          go_wp2
          refine wp_region_held_drew (S := fun w' => w'.cell? ⟨b0, 0, none⟩ = some (.pointer (some ⟨t, 0, none⟩)) ∧ w'.cell? ⟨t, 0, none⟩ = some (.slice (some ⟨g, 0, none⟩) k cap) ∧ w'.cell? ⟨x, 0, none⟩ = some (.pointer (some ⟨tt, 0, none⟩)) ∧ w'.cell? ⟨g, j * 3 + 2, none⟩ = some (.int .i64 (sd : Int))) (by kernel_rfl) HSX.out (fun hH0 => ?_)
          clear HSX
          generalize wr.drew = x0 at *
          refine held_take (i := 0) (d := 59) (oi := _) (v := ?_) rfl rfl (by kernel_rfl) (by kernel_rfl) (by kernel_rfl) (fun _ _ _ h => h) (Or.inl ⟨by rfl, ?_⟩) (by assumption) ?_
          rotate_left
          · (intro w hSw; obtain ⟨s1, s2, s3, s4⟩ := hSw; go_simp; (try with_reducible rfl))
          simp only [Act.put, List.setIfInBounds_toArray, List.set_cons_zero, List.set_cons_succ]
          refine held_take (i := 1) (d := 60) (oi := _) (v := ?_) rfl rfl (by kernel_rfl) (by kernel_rfl) (by kernel_rfl) (fun _ _ _ h => h) (Or.inl ⟨by rfl, ?_⟩) (by assumption) ?_
          rotate_left
          · (intro w hSw; obtain ⟨s1, s2, s3, s4⟩ := hSw; go_simp; (try with_reducible rfl))
          simp only [Act.put, List.setIfInBounds_toArray, List.set_cons_zero, List.set_cons_succ]
          refine held_take (i := 2) (d := 61) (oi := _) (v := ?_) rfl rfl (by kernel_rfl) (by kernel_rfl) (by kernel_rfl) (fun _ _ _ h => h) (Or.inl ⟨by rfl, ?_⟩) (by assumption) ?_
          rotate_left
          · (intro w hSw; obtain ⟨s1, s2, s3, s4⟩ := hSw; go_simp; (try with_reducible rfl))
          simp only [Act.put, List.setIfInBounds_toArray, List.set_cons_zero, List.set_cons_succ]
          refine held_take (i := 3) (d := 62) (oi := _) (v := ?_) rfl rfl (by kernel_rfl) (by kernel_rfl) (by kernel_rfl) (fun _ _ _ h => h) (Or.inl ⟨by rfl, ?_⟩) (by assumption) ?_
          rotate_left
          · (intro w hSw; obtain ⟨s1, s2, s3, s4⟩ := hSw; go_simp; (try with_reducible rfl))
          simp only [Act.put, List.setIfInBounds_toArray, List.set_cons_zero, List.set_cons_succ]
          refine held_take (i := 4) (d := 63) (oi := _) (v := ?_) rfl rfl (by kernel_rfl) (by kernel_rfl) (by kernel_rfl) (fun _ _ _ h => h) (Or.inl ⟨by rfl, ?_⟩) (by assumption) ?_
          rotate_left
          · (intro w hSw; obtain ⟨s1, s2, s3, s4⟩ := hSw; go_simp; (try with_reducible rfl))
          simp only [Act.put, List.setIfInBounds_toArray, List.set_cons_zero, List.set_cons_succ]
          refine held_take (i := 5) (d := 64) (oi := _) (v := ?_) rfl rfl (by kernel_rfl) (by kernel_rfl) (by kernel_rfl) (fun _ _ _ h => h) (Or.inl ⟨by rfl, ?_⟩) (by assumption) ?_
          rotate_left
          · (intro w hSw; obtain ⟨s1, s2, s3, s4⟩ := hSw; go_simp; (try with_reducible rfl))
          simp only [Act.put, List.setIfInBounds_toArray, List.set_cons_zero, List.set_cons_succ]
          refine held_take (i := 6) (d := 65) (oi := _) (v := ?_) rfl rfl (by kernel_rfl) (by kernel_rfl) (by kernel_rfl) (fun _ _ _ h => h) (Or.inl ⟨by rfl, ?_⟩) (by assumption) ?_
          rotate_left
          · (intro w hSw; obtain ⟨s1, s2, s3, s4⟩ := hSw; go_simp; (try with_reducible rfl))
          simp only [Act.put, List.setIfInBounds_toArray, List.set_cons_zero, List.set_cons_succ]
          refine held_take (i := 7) (d := 66) (oi := _) (v := ?_) rfl rfl (by kernel_rfl) (by kernel_rfl) (by kernel_rfl) (fun _ _ _ h => h) (Or.inl ⟨by rfl, ?_⟩) (by assumption) ?_
          rotate_left
          · (intro w hSw; obtain ⟨s1, s2, s3, s4⟩ := hSw; go_simp; (try with_reducible rfl))
          simp only [Act.put, List.setIfInBounds_toArray, List.set_cons_zero, List.set_cons_succ]
          refine held_take (i := 8) (d := 67) (oi := _) (v := ?_) rfl rfl (by kernel_rfl) (by kernel_rfl) (by kernel_rfl) (fun _ _ _ h => h) (Or.inl ⟨by rfl, ?_⟩) (by assumption) ?_
          rotate_left
          · (intro w hSw; obtain ⟨s1, s2, s3, s4⟩ := hSw; go_simp; (try with_reducible rfl))
          simp only [Act.put, List.setIfInBounds_toArray, List.set_cons_zero, List.set_cons_succ]
          refine held_take (i := 9) (d := 68) (oi := _) (v := ?_) rfl rfl (by kernel_rfl) (by kernel_rfl) (by kernel_rfl) (fun _ _ _ h => h) (Or.inl ⟨by rfl, ?_⟩) (by assumption) ?_
          rotate_left
          · (intro w hSw; obtain ⟨s1, s2, s3, s4⟩ := hSw; go_simp; (try with_reducible rfl))
          simp only [Act.put, List.setIfInBounds_toArray, List.set_cons_zero, List.set_cons_succ]
          refine held_take (i := 10) (d := 69) (oi := _) (v := ?_) rfl rfl (by kernel_rfl) (by kernel_rfl) (by kernel_rfl) (fun _ _ _ h => h) (Or.inl ⟨by rfl, ?_⟩) (by assumption) ?_
          rotate_left
          · (intro w hSw; obtain ⟨s1, s2, s3, s4⟩ := hSw; go_simp; (try with_reducible rfl))
          simp only [Act.put, List.setIfInBounds_toArray, List.set_cons_zero, List.set_cons_succ]
          refine wpAnyH_ready (rs := [11]) (by kernel_rfl) (by simp) ?_
          refine AllReadyH.cons rfl (fun K hK => ?_) AllReadyH.nil
          go_simp
          go_wp2_with (go_at_call 98; (with_reducible refine HPA.out.mono ?_); rintro e x1 ⟨rfl, hb1⟩)
          have hH1 := HSB.out x1 hb1
          have HX1 := Lib.hid hb1
          clear hb1
          refine hK.out _ _ hH1 (fun _ => ?_)
          clear hK K HPA hH0 HSB
          refine held_take (i := 12) (d := 71) (oi := _) (v := ?_) rfl rfl (by kernel_rfl) (by kernel_rfl) (by kernel_rfl) (fun _ _ _ h => h) (Or.inl ⟨by rfl, ?_⟩) (by assumption) ?_
          rotate_left
          · (intro w hSw; obtain ⟨s1, s2, s3, s4⟩ := hSw; go_simp; (try with_reducible rfl))
          simp only [Act.put, List.setIfInBounds_toArray, List.set_cons_zero, List.set_cons_succ]
          refine held_take (i := 13) (d := 72) (oi := _) (v := ?_) rfl rfl (by kernel_rfl) (by kernel_rfl) (by kernel_rfl) (fun _ _ _ h => h) (Or.inl ⟨by rfl, ?_⟩) (by assumption) ?_
          rotate_left
          · (intro w hSw; obtain ⟨s1, s2, s3, s4⟩ := hSw; go_simp; (try with_reducible rfl))
          simp only [Act.put, List.setIfInBounds_toArray, List.set_cons_zero, List.set_cons_succ]
          refine held_take (i := 14) (d := 73) (oi := _) (v := ?_) rfl rfl (by kernel_rfl) (by kernel_rfl) (by kernel_rfl) (fun _ _ _ h => h) (Or.inl ⟨by rfl, ?_⟩) (by assumption) ?_
          rotate_left
          · (intro w hSw; obtain ⟨s1, s2, s3, s4⟩ := hSw; go_simp; (try with_reducible rfl))
          simp only [Act.put, List.setIfInBounds_toArray, List.set_cons_zero, List.set_cons_succ]
          refine held_take (i := 15) (d := 74) (oi := _) (v := ?_) rfl rfl (by kernel_rfl) (by kernel_rfl) (by kernel_rfl) (fun _ _ _ h => h) (Or.inl ⟨by rfl, ?_⟩) (by assumption) ?_
          rotate_left
          · (intro w hSw; obtain ⟨s1, s2, s3, s4⟩ := hSw; go_simp; (try with_reducible rfl))
          simp only [Act.put, List.setIfInBounds_toArray, List.set_cons_zero, List.set_cons_succ]
          refine wpAnyH_ready (rs := [16]) (by kernel_rfl) (by simp) ?_
          refine AllReadyH.cons rfl (fun K hK => ?_) AllReadyH.nil
          go_simp
          go_wp2_with (go_at_call 96; (with_reducible refine (HKE.out _ (HF.out.keep HX1.out)).mono ?_); rintro e x2 ⟨⟨v, rfl⟩, hfi, hbb⟩)
          have hb2 := hbb s w0 (HBD.out.trans (HX1.out.mono (by have := HBD.out.size; omega))) (Nat.le_refl _)
          refine hK.out _ _ (HFX.out x2 hfi hb2) (fun _ => ?_)
          clear hK K hbb
          refine wpAnyH_done (by kernel_rfl) ?_ _
          have HF3 := Lib.hid hfi
          have HB3 := Lib.hid hb2
          clear hfi hb2 hH1 HX1 HF HBD HKE HFX
          go_wp2
          exact ⟨⟨m + 1, by omega, by omega, by go_num, HF3.out, HB3.out⟩, by simp [intOf]; omega⟩
        · obtain rfl : m = k := by omega
          have hf5 : Fi wr s t g m cap b0 gf nr ps (firstOf lt ps) (secondOf lt) := hf.congr (fun p _ => rfl) (fun p _ => by rw [← hn]; exact way_all p)
          have HF5 := Lib.hid hf5
          have HB5 := Lib.hid hbel
          clear hf hf5 hbel HF2 HB2
          go_wp2
          go_end0
          exact ⟨⟨_, rfl⟩, HF5.out.1, HF5.out.2.1, HB5.out⟩
end Go.Proofs.YtcbhjhhajeeimaaGreat.Shf
/- Build. -/
namespace Go.Proofs.YtcbhjhhajeeimaaGreat.Shf
open Go.RowKit Go.Maps Go.Proofs.YtcbhjhhajeeimaaGreat.Tri Go.Proofs.YtcbhjhhajeeimaaGreat.Lnk Go.Proofs.YtcbhjhhajeeimaaGreat.Cwl Go.Proofs.YtcbhjhhajeeimaaGreat.Bck Go.Proofs.YtcbhjhhajeeimaaGreat.Reg
set_option maxRecDepth 100000
set_option linter.unusedVariables false

theorem zero56 (w : World) : (zeroValue 166).run Tryz.prog w = .ok (.agg (#[Value.slice none 0 0] ++ Array.replicate 256 (Value.int .i64 0))) w := by kernel_rfl
/-- The cells of one in which nothing is yet. -/
theorem zero_cells : ∃ z : Array Value, (∀ w, (zeroValue 166).run Tryz.prog w = .ok (.agg z) w) ∧ z.size = 257 ∧ z[0]? = some (.slice none 0 0) ∧ ∀ i, i < 256 → z[1 + i]? = some (.int .i64 0) := by
  refine ⟨#[Value.slice none 0 0] ++ Array.replicate 256 (Value.int .i64 0), zero56, by simp, by simp, fun i hi => ?_⟩
  rw [Array.getElem?_append_right (by simp)]
  simp [hi]
theorem sd_new {w : World} {z : Array Value} (h1 : z.size = 257) (h2 : z[0]? = some (.slice none 0 0)) (h3 : ∀ i, i < 256 → z[1 + i]? = some (.int .i64 0)) : Sd (w.alloc (.cells z 166)) w.heap.size (.slice none 0 0) fun _ => 0 :=
  ⟨z, heap_alloc_new w _, h1, h2, h3⟩
theorem sbuild_none (w : World) : Calls Tryz.prog 58 #[.pointer none] w (GivesSh w []) := by
  obtain ⟨z, hz, z1, z2, z3⟩ := zero_cells
  have HN := Lib.hid (sd_new (w := w) z1 z2 z3)
  clear z2 z3
  go_enter Tryz.func58, Tryz.ntmps58
  go_wp2
  go_ret
  refine ⟨some ⟨w.heap.size, 0, none⟩, rfl, ⟨fun e => (by cases e), fun a ha => ⟨w.heap.size, (Option.some.inj ha).symm, .inr ⟨rfl, HN.out⟩⟩⟩, (Below.refl _ w).alloc (Nat.le_refl _) _⟩
/-- The row of nodes grows. -/
theorem infoS : (Tryz.prog.info? 169).map (fun i => (i.zero, i.size, i.bytes)) = some (some (.agg #[.int .i64 0, .int .i64 0, .int .i64 0]), 3, 24) := by kernel_rfl
theorem undS : Tryz.prog.underlying 164 = some (.slice 169) := by kernel_rfl
theorem wp_app_s {w : World} {o : Oper} {a : Act} {K : Act → World → Prop} {Q : Exit → Act → World → Prop} (s x : Operand)
    (ho : o.op = .call { callee := .builtin .append, args := #[s, x], argTypes := #[164, 164] })
    (base : Nat) (v : Value) (n : Nat) (xs : List Sf) (y : Sf) (hs : a.eval s = v) (hown : w.ownsRow base 169 3 v n (rvals xs))
    (ad : Addr) (hx : a.eval x = .slice (some ad) 1 1) (hc : ∀ j u, (scells y)[j]? = some u → w.cell? (ad.add j) = some u)
    (hn : n ≤ 1000000000) (hbase : base ≤ w.heap.size)
    (h : ∀ v' w', w'.ownsRow base 169 3 v' (n + 1) (rvals (xs ++ [y])) → w.grownBy w' v.ownBlock → K (a.put o.dst v') w') : o.wp Tryz.prog a w K Q := by
  obtain ⟨i0, hi, hz0, hz1, hz2⟩ := info_parts infoS
  rw [rvals_append] at h
  exact wp_append_own w s x 164 ho base 169 i0 (.agg #[.int .i64 0, .int .i64 0, .int .i64 0]) 3 24 undS hi hz0 hz1 hz2 rfl (by decide) v n (rvals xs) hs hown ad 1 1 (rvals [y]) hx (by rw [rvals_length]; rfl) (by simpa [rvals] using hc) (rvals_one [y]) (by unfold maxLen; omega) (by omega) hbase (fun v' w' h1 h2 _ => h v' w' h1 h2)
theorem deep_short {l : List Tx} (h : ∀ y ∈ l, y.length ≤ 1000) : ∀ p ∈ paths (turned l), p.length ≤ 1000 := fun p hp => by
  rcases end_path hp with e | ⟨y, hy, _, hl, _⟩
  · rw [e]; simp
  · have := h y hy; omega
theorem nearK_by (l : List Tx) (c : UInt8) : nearK l c = if 0 < nearOf l c ∧ nearOf l c < Cwl.leastOf l + 1 then nearOf l c else Cwl.leastOf l + 1 := by
  have hmem : ∀ k, k ∈ nearAll l c → 0 < k → ∃ x ∈ l, x[k - 1]? = some c := by
    intro k hk h0
    unfold nearAll at hk
    obtain ⟨x, hx, hk⟩ := List.mem_flatMap.1 hk
    obtain ⟨i, hi, rfl⟩ := List.mem_map.1 hk
    split at h0
    · rename_i h
      refine ⟨x, hx, ?_⟩
      rw [if_pos h, Nat.add_sub_cancel]
      exact h
    · omega
  have hin : ∀ x ∈ l, ∀ i : Nat, x[i]? = some c → i + 1 ∈ nearAll l c := by
    intro x hx i hi
    unfold nearAll
    refine List.mem_flatMap.2 ⟨x, hx, List.mem_map.2 ⟨i, List.mem_range.2 (List.getElem?_eq_some_iff.1 hi).1, if_pos hi⟩⟩
  unfold nearK
  have h1 := min_le (Cwl.leastOf l + 1) (nearAll l c)
  have h2 := min_is (Cwl.leastOf l + 1) (nearAll l c)
  have h3 := min_mem (Cwl.leastOf l + 1) (nearAll l c)
  rcases nearOf_near l c with ⟨h0, hno⟩ | ⟨h0, ⟨x, hx, hn⟩, hle⟩
  · rw [if_neg (by omega)]
    rcases h2 with h2 | ⟨k, hk, hk0, _⟩
    · exact h2
    · obtain ⟨x, hx, hc⟩ := hmem k hk hk0
      exact absurd hc (hno x hx _)
  · have hm := h3 (nearOf l c) (by have := hin x hx _ hn; rwa [Nat.sub_add_cancel (by omega)] at this) h0
    rcases h2 with h2 | ⟨k, hk, hk0, h2⟩
    · split <;> omega
    · obtain ⟨y, hy, hc⟩ := hmem k hk hk0
      have := hle y hy _ hc
      split <;> omega
/-- While the nodes come. -/
def Gr (w : World) (s t : Nat) (vo : Value) (k : Nat) (ps : List Tx) (L : Nat) : Prop := Sd w t vo (fun _ => 0) ∧ w.ownsRow (t + 1) 169 3 vo k (rvals ((tab ps (fun _ => L) fun _ => L).take k))
set_option maxHeartbeats 4000000 in
theorem sbuild_any (w : World) {s0 : Nat} (x : Nat) (l : List Tx) (h : Bk w s0 x l) (hl : tot l ≤ 2000) :
    Calls Tryz.prog 58 #[.pointer (some ⟨x, 0, none⟩)] w (GivesSh w l) := by
  obtain ⟨z, hz, z1, z2, z3⟩ := zero_cells
  have HN0 := Lib.hid (sd_new (w := w) z1 z2 z3)
  clear z2 z3
  obtain ⟨tt, hx, htr⟩ := h.tree
  obtain ⟨lt, hlt⟩ : ∃ lt, turned l = lt := ⟨_, rfl⟩
  obtain ⟨ps, hps⟩ : ∃ ps, paths lt = ps := ⟨_, rfl⟩
  have hlen : ps.length ≤ 2001 := by
    have h1 := paths_len lt
    have h2 := turned_tot l
    rw [hlt] at h2
    rw [← hps]; omega
  have hdp : ∀ p ∈ ps, p.length ≤ 1000 := fun p hp => by
    rw [← hps, ← hlt] at hp
    obtain ⟨_, _, _, _, h3⟩ := h
    exact deep_short h3 p hp
  have hL : Cwl.leastOf lt ≤ 1000 := by
    by_cases h0 : lt = []
    · rw [h0]; exact Nat.zero_le _
    · obtain ⟨y, hy, e⟩ := Cwl.least_is h0
      rw [e]
      exact hdp y (hps ▸ paths_sub _ y hy)
  have HW : Hid (Wf ps) := Lib.hid (hps ▸ paths_wf lt)
  rw [hlt, hps] at htr
  have HBK : Hid (∀ X, Below w.heap.size w X → Bk X s0 x l) := Lib.hid fun X hX => h.keep hX
  have HX : Hid (∀ X, Below w.heap.size w X → X.cell? ⟨x, 0, none⟩ = some (.pointer (some ⟨tt, 0, none⟩))) := Lib.hid fun X hX => (hX.cell (p := ⟨x, 0, none⟩) (cell_lt0 hx)).trans hx
  have HTR : Hid (∀ X, Below w.heap.size w X → Tr X s0 tt ps lt) := Lib.hid fun X hX => htr.keep hX
  have HLE : Hid (∀ X, Below w.heap.size w X → Calls Tryz.prog 59 #[.pointer (some ⟨x, 0, none⟩)] X fun e w' => e = .returned (.int .i64 (Cwl.leastOf lt : Int)) ∧ Below X.heap.size X w') := Lib.hid fun X hX => hlt ▸ bleast_any X x l (h.keep hX)
  have HNO : Hid (∀ X, Below w.heap.size w X → _) := Lib.hid fun X hX => nodes_any X s0 tt ps lt (htr.keep hX)
  have HDP := Lib.hid hdp
  have hxl := cell_lt0 hx
  have hpos := HW.out.pos
  have hbw : Below w.heap.size w (w.alloc (.cells z 166)) := (Below.refl _ w).alloc (Nat.le_refl _) _
  have hxa := HX.out _ hbw
  have HBW := Lib.hid hbw
  have hp0 : ((ps.length : Int) == 0) = false := beq_eq_false_iff_ne.2 (by omega)
  clear h htr hdp hbw
  obtain ⟨L, hLe⟩ : ∃ L, Cwl.leastOf lt = L := ⟨_, rfl⟩
  rw [hLe] at HLE hL
  go_enter Tryz.func58, Tryz.ntmps58
  go_wp2_with (first
    | (go_at_call 47; (with_reducible refine (HNO.out _ HBW.out).mono ?_); rintro e w0 ⟨rfl, rfl⟩)
    | (go_at_call 59; (with_reducible refine (HLE.out _ HBW.out).mono ?_); rintro e w1 ⟨rfl, hb1⟩; have hS1 := Lib.hid (HN0.out.keep hb1); have hbw1 := HBW.out.trans (hb1.mono (show w.heap.size ≤ (w.alloc (.cells z 166)).heap.size by simp)); clear HBW; have HBW := Lib.hid hbw1; have hxa := HX.out _ hbw1; clear hb1 hbw1))
  clear hxa HLE HNO
  go_loopw [28] (fun v wr => ∃ (k : Nat) (vo : Value), k ≤ ps.length ∧ v = .int .i64 k ∧ Gr wr w.heap.size w.heap.size vo k ps L ∧ Below w.heap.size w wr) (fun v _ => ps.length - (intOf v).toNat)
  case atStart => exact ⟨0, .slice none 0 0, Nat.zero_le _, rfl, ⟨hS1.out, World.ownsRow_nil _ _ _ _⟩, HBW.out⟩
  case round =>
    obtain ⟨k, vo, hk, rfl, hgr, hbel⟩ := hrel
    by_cases hkl : k < ps.length
    · have hkn : (k : Int) < (ps.length : Int) := by omega
      have hbd : Below w.heap.size w wr.drew := below_drews hbel 1
      have hsd : Sd wr.drew w.heap.size vo (fun _ => 0) := hgr.1.keep (below_drews (Below.refl _ _) 1)
      have hod : wr.drew.ownsRow (w.heap.size + 1) 169 3 vo k (rvals ((tab ps (fun _ => L) fun _ => L).take k)) := own_keep hgr.2 (below_drews (Below.refl _ _) 1)
      have HDE : Hid (Calls Tryz.prog 78 #[.pointer (some ⟨tt, 0, none⟩), .int .i64 (k : Int)] wr.drew fun e w' => e = .returned (.int .i64 (ps[k].length : Int)) ∧ Below wr.drew.heap.size wr.drew w') := Lib.hid (by
        have := depth_any wr.drew s0 tt ps lt (HTR.out _ hbd) (k : Int)
        rwa [pathD_at hkl] at this)
      have hH : wr.drew.cell? ⟨x, 0, none⟩ = some (.pointer (some ⟨tt, 0, none⟩)) := HX.out _ hbd
      have HTK : Hid ((tab ps (fun _ => L) fun _ => L).take (k + 1) = (tab ps (fun _ => L) fun _ => L).take k ++ [⟨ps[k].length, L, L⟩]) := Lib.hid (by
        rw [List.take_succ_eq_append_getElem (by rw [tab_len]; exact hkl), tab_at _ _ _ k hkl])
      -- what the append leaves
      have HGR : Hid (∀ X w4, Below w.heap.size w X → Sd X w.heap.size vo (fun _ => 0) → X.ownsRow (w.heap.size + 1) 169 3 vo k (rvals ((tab ps (fun _ => L) fun _ => L).take k)) → X.cell? ⟨x, 0, none⟩ = some (.pointer (some ⟨tt, 0, none⟩)) → wr.drew.heap.size ≤ X.heap.size →
          (X.alloc (.cells #[.int .i64 (ps[k].length : Int), .int .i64 (L : Int), .int .i64 (L : Int)] 169)).grownBy w4 vo.ownBlock → w4.cell? ⟨x, 0, none⟩ = some (.pointer (some ⟨tt, 0, none⟩)) ∧ Sd w4 w.heap.size vo (fun _ => 0) ∧ Below w.heap.size w w4) := Lib.hid fun X w4 hX hs ho hc hz hg => by
        have hb := (hX.alloc (by have := hX.size; omega) (.cells #[.int .i64 (ps[k].length : Int), .int .i64 (L : Int), .int .i64 (L : Int)] 169)).grown hg (by have := hX.size; simp; omega) (fun j hj => by have := own_ge ho hj; omega)
        refine ⟨HX.out _ hb, ?_, hb⟩
        refine (hs.keep ((Below.refl _ X).alloc (Nat.le_refl _) _)).same (hg.block _ (by have := hs.lt; simp; omega) fun e => ?_)
        have := own_ge ho e.symm
        omega
      have HEN : Hid (∀ w4 v4, w4.cell? ⟨x, 0, none⟩ = some (.pointer (some ⟨tt, 0, none⟩)) → Sd w4 w.heap.size vo (fun _ => 0) → Below w.heap.size w w4 → w4.ownsRow (w.heap.size + 1) 169 3 v4 (k + 1) (rvals ((tab ps (fun _ => L) fun _ => L).take k ++ [⟨ps[k].length, L, L⟩])) →
          (w4.setCell ⟨w.heap.size, 0, none⟩ v4).cell? ⟨x, 0, none⟩ = some (.pointer (some ⟨tt, 0, none⟩)) ∧ Gr (w4.setCell ⟨w.heap.size, 0, none⟩ v4) w.heap.size w.heap.size v4 (k + 1) ps L ∧ Below w.heap.size w (w4.setCell ⟨w.heap.size, 0, none⟩ v4)) := Lib.hid fun w4 v4 hc hs hb ho => by
        have hb5 := hb.setCell (p := ⟨w.heap.size, 0, none⟩) (Nat.le_refl _) v4
        refine ⟨HX.out _ hb5, ⟨hs.put0 v4, ?_⟩, hb5⟩
        rw [HTK.out]
        refine own_far_block ho fun j hj => Below.heap_setCell _ _ _ _ fun e => ?_
        have := own_ge ho hj
        have e2 : j = w.heap.size := e
        omega
      have HS1 := Lib.hid hsd
      have HO1 := Lib.hid hod
      have HBD := Lib.hid hbd
      have c0 := hsd.row
      have hsz0 : w.heap.size ≤ wr.drew.heap.size := by have := hbd.size; omega
      have hxl0 : x < wr.drew.heap.size := by omega
      clear hgr hbel hbd hsd hod
      obtain ⟨D, hD⟩ : ∃ D, ps[k].length = D := ⟨_, rfl⟩
      rw [hD] at HDE HTK HGR HEN
      clear hD
      go_wp2
      refine wp_region_held_drew (S := fun w' => w'.cell? ⟨x, 0, none⟩ = some (.pointer (some ⟨tt, 0, none⟩))) (by kernel_rfl) hH (fun hH0 => ?_)
      clear hH
      generalize wr.drew = x0 at *
      refine held_take (i := 0) (d := 31) (oi := _) (v := ?_) rfl rfl (by kernel_rfl) (by kernel_rfl) (by kernel_rfl) (fun _ _ _ h => h) (Or.inl ⟨by rfl, ?_⟩) (by assumption) ?_
      rotate_left
      · (intro w hSw; go_simp; (try with_reducible rfl))
      simp only [Act.put, List.setIfInBounds_toArray, List.set_cons_zero, List.set_cons_succ]
      refine held_take (i := 1) (d := 32) (oi := _) (v := ?_) rfl rfl (by kernel_rfl) (by kernel_rfl) (by kernel_rfl) (fun _ _ _ h => h) (Or.inl ⟨by rfl, ?_⟩) (by assumption) ?_
      rotate_left
      · (intro w hSw; go_simp; (try with_reducible rfl))
      simp only [Act.put, List.setIfInBounds_toArray, List.set_cons_zero, List.set_cons_succ]
      refine held_take (i := 2) (d := 33) (oi := _) (v := ?_) rfl rfl (by kernel_rfl) (by kernel_rfl) (by kernel_rfl) (fun _ _ _ h => h) (Or.inl ⟨by rfl, ?_⟩) (by assumption) ?_
      rotate_left
      · (intro w hSw; go_simp; (try with_reducible rfl))
      simp only [Act.put, List.setIfInBounds_toArray, List.set_cons_zero, List.set_cons_succ]
      refine held_take (i := 3) (d := 34) (oi := _) (v := ?_) rfl rfl (by kernel_rfl) (by kernel_rfl) (by kernel_rfl) (fun _ _ _ h => h) (Or.inl ⟨by rfl, ?_⟩) (by assumption) ?_
      rotate_left
      · (intro w hSw; go_simp; (try with_reducible rfl))
      simp only [Act.put, List.setIfInBounds_toArray, List.set_cons_zero, List.set_cons_succ]
      refine held_take (i := 5) (d := 36) (oi := _) (v := ?_) rfl rfl (by kernel_rfl) (by kernel_rfl) (by kernel_rfl) (fun _ _ _ h => h) (Or.inl ⟨by rfl, ?_⟩) (by assumption) ?_
      rotate_left
      · (intro w hSw; go_simp; (try with_reducible rfl))
      simp only [Act.put, List.setIfInBounds_toArray, List.set_cons_zero, List.set_cons_succ]
      refine held_take (i := 6) (d := 37) (oi := _) (v := ?_) rfl rfl (by kernel_rfl) (by kernel_rfl) (by kernel_rfl) (fun _ _ _ h => h) (Or.inl ⟨by rfl, ?_⟩) (by assumption) ?_
      rotate_left
      · (intro w hSw; go_simp; (try with_reducible rfl))
      simp only [Act.put, List.setIfInBounds_toArray, List.set_cons_zero, List.set_cons_succ]
      refine held_take (i := 7) (d := 38) (oi := _) (v := ?_) rfl rfl (by kernel_rfl) (by kernel_rfl) (by kernel_rfl) (fun _ _ _ h => h) (Or.inl ⟨by rfl, ?_⟩) (by assumption) ?_
      rotate_left
      · (intro w hSw; go_simp; (try with_reducible rfl))
      simp only [Act.put, List.setIfInBounds_toArray, List.set_cons_zero, List.set_cons_succ]
      refine held_take (i := 8) (d := 39) (oi := _) (v := ?_) rfl rfl (by kernel_rfl) (by kernel_rfl) (by kernel_rfl) (fun _ _ _ h => h) (Or.inl ⟨by rfl, ?_⟩) (by assumption) ?_
      rotate_left
      · (intro w hSw; go_simp; (try with_reducible rfl))
      simp only [Act.put, List.setIfInBounds_toArray, List.set_cons_zero, List.set_cons_succ]
      refine held_take (i := 9) (d := 40) (oi := _) (v := ?_) rfl rfl (by kernel_rfl) (by kernel_rfl) (by kernel_rfl) (fun _ _ _ h => h) (Or.inl ⟨by rfl, ?_⟩) (by assumption) ?_
      rotate_left
      · (intro w hSw; go_simp; (try with_reducible rfl))
      simp only [Act.put, List.setIfInBounds_toArray, List.set_cons_zero, List.set_cons_succ]
      refine held_take (i := 11) (d := 42) (oi := _) (v := ?_) rfl rfl (by kernel_rfl) (by kernel_rfl) (by kernel_rfl) (fun _ _ _ h => h) (Or.inl ⟨by rfl, ?_⟩) (by assumption) ?_
      rotate_left
      · (intro w hSw; go_simp; (try with_reducible rfl))
      simp only [Act.put, List.setIfInBounds_toArray, List.set_cons_zero, List.set_cons_succ]
      refine held_take (i := 12) (d := 43) (oi := _) (v := ?_) rfl rfl (by kernel_rfl) (by kernel_rfl) (by kernel_rfl) (fun _ _ _ h => h) (Or.inl ⟨by rfl, ?_⟩) (by assumption) ?_
      rotate_left
      · (intro w hSw; go_simp; (try with_reducible rfl))
      simp only [Act.put, List.setIfInBounds_toArray, List.set_cons_zero, List.set_cons_succ]
      refine held_take (i := 13) (d := 44) (oi := _) (v := ?_) rfl rfl (by kernel_rfl) (by kernel_rfl) (by kernel_rfl) (fun _ _ _ h => h) (Or.inl ⟨by rfl, ?_⟩) (by assumption) ?_
      rotate_left
      · (intro w hSw; go_simp; (try with_reducible rfl))
      simp only [Act.put, List.setIfInBounds_toArray, List.set_cons_zero, List.set_cons_succ]
      refine wpAnyH_ready (rs := [4, 10]) (by kernel_rfl) (by simp) ?_
      refine AllReadyH.cons rfl (fun K hK => ?_) (AllReadyH.cons rfl (fun K hK => ?_) AllReadyH.nil)
      · go_simp
        refine hK.out _ _ hH0 (fun _ => ?_)
        clear hK K
        refine wpAnyH_ready (rs := [10]) (by kernel_rfl) (by simp) ?_
        refine AllReadyH.cons rfl (fun K hK => ?_) AllReadyH.nil
        go_simp
        go_wp2_with (go_at_call 78; (with_reducible refine HDE.out.mono ?_); rintro e x1 ⟨rfl, hb1⟩)
        have hH1 := (hb1.cell (p := ⟨x, 0, none⟩) hxl0).trans hH0
        have hs1 := HS1.out.keep hb1
        have ho1 := own_keep HO1.out hb1
        have c1 := hs1.row
        have HB2 := Lib.hid (HBD.out.trans (hb1.mono hsz0))
        have hsz1 := hb1.size
        have HSD := Lib.hid hs1
        have HOD := Lib.hid ho1
        clear hb1 hs1 ho1
        refine hK.out _ _ hH1 (fun _ => ?_)
        clear hK K
        refine held_take (i := 14) (d := 45) (oi := _) (v := ?_) rfl rfl (by kernel_rfl) (by kernel_rfl) (by kernel_rfl) (fun _ _ _ h => h) (Or.inl ⟨by rfl, ?_⟩) (by assumption) ?_
        rotate_left
        · (intro w hSw; go_simp; (try with_reducible rfl))
        simp only [Act.put, List.setIfInBounds_toArray, List.set_cons_zero, List.set_cons_succ]
        refine wpAnyH_ready (rs := [15]) (by kernel_rfl) (by simp) ?_
        refine AllReadyH.cons rfl (fun K hK => ?_) AllReadyH.nil
        go_simp
        have hH2 := Lib.cell?_alloc_some (.cells #[.int .i64 (D : Int), .int .i64 (L : Int), .int .i64 (L : Int)] 169) hH1
        have c2 := Lib.cell?_alloc_some (.cells #[.int .i64 (D : Int), .int .i64 (L : Int), .int .i64 (L : Int)] 169) c1
        refine hK.out _ _ hH2 (fun _ => ?_)
        clear hK K
        refine wpAnyH_ready (rs := [16]) (by kernel_rfl) (by simp) ?_
        refine AllReadyH.cons rfl (fun K hK => ?_) AllReadyH.nil
        rw [if_pos (by rfl)]
        refine wp_app_s (.tmp 35) (.tmp 46) rfl (w.heap.size + 1) vo k _ ⟨D, L, L⟩ rfl (HOD.out.alloc _) ⟨x1.heap.size, 0, none⟩ rfl (cells_new3 x1 _ _ _ _) (by omega) (by simp; omega) ?_
        intro v4 w4 hown4 hg4
        obtain ⟨g4, cap4, rfl⟩ := own_succ hown4
        obtain ⟨hH4, hs4, hB4⟩ := HGR.out x1 w4 HB2.out HSD.out HOD.out hH1 hsz1 hg4
        have c4 := hs4.row
        have hf4 := hs4.free 0
        refine hK.out _ _ hH4 (fun _ => ?_)
        clear hK K
        refine held_take (i := 17) (d := 48) (oi := _) (v := ?_) rfl rfl (by kernel_rfl) (by kernel_rfl) (by kernel_rfl) (fun _ _ _ h => h) (Or.inl ⟨by rfl, ?_⟩) (by assumption) ?_
        rotate_left
        · (intro w hSw; go_simp; (try with_reducible rfl))
        simp only [Act.put, List.setIfInBounds_toArray]
        refine held_take (i := 18) (d := 49) (oi := _) (v := ?_) rfl rfl (by kernel_rfl) (by kernel_rfl) (by kernel_rfl) (fun _ _ _ h => h) (Or.inl ⟨by rfl, ?_⟩) (by assumption) ?_
        rotate_left
        · (intro w hSw; go_simp; (try with_reducible rfl))
        simp only [Act.put]
        refine wpAnyH_ready (rs := [19]) (by kernel_rfl) (by simp) ?_
        refine AllReadyH.cons rfl (fun K hK => ?_) AllReadyH.nil
        go_simp
        obtain ⟨hH5, hg5, hB5⟩ := HEN.out w4 _ hH4 hs4 hB4 hown4
        refine hK.out _ _ hH5 (fun _ => ?_)
        clear hK K
        refine wpAnyH_done (by kernel_rfl) ?_ _
        have HG5 := Lib.hid hg5
        have HB5 := Lib.hid hB5
        clear hg5 hB5 hown4 hg4 hs4 hH4 c4 hf4
        go_wp2
        exact ⟨⟨k + 1, _, by omega, by go_num, HG5.out, HB5.out⟩, by simp [intOf]; omega⟩
      · go_simp
        go_wp2_with (go_at_call 78; (with_reducible refine HDE.out.mono ?_); rintro e x1 ⟨rfl, hb1⟩)
        have hH1 := (hb1.cell (p := ⟨x, 0, none⟩) hxl0).trans hH0
        have hs1 := HS1.out.keep hb1
        have ho1 := own_keep HO1.out hb1
        have c1 := hs1.row
        have HB2 := Lib.hid (HBD.out.trans (hb1.mono hsz0))
        have hsz1 := hb1.size
        have HSD := Lib.hid hs1
        have HOD := Lib.hid ho1
        clear hb1 hs1 ho1
        refine hK.out _ _ hH1 (fun _ => ?_)
        clear hK K
        refine held_take (i := 14) (d := 45) (oi := _) (v := ?_) rfl rfl (by kernel_rfl) (by kernel_rfl) (by kernel_rfl) (fun _ _ _ h => h) (Or.inl ⟨by rfl, ?_⟩) (by assumption) ?_
        rotate_left
        · (intro w hSw; go_simp; (try with_reducible rfl))
        simp only [Act.put, List.setIfInBounds_toArray, List.set_cons_zero, List.set_cons_succ]
        refine wpAnyH_ready (rs := [4, 15]) (by kernel_rfl) (by simp) ?_
        refine AllReadyH.cons rfl (fun K hK => ?_) (AllReadyH.cons rfl (fun K hK => ?_) AllReadyH.nil)
        · go_simp
          refine hK.out _ _ hH1 (fun _ => ?_)
          clear hK K
          refine wpAnyH_ready (rs := [15]) (by kernel_rfl) (by simp) ?_
          refine AllReadyH.cons rfl (fun K hK => ?_) AllReadyH.nil
          go_simp
          have hH2 := Lib.cell?_alloc_some (.cells #[.int .i64 (D : Int), .int .i64 (L : Int), .int .i64 (L : Int)] 169) hH1
          have c2 := Lib.cell?_alloc_some (.cells #[.int .i64 (D : Int), .int .i64 (L : Int), .int .i64 (L : Int)] 169) c1
          refine hK.out _ _ hH2 (fun _ => ?_)
          clear hK K
          refine wpAnyH_ready (rs := [16]) (by kernel_rfl) (by simp) ?_
          refine AllReadyH.cons rfl (fun K hK => ?_) AllReadyH.nil
          rw [if_pos (by rfl)]
          refine wp_app_s (.tmp 35) (.tmp 46) rfl (w.heap.size + 1) vo k _ ⟨D, L, L⟩ rfl (HOD.out.alloc _) ⟨x1.heap.size, 0, none⟩ rfl (cells_new3 x1 _ _ _ _) (by omega) (by simp; omega) ?_
          intro v4 w4 hown4 hg4
          obtain ⟨g4, cap4, rfl⟩ := own_succ hown4
          obtain ⟨hH4, hs4, hB4⟩ := HGR.out x1 w4 HB2.out HSD.out HOD.out hH1 hsz1 hg4
          have c4 := hs4.row
          have hf4 := hs4.free 0
          refine hK.out _ _ hH4 (fun _ => ?_)
          clear hK K
          refine held_take (i := 17) (d := 48) (oi := _) (v := ?_) rfl rfl (by kernel_rfl) (by kernel_rfl) (by kernel_rfl) (fun _ _ _ h => h) (Or.inl ⟨by rfl, ?_⟩) (by assumption) ?_
          rotate_left
          · (intro w hSw; go_simp; (try with_reducible rfl))
          simp only [Act.put, List.setIfInBounds_toArray]
          refine held_take (i := 18) (d := 49) (oi := _) (v := ?_) rfl rfl (by kernel_rfl) (by kernel_rfl) (by kernel_rfl) (fun _ _ _ h => h) (Or.inl ⟨by rfl, ?_⟩) (by assumption) ?_
          rotate_left
          · (intro w hSw; go_simp; (try with_reducible rfl))
          simp only [Act.put]
          refine wpAnyH_ready (rs := [19]) (by kernel_rfl) (by simp) ?_
          refine AllReadyH.cons rfl (fun K hK => ?_) AllReadyH.nil
          go_simp
          obtain ⟨hH5, hg5, hB5⟩ := HEN.out w4 _ hH4 hs4 hB4 hown4
          refine hK.out _ _ hH5 (fun _ => ?_)
          clear hK K
          refine wpAnyH_done (by kernel_rfl) ?_ _
          have HG5 := Lib.hid hg5
          have HB5 := Lib.hid hB5
          clear hg5 hB5 hown4 hg4 hs4 hH4 c4 hf4
          go_wp2
          exact ⟨⟨k + 1, _, by omega, by go_num, HG5.out, HB5.out⟩, by simp [intOf]; omega⟩
        · go_simp
          have hH2 := Lib.cell?_alloc_some (.cells #[.int .i64 (D : Int), .int .i64 (L : Int), .int .i64 (L : Int)] 169) hH1
          have c2 := Lib.cell?_alloc_some (.cells #[.int .i64 (D : Int), .int .i64 (L : Int), .int .i64 (L : Int)] 169) c1
          refine hK.out _ _ hH2 (fun _ => ?_)
          clear hK K
          refine wpAnyH_ready (rs := [4]) (by kernel_rfl) (by simp) ?_
          refine AllReadyH.cons rfl (fun K hK => ?_) AllReadyH.nil
          go_simp
          refine hK.out _ _ hH2 (fun _ => ?_)
          clear hK K
          refine wpAnyH_ready (rs := [16]) (by kernel_rfl) (by simp) ?_
          refine AllReadyH.cons rfl (fun K hK => ?_) AllReadyH.nil
          rw [if_pos (by rfl)]
          refine wp_app_s (.tmp 35) (.tmp 46) rfl (w.heap.size + 1) vo k _ ⟨D, L, L⟩ rfl (HOD.out.alloc _) ⟨x1.heap.size, 0, none⟩ rfl (cells_new3 x1 _ _ _ _) (by omega) (by simp; omega) ?_
          intro v4 w4 hown4 hg4
          obtain ⟨g4, cap4, rfl⟩ := own_succ hown4
          obtain ⟨hH4, hs4, hB4⟩ := HGR.out x1 w4 HB2.out HSD.out HOD.out hH1 hsz1 hg4
          have c4 := hs4.row
          have hf4 := hs4.free 0
          refine hK.out _ _ hH4 (fun _ => ?_)
          clear hK K
          refine held_take (i := 17) (d := 48) (oi := _) (v := ?_) rfl rfl (by kernel_rfl) (by kernel_rfl) (by kernel_rfl) (fun _ _ _ h => h) (Or.inl ⟨by rfl, ?_⟩) (by assumption) ?_
          rotate_left
          · (intro w hSw; go_simp; (try with_reducible rfl))
          simp only [Act.put, List.setIfInBounds_toArray]
          refine held_take (i := 18) (d := 49) (oi := _) (v := ?_) rfl rfl (by kernel_rfl) (by kernel_rfl) (by kernel_rfl) (fun _ _ _ h => h) (Or.inl ⟨by rfl, ?_⟩) (by assumption) ?_
          rotate_left
          · (intro w hSw; go_simp; (try with_reducible rfl))
          simp only [Act.put]
          refine wpAnyH_ready (rs := [19]) (by kernel_rfl) (by simp) ?_
          refine AllReadyH.cons rfl (fun K hK => ?_) AllReadyH.nil
          go_simp
          obtain ⟨hH5, hg5, hB5⟩ := HEN.out w4 _ hH4 hs4 hB4 hown4
          refine hK.out _ _ hH5 (fun _ => ?_)
          clear hK K
          refine wpAnyH_done (by kernel_rfl) ?_ _
          have HG5 := Lib.hid hg5
          have HB5 := Lib.hid hB5
          clear hg5 hB5 hown4 hg4 hs4 hH4 c4 hf4
          go_wp2
          exact ⟨⟨k + 1, _, by omega, by go_num, HG5.out, HB5.out⟩, by simp [intOf]; omega⟩
    · obtain rfl : k = ps.length := by omega
      obtain ⟨g, cap, rfl⟩ : ∃ g cap, vo = .slice (some ⟨g, 0, none⟩) ps.length cap := by
        obtain ⟨m, hm⟩ : ∃ m, ps.length = m + 1 := ⟨ps.length - 1, by omega⟩
        have := hgr.2
        rw [hm] at this ⊢
        exact own_succ this
      have hkk : ¬ (ps.length : Int) < (ps.length : Int) := by omega
      have hro := hgr.2
      rw [List.take_of_length_le (by rw [tab_len]; exact Nat.le_refl _)] at hro
      have HFA := Lib.hid (falls_any wr s0 x l (HBK.out _ hbel) ps (by rw [hlt, hps]) (by omega))
      have HFI : Hid (∀ X gf, Below wr.heap.size wr X → X.ownsRow wr.heap.size 3 1 (.slice (some ⟨gf, 0, none⟩) ps.length ps.length) ps.length (ivals (ps.map (failOf ps))) → _) := Lib.hid fun X gf hX ho =>
        fill_any w X s0 x l (HBK.out _ (Below.refl _ _)) ps lt hlt hps w.heap.size w.heap.size g ps.length cap gf (fun _ => 0) rfl (hbel.trans (hX.mono hbel.size)) (hgr.1.keep hX) (by rw [hLe]; exact own_base (own_keep hro hX) (by omega)) (own_base ho hbel.size) rfl (by omega) (fun p hp => Nat.le_trans (HDP.out p hp) (by omega))
      clear hgr hro
      have HBE := Lib.hid hbel
      clear hbel
      go_wp2_with (first
        | (go_at_call 80; (with_reducible refine HFA.out.mono ?_); rintro e w1 ⟨gf, rfl, hrow, hb1⟩; have HFR := Lib.hid hrow; have HB1 := Lib.hid hb1; clear hrow hb1)
        | (go_at_call 79; (with_reducible refine (HFI.out _ _ HB1.out HFR.out).mono ?_); rintro e w2 ⟨⟨v, rfl⟩, hs2, hr2, hb2⟩; have HS2 := Lib.hid hs2; have HR2 := Lib.hid hr2; have HB2 := Lib.hid hb2; clear hs2 hr2 hb2))
      clear HFA HFI HFR HB1 HBE hS1 HBW HN0
      go_loopw [56] (fun v wr => ∃ c : Nat, c ≤ 256 ∧ v = .int .i64 c ∧ Sd wr w.heap.size (.slice (some ⟨g, 0, none⟩) ps.length cap) (fun i => if i < c then nearK lt (UInt8.ofNat i) else 0) ∧ wr.ownsRow w.heap.size 169 3 (.slice (some ⟨g, 0, none⟩) ps.length cap) ps.length (rvals (tab ps (firstOf lt ps) (secondOf lt))) ∧ Below w.heap.size w wr) (fun v _ => 256 - (intOf v).toNat)
      case atStart => exact ⟨0, by omega, rfl, HS2.out.congr (fun i _ => by rw [if_neg (by omega)]), HR2.out, HB2.out⟩
      case round =>
        obtain ⟨c, hc, rfl, hs, hr, hbel⟩ := hrel
        by_cases hcl : c < 256
        · obtain ⟨b, rfl⟩ : ∃ b : UInt8, c = b.toNat := ⟨UInt8.ofNat c, (UInt8.toNat_ofNat_of_lt' hcl).symm⟩
          have c0 := hs.at hcl
          rw [if_neg (Nat.lt_irrefl _)] at c0
          have f0 := hs.free (1 + b.toNat)
          have hp1 : Sd (wr.setCell ⟨w.heap.size, 1 + b.toNat, none⟩ (.int .i64 ((L : Int) + 1))) w.heap.size (.slice (some ⟨g, 0, none⟩) ps.length cap) (fun i => if i < b.toNat then nearK lt (UInt8.ofNat i) else if i = b.toNat then L + 1 else 0) :=
            (hs.congr fun i _ => rfl).put hcl (fun i hi => by simp only [if_neg hi]) (by rw [if_neg (Nat.lt_irrefl _), if_pos rfl]; omega)
          have hr1 : (wr.setCell ⟨w.heap.size, 1 + b.toNat, none⟩ (.int .i64 ((L : Int) + 1))).ownsRow w.heap.size 169 3 (.slice (some ⟨g, 0, none⟩) ps.length cap) ps.length (rvals (tab ps (firstOf lt ps) (secondOf lt))) :=
            own_far_block hr fun j hj => Below.heap_setCell _ _ _ _ fun e => by
              obtain ⟨_, _, cs, hh⟩ := own_block_lt hr hj
              obtain ⟨cells, h5, _⟩ := hs
              have e2 : j = w.heap.size := e
              rw [e2] at hh
              have := hh.symm.trans h5
              simp at this
          have hb1 := hbel.setCell (p := ⟨w.heap.size, 1 + b.toNat, none⟩) (Nat.le_refl _) (.int .i64 ((L : Int) + 1))
          have HNR : Hid (∀ X, Below w.heap.size w X → Calls Tryz.prog 81 #[.pointer (some ⟨x, 0, none⟩), .int .u8 (b.toNat : Int)] X fun e w' => e = .returned (.int .i64 (nearOf lt b : Int)) ∧ Below X.heap.size X w') := Lib.hid fun X hX => hlt ▸ bnear_any X x l (HBK.out X hX) b
          have HP1 := Lib.hid hp1
          have HR1 := Lib.hid hr1
          have HB1 := Lib.hid hb1
          have HNK := Lib.hid (hLe ▸ nearK_by lt b)
          have hbl : (b.toNat : Int) < 256 := by omega
          have hwl : wrap64 ((L : Int) + 1) = (L : Int) + 1 := by unfold wrap64; omega
          clear hs hr hbel hp1 hr1 hb1 HS2 HR2 HB2
          generalize nearOf lt b = m at *
          -- what is known behind the round
          have HEND : Hid (∀ X : World, ∀ u : Nat, Sd X w.heap.size (.slice (some ⟨g, 0, none⟩) ps.length cap) (fun i => if i < b.toNat then nearK lt (UInt8.ofNat i) else if i = b.toNat then u else 0) → u = nearK lt b → Sd X w.heap.size (.slice (some ⟨g, 0, none⟩) ps.length cap) (fun i => if i < b.toNat + 1 then nearK lt (UInt8.ofNat i) else 0)) := Lib.hid fun X u hX hu => hX.congr fun i hi => by
            by_cases h1 : i < b.toNat
            · rw [if_pos h1, if_pos (by omega)]
            · by_cases h2 : i = b.toNat
              · rw [if_neg h1, if_pos h2, if_pos (by omega), h2, UInt8.ofNat_toNat, hu]
              · rw [if_neg h1, if_neg h2, if_neg (by omega)]
          by_cases hm0 : 0 < m
          · have hmi : (0 : Int) < (m : Int) := by omega
            go_wp2_with (go_at_call 81; (with_reducible refine (HNR.out _ HB1.out).mono ?_); rintro e w3 ⟨rfl, hb3⟩; have hs3 := HP1.out.keep hb3; have c3 := hs3.at hcl; have f3 := hs3.free (1 + b.toNat); have HS3 := Lib.hid hs3; have HR3 := Lib.hid (own_keep HR1.out hb3); have HB3 := Lib.hid (HB1.out.trans (hb3.mono (show w.heap.size ≤ (wr.setCell ⟨w.heap.size, 1 + b.toNat, none⟩ (.int .i64 ((L : Int) + 1))).heap.size by have := HB1.out.size; simpa using this))); clear hs3 hb3)
            have hs5 : Sd (w3.setCell ⟨w.heap.size, 1 + b.toNat, none⟩ (.int .i64 (min (m : Int) ((L : Int) + 1)))) w.heap.size (.slice (some ⟨g, 0, none⟩) ps.length cap) (fun i => if i < b.toNat then nearK lt (UInt8.ofNat i) else if i = b.toNat then min m (L + 1) else 0) :=
              HS3.out.put hcl (fun i hi => by simp only [if_neg hi]) (by rw [if_neg (Nat.lt_irrefl _), if_pos rfl]; omega)
            have hr5 : (w3.setCell ⟨w.heap.size, 1 + b.toNat, none⟩ (.int .i64 (min (m : Int) ((L : Int) + 1)))).ownsRow w.heap.size 169 3 (.slice (some ⟨g, 0, none⟩) ps.length cap) ps.length (rvals (tab ps (firstOf lt ps) (secondOf lt))) :=
              own_far_block HR3.out fun j hj => Below.heap_setCell _ _ _ _ fun e => by
                obtain ⟨_, _, cs, hh⟩ := own_block_lt HR3.out hj
                obtain ⟨cells, h5, _⟩ := HS3.out
                have e2 : j = w.heap.size := e
                rw [e2] at hh
                have := hh.symm.trans h5
                simp at this
            refine ⟨⟨b.toNat + 1, by omega, by go_num, HEND.out _ _ hs5 ?_, hr5, HB3.out.setCell (p := ⟨w.heap.size, 1 + b.toNat, none⟩) (Nat.le_refl _) _⟩, by simp [intOf]; omega⟩
            rw [HNK.out]
            split <;> omega
          · have hmi : ¬ (0 : Int) < (m : Int) := by omega
            go_wp2_with (go_at_call 81; (with_reducible refine (HNR.out _ HB1.out).mono ?_); rintro e w3 ⟨rfl, hb3⟩; have HS3 := Lib.hid (HP1.out.keep hb3); have HR3 := Lib.hid (own_keep HR1.out hb3); have HB3 := Lib.hid (HB1.out.trans (hb3.mono (show w.heap.size ≤ (wr.setCell ⟨w.heap.size, 1 + b.toNat, none⟩ (.int .i64 ((L : Int) + 1))).heap.size by have := HB1.out.size; simpa using this))); clear hb3)
            exact ⟨⟨b.toNat + 1, by omega, by go_num, HEND.out _ _ HS3.out (by rw [HNK.out, if_neg (by omega)]), HR3.out, HB3.out⟩, by simp [intOf]; omega⟩
        · obtain rfl : c = 256 := by omega
          have HS := Lib.hid hs
          have HR := Lib.hid hr
          have HB := Lib.hid hbel
          clear hs hr hbel HS2 HR2 HB2
          go_wp2
          go_ret
          refine ⟨some ⟨w.heap.size, 0, none⟩, rfl, ⟨fun e => (by cases e), fun a ha => ⟨w.heap.size, (Option.some.inj ha).symm, .inl ⟨g, cap, ?_, ?_, (own_block_lt HR.out (g := g) rfl).2.1, ?_⟩⟩⟩, HB.out⟩
          · rw [hlt, hps]
            exact HS.out.congr fun i hi => if_pos hi
          · rw [hlt, hps]
            exact fun p hp => Nat.le_trans (HDP.out p hp) (by omega)
          · rw [hlt, hps]
            exact own_rw HR.out (by rw [tab_len])
end Go.Proofs.YtcbhjhhajeeimaaGreat.Shf
/- Shifts: all that its functions answer. -/
namespace Go.Proofs.YtcbhjhhajeeimaaGreat.Shf
end Go.Proofs.YtcbhjhhajeeimaaGreat.Shf
