/- Mathematics of Shifts: what is worked out once, over the falls of the tree. -/
import Derived.Test.YtgdpelpepgpegaaBb
import Derived.Test.YtgdpelpepgpegaaGL
namespace Go.Proofs.Ytgdpelpepgpegaa.Shf
open Go.Proofs.Ytgdpelpepgpegaa.Tri Go.Proofs.Ytgdpelpepgpegaa.Lnk Go.Proofs.Ytgdpelpepgpegaa.Cwl Go.Proofs.Ytgdpelpepgpegaa.Bck
set_option maxRecDepth 100000

/-- A path has a shorter end. -/
def Tail (q s : Tx) : Prop := s.length < q.length ∧ q.drop (q.length - s.length) = s
theorem tail_of {u s : Tx} (h : u ≠ []) : Tail (u ++ s) s := by
  have := List.length_pos_iff.2 h
  refine ⟨by rw [List.length_append]; omega, ?_⟩
  rw [List.length_append, show u.length + s.length - s.length = u.length by omega, List.drop_left]
theorem Tail.split {q s : Tx} (h : Tail q s) : ∃ u, u ≠ [] ∧ q = u ++ s := by
  refine ⟨q.take (q.length - s.length), fun e => ?_, ?_⟩
  · have := congrArg List.length e
    rw [List.length_take] at this
    have := h.1
    simp at *
    omega
  · conv => lhs; rw [← List.take_append_drop (q.length - s.length) q, h.2]
theorem ahead_tail {q s : Tx} (h : Tail q s) : Cwl.ahead q.reverse s.reverse = q.length - s.length := by
  unfold Cwl.ahead
  rw [List.length_reverse, List.length_reverse, List.take_reverse, if_pos ⟨h.1, by rw [h.2]⟩]
theorem ahead_no {q s : Tx} (h : ¬ Tail q s) : Cwl.ahead q.reverse s.reverse = 0 := by
  unfold Cwl.ahead
  rw [List.length_reverse, List.length_reverse, List.take_reverse, if_neg fun g => h ⟨g.1, List.reverse_inj.1 g.2⟩]
theorem tail_pos {q s : Tx} (h : 0 < Cwl.ahead q.reverse s.reverse) : Tail q s := by
  refine Classical.byContradiction fun hn => ?_
  rw [ahead_no hn] at h
  omega
/-- The least over two lists. -/
theorem minOver_app (a : Nat) (ks js : List Nat) : minOver a (ks ++ js) = min (minOver a ks) (minOver a js) := by
  have h1 : minOver a (ks ++ js) ≤ minOver a ks := min_sub (Nat.le_refl _) fun k hk _ => List.mem_append_left _ hk
  have h2 : minOver a (ks ++ js) ≤ minOver a js := min_sub (Nat.le_refl _) fun k hk _ => List.mem_append_right _ hk
  rcases min_is a (ks ++ js) with e | ⟨k, hk, h0, e⟩
  · have := min_le a ks
    have := min_le a js
    omega
  · rcases List.mem_append.1 hk with hk | hk
    · have := min_mem a ks k hk h0; omega
    · have := min_mem a js k hk h0; omega
theorem min_step {a : Nat} {ks : List Nat} {k : Nat} (h : 0 < k) : minOver a (ks ++ [k]) = min (minOver a ks) k := by
  rw [min_snoc]
  split <;> omega
theorem min_zero (a : Nat) (ks : List Nat) : minOver a (ks ++ [0]) = minOver a ks := by
  rw [min_snoc, if_neg (by omega)]
/-- The falls of a path: the next shorter end that is a path. -/
theorem fall_tail {ps : List Tx} (hw : Wf ps) {q s : Tx} (hs : s ∈ ps) (h : failOf ps q = place ps s) : Tail q s := by
  have h0 := (place_nonneg ps s).2 hs
  have hne : q ≠ [] := fun e => by rw [e, fail_nil] at h; omega
  obtain ⟨u, z, e, hu, hz, _, hf, _⟩ := fail_step hw q hne
  rw [hf] at h
  obtain ⟨i, hi, e1, e2, _⟩ := place_mem hz
  obtain ⟨j, hj, e3, e4, _⟩ := place_mem hs
  have : i = j := by omega
  subst this
  rw [e, ← e2, e4]
  exact tail_of hu
/-- Whoever has an end that is a path falls to it, or to a longer one that has it. -/
theorem tail_fall {ps : List Tx} (hw : Wf ps) {q s : Tx} (hs : s ∈ ps) (h : Tail q s) : ∃ z, z ∈ ps ∧ failOf ps q = place ps z ∧ Tail q z ∧ (z = s ∨ Tail z s) := by
  have hne : q ≠ [] := fun e => by have := h.1; rw [e] at this; simp at this
  obtain ⟨u, z, e, hu, hz, hzl, hf, _, _, hn⟩ := fail_step hw q hne
  refine ⟨z, hz, hf, by rw [e]; exact tail_of hu, ?_⟩
  obtain ⟨v, hv, e2⟩ := h.split
  have hvl := List.length_pos_iff.2 hv
  have hlen : u.length + z.length = v.length + s.length := by rw [← List.length_append, ← List.length_append, ← e, ← e2]
  have hd : q.drop v.length = s := by rw [e2, List.drop_left]
  have hge : u.length ≤ v.length := Nat.le_of_not_lt fun hlt => hn v.length hvl hlt (by rw [hd]; exact hs)
  have hzd : z.drop (v.length - u.length) = s := by
    rw [← hd, e, List.drop_append, List.drop_of_length_le hge, List.nil_append]
  rcases Nat.eq_or_lt_of_le hge with h1 | h1
  · left
    rw [← hzd, h1, Nat.sub_self, List.drop_zero]
  · right
    refine ⟨by omega, ?_⟩
    rw [show z.length - s.length = v.length - u.length by omega]
    exact hzd
/-- First, node by node: k of them. -/
def fstAt (ps : List Tx) (s q : Tx) : Nat := if failOf ps q = place ps s then q.length - s.length else 0
def fstTo (ps : List Tx) (L k : Nat) (s : Tx) : Nat := minOver L ((ps.take k).map (fstAt ps s))
theorem fst_zero (ps : List Tx) (L : Nat) (s : Tx) : fstTo ps L 0 s = L := rfl
theorem fst_step {ps : List Tx} (hw : Wf ps) (L : Nat) {k : Nat} (hk : k < ps.length) {s : Tx} (hs : s ∈ ps) : fstTo ps L (k + 1) s = if failOf ps ps[k] = place ps s then min (fstTo ps L k s) (ps[k].length - s.length) else fstTo ps L k s := by
  unfold fstTo
  rw [List.take_succ_eq_append_getElem hk, List.map_append]
  show minOver L (_ ++ [fstAt ps s ps[k]]) = _
  unfold fstAt
  split
  · rename_i h
    have := (fall_tail hw hs h).1
    exact min_step (by omega)
  · exact min_zero _ _
theorem fst_all {ps : List Tx} (hw : Wf ps) (L : Nat) {s : Tx} (hs : s ∈ ps) : fstTo ps L ps.length s = minOver L (ps.map fun q => Cwl.ahead q.reverse s.reverse) := by
  unfold fstTo
  rw [List.take_length]
  apply Nat.le_antisymm
  · have key : ∀ n, ∀ q ∈ ps, q.length ≤ n → Tail q s → minOver L (ps.map (fstAt ps s)) ≤ q.length - s.length := by
      intro n
      induction n with
      | zero => intro q _ hl ht; have := ht.1; omega
      | succ n ih =>
        intro q hq hl ht
        obtain ⟨z, hz, hf, hqz, h⟩ := tail_fall hw hs ht
        have := hqz.1
        rcases h with rfl | h
        · have e : fstAt ps z q = q.length - z.length := if_pos hf
          exact min_mem _ _ _ (List.mem_map.2 ⟨q, hq, e⟩) (by omega)
        · have := ih z hz (by omega) h
          omega
    rcases min_is L (ps.map fun q => Cwl.ahead q.reverse s.reverse) with e | ⟨k, hk, h0, e⟩
    · rw [e]; exact min_le _ _
    · obtain ⟨q, hq, rfl⟩ := List.mem_map.1 hk
      have ht := tail_pos h0
      rw [e, ahead_tail ht]
      exact key _ q hq (Nat.le_refl _) ht
  · refine min_sub (Nat.le_refl _) fun k hk h0 => ?_
    obtain ⟨q, hq, rfl⟩ := List.mem_map.1 hk
    unfold fstAt at h0 ⊢
    split at h0
    · rename_i h
      rw [if_pos h]
      exact List.mem_map.2 ⟨q, hq, ahead_tail (fall_tail hw hs h)⟩
    · omega
/-- Second without the way: node by node, k of them; a text's ends one by one, j of them gone (those longer than j). -/
def sndAt (l : List Tx) (s q : Tx) : Nat := if q ∈ l then Cwl.ahead q.reverse s.reverse else 0
def sndUp (ps l : List Tx) (L k : Nat) (s : Tx) : Nat := minOver L ((ps.take k).map (sndAt l s))
theorem snd_zero (ps l : List Tx) (L : Nat) (s : Tx) : sndUp ps l L 0 s = L := rfl
/-- The base: of a node itself. -/
def base (l : List Tx) (L : Nat) (s : Tx) : Nat := minOver L (l.map fun x => Cwl.ahead x.reverse s.reverse)
theorem snd_base {ps l : List Tx} (hl : ∀ x ∈ l, x ∈ ps) (L : Nat) (s : Tx) : sndUp ps l L ps.length s = base l L s := by
  unfold sndUp base
  rw [List.take_length]
  apply Nat.le_antisymm
  · refine min_sub (Nat.le_refl _) fun k hk _ => ?_
    obtain ⟨x, hx, rfl⟩ := List.mem_map.1 hk
    exact List.mem_map.2 ⟨x, hl x hx, if_pos hx⟩
  · refine min_sub (Nat.le_refl _) fun k hk h0 => ?_
    obtain ⟨q, hq, rfl⟩ := List.mem_map.1 hk
    unfold sndAt at h0 ⊢
    split at h0
    · rename_i h
      rw [if_pos h]
      exact List.mem_map.2 ⟨q, h, rfl⟩
    · omega
theorem snd_skip {ps l : List Tx} (L : Nat) {k : Nat} (hk : k < ps.length) (h : ps[k] ∉ l) (s : Tx) : sndUp ps l L (k + 1) s = sndUp ps l L k s := by
  unfold sndUp
  rw [List.take_succ_eq_append_getElem hk, List.map_append]
  show minOver L (_ ++ [sndAt l s ps[k]]) = _
  rw [sndAt, if_neg h]
  exact min_zero _ _
/-- While a text's ends are gone through: those that are longer than z have been. -/
def sndIn (ps l : List Tx) (L k : Nat) (q : Tx) (n : Nat) (s : Tx) : Nat := if 0 < Cwl.ahead q.reverse s.reverse ∧ n ≤ s.length then min (sndUp ps l L k s) (Cwl.ahead q.reverse s.reverse) else sndUp ps l L k s
theorem sndIn_start (ps l : List Tx) (L k : Nat) (q : Tx) (n : Nat) (hn : q.length ≤ n) (s : Tx) : sndIn ps l L k q n s = sndUp ps l L k s := by
  unfold sndIn
  refine if_neg fun h => ?_
  have := (tail_pos h.1).1
  omega
theorem sndIn_end {ps l : List Tx} (L : Nat) {k : Nat} (hk : k < ps.length) (h : ps[k] ∈ l) (s : Tx) : sndIn ps l L k ps[k] 0 s = sndUp ps l L (k + 1) s := by
  unfold sndIn
  have e : sndUp ps l L (k + 1) s = minOver L ((ps.take k).map (sndAt l s) ++ [Cwl.ahead ps[k].reverse s.reverse]) := by
    unfold sndUp
    rw [List.take_succ_eq_append_getElem hk, List.map_append]
    show minOver L (_ ++ [sndAt l s ps[k]]) = _
    rw [sndAt, if_pos h]
  rw [e]
  split
  · rename_i h0
    exact (min_step h0.1).symm
  · rename_i h0
    have h1 : Cwl.ahead ps[k].reverse s.reverse = 0 := by omega
    rw [h1, min_zero]; rfl
/-- One end more: all but it stay. -/
theorem sndIn_step {ps : List Tx} (l : List Tx) (L k : Nat) {q z : Tx} {n : Nat} (hz : z ∈ ps) (ht : Tail q z) (hzn : z.length < n) (hno : ∀ y ∈ ps, Tail q y → y.length < n → y.length ≤ z.length) {s : Tx} (hs : s ∈ ps) :
    sndIn ps l L k q z.length s = if s = z then min (sndIn ps l L k q n s) (q.length - z.length) else sndIn ps l L k q n s := by
  unfold sndIn
  by_cases e : s = z
  · subst e
    have h1 := ht.1
    rw [if_pos rfl, ahead_tail ht, if_pos ⟨by omega, Nat.le_refl _⟩, if_neg (by omega)]
  · rw [if_neg e]
    by_cases h0 : 0 < Cwl.ahead q.reverse s.reverse
    · have hts := tail_pos h0
      by_cases hn : n ≤ s.length
      · rw [if_pos ⟨h0, by omega⟩, if_pos ⟨h0, hn⟩]
      · have h3 := hno s hs hts (by omega)
        have hne : s.length ≠ z.length := fun h => e (by
          have a := hts.2
          have b := ht.2
          rw [h] at a
          rw [← a, b])
        rw [if_neg (by omega), if_neg (by omega)]
    · rw [if_neg (fun h => h0 h.1), if_neg (fun h => h0 h.1)]
theorem tail_trans {q z s : Tx} (h : Tail q z) (k : Tail z s) : Tail q s := by
  obtain ⟨u, hu, e⟩ := h.split
  obtain ⟨v, hv, e2⟩ := k.split
  rw [e, e2, ← List.append_assoc]
  exact tail_of (by simp [hu])
/-- No path that is an end stands between a path and what it falls to; the ends of an end. -/
theorem fall_between {ps : List Tx} (hw : Wf ps) {q z : Tx} (h : failOf ps q = place ps z) (hz : z ∈ ps) {y : Tx} (hy : y ∈ ps) (ht : Tail q y) : y.length ≤ z.length := by
  obtain ⟨z', hz', h1, _, h2⟩ := tail_fall hw hy ht
  rw [h] at h1
  obtain ⟨i, hi, e1, e2, _⟩ := place_mem hz
  obtain ⟨j, hj, e3, e4, _⟩ := place_mem hz'
  have : i = j := by omega
  subst this
  have e5 : z = z' := by rw [← e2, e4]
  subst e5
  rcases h2 with rfl | h2
  · exact Nat.le_refl _
  · exact Nat.le_of_lt h2.1
theorem tail_cut {q z y : Tx} (h : Tail q z) (k : Tail q y) (hl : y.length < z.length) : Tail z y := by
  obtain ⟨u, hu, e⟩ := h.split
  refine ⟨hl, ?_⟩
  have := k.2
  rw [e, List.length_append, List.drop_append, List.drop_of_length_le (by omega), List.nil_append] at this
  rwa [show u.length + z.length - y.length - u.length = z.length - y.length by omega] at this
theorem flat_congr {α β : Type} {f g : α → List β} : ∀ (l : List α), (∀ x ∈ l, f x = g x) → l.flatMap f = l.flatMap g
  | [], _ => rfl
  | x :: l, h => by rw [List.flatMap_cons, List.flatMap_cons, h x (by simp), flat_congr l fun y hy => h y (by simp [hy])]
/-- What stands on the way. -/
theorem second_root (l : List Tx) : secondOf l [] = base l (Cwl.leastOf l) [] := by
  unfold secondOf base secondAll
  simp
theorem second_snoc (l : List Tx) (s : Tx) (c : UInt8) : secondOf l (s ++ [c]) = min (base l (Cwl.leastOf l) (s ++ [c])) (secondOf l s) := by
  unfold secondOf base
  have e : secondAll l (s ++ [c]) = secondAll l s ++ l.map fun x => Cwl.ahead x.reverse (s ++ [c]).reverse := by
    unfold secondAll
    rw [List.length_append, List.length_singleton, List.range_succ, List.flatMap_append]
    congr 1
    · refine flat_congr _ fun n hn => ?_
      have := List.mem_range.1 hn
      rw [List.take_append_of_le_length (by omega)]
    · rw [List.flatMap_singleton, List.take_of_length_le (by simp)]
  rw [e, minOver_app, Nat.min_comm]
end Go.Proofs.Ytgdpelpepgpegaa.Shf
