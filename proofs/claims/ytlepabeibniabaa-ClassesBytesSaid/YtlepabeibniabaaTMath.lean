/- Trees of texts: where a text stands among some, the beginnings of texts in the order of their numbers, what a tree tells. -/
import Derived.Test.YtlepabeibniabaaBase
namespace Go.Proofs.Ytlepabeibniabaa.Tri
set_option maxRecDepth 100000

abbrev Tx := List UInt8
/-- Where a text stands among some; -1: nowhere. -/
def place (l : List Tx) (s : Tx) : Int := if s ∈ l then ((l.idxOf s : Nat) : Int) else -1
theorem place_mem {l : List Tx} {s : Tx} (h : s ∈ l) : ∃ i, ∃ hi : i < l.length, place l s = (i : Int) ∧ l[i] = s ∧ l.idxOf s = i := by
  have hi : l.idxOf s < l.length := List.idxOf_lt_length_of_mem h
  exact ⟨l.idxOf s, hi, by rw [place, if_pos h], List.getElem_idxOf hi, rfl⟩
theorem place_not {l : List Tx} {s : Tx} (h : s ∉ l) : place l s = -1 := if_neg h
theorem place_nonneg (l : List Tx) (s : Tx) : 0 ≤ place l s ↔ s ∈ l := by
  unfold place
  split
  · rename_i h; exact ⟨fun _ => h, fun _ => by omega⟩
  · rename_i h; exact ⟨fun e => by omega, fun e => absurd e h⟩
theorem place_neg (l : List Tx) (s : Tx) : place l s < 0 ↔ s ∉ l := by rw [← place_nonneg]; omega
theorem place_ge (l : List Tx) (s : Tx) : -1 ≤ place l s := by
  unfold place; split <;> omega
theorem place_lt (l : List Tx) (s : Tx) : place l s < l.length := by
  by_cases h : s ∈ l
  · obtain ⟨i, hi, e, _⟩ := place_mem h; omega
  · rw [place_not h]; omega
theorem idxOf_first : ∀ (l : List Tx) (s : Tx) (k : Nat) (hk : k < l.length), l[k] = s → (∀ j (h : j < k), l[j] ≠ s) → l.idxOf s = k
  | [], _, k, hk, _, _ => absurd hk (by simp)
  | x :: l, s, 0, _, e, _ => by simp at e; simp [e]
  | x :: l, s, k + 1, hk, e, hn => by
    have h0 : x ≠ s := hn 0 (by omega)
    have := idxOf_first l s k (by simpa using hk) (by simpa using e) (fun j hj => by have := hn (j + 1) (by omega); simpa using this)
    have hb : (x == s) = false := beq_eq_false_iff_ne.2 h0
    rw [List.idxOf_cons, this, hb]
    rfl
theorem place_first {l : List Tx} {s : Tx} {k : Nat} (hk : k < l.length) (e : l[k] = s) (hn : ∀ j (h : j < k), l[j] ≠ s) : place l s = k := by
  rw [place, if_pos (e ▸ List.getElem_mem hk), idxOf_first l s k hk e hn]
theorem place_none {l : List Tx} {s : Tx} (hn : ∀ j (h : j < l.length), l[j] ≠ s) : place l s = -1 :=
  place_not fun h => by obtain ⟨i, hi, e⟩ := List.getElem_of_mem h; exact hn i hi e
theorem nd_inj {l : List Tx} (hd : l.Nodup) {i j : Nat} {hi : i < l.length} {hj : j < l.length} (e : l[i] = l[j]) : i = j := by
  have h := List.pairwise_iff_getElem.1 hd
  rcases Nat.lt_trichotomy i j with h1 | h1 | h1
  · exact absurd e (h i j hi hj h1)
  · exact h1
  · exact absurd e.symm (h j i hj hi h1)
theorem place_at {l : List Tx} (hd : l.Nodup) {i : Nat} (hi : i < l.length) : place l l[i] = i :=
  place_first hi rfl fun j hj e => absurd (nd_inj hd e) (by omega)
theorem place_left {l : List Tx} (m : List Tx) {s : Tx} (h : s ∈ l) : place (l ++ m) s = place l s := by
  rw [place, place, if_pos h, if_pos (List.mem_append_left _ h), List.idxOf_append, if_pos h]
theorem place_right {l m : List Tx} {s : Tx} (h : s ∉ l) (h' : s ∈ m) : place (l ++ m) s = l.length + place m s := by
  rw [place, place, if_pos h', if_pos (List.mem_append_right _ h'), List.idxOf_append, if_neg h]
  omega
theorem place_snoc_other {l : List Tx} {q s : Tx} (h : s ≠ q) : place (l ++ [q]) s = place l s := by
  by_cases hs : s ∈ l
  · exact place_left _ hs
  · rw [place_not hs, place_not]
    intro e
    rcases List.mem_append.1 e with e | e
    · exact hs e
    · exact h (by simpa using e)
theorem place_snoc_same {l : List Tx} {q : Tx} (h : q ∉ l) : place (l ++ [q]) q = l.length := by
  rw [place_right h (by simp)]
  have : place [q] q = (0 : Nat) := place_first (l := [q]) (k := 0) (by simp) rfl (fun j hj => by omega)
  rw [this]; simp
/-- A tree's beginnings, in the order of their numbers. -/
structure Wf (ps : List Tx) : Prop where
  nodup : ps.Nodup
  root : ps[0]? = some []
  up : ∀ i (h : i < ps.length), ps[i] ≠ [] → ∃ j, ∃ hj : j < i, ps[j] = ps[i].dropLast
theorem wf_root : Wf [[]] := ⟨by simp, rfl, fun i h hn => by
  obtain rfl : i = 0 := by simp at h; omega
  exact absurd rfl hn⟩
theorem Wf.pos {ps : List Tx} (h : Wf ps) : 0 < ps.length := by
  have := h.root
  rw [List.getElem?_eq_some_iff] at this
  exact this.1
theorem Wf.at0 {ps : List Tx} (h : Wf ps) : ps[0]'h.pos = [] := by
  have := h.root
  rw [List.getElem?_eq_getElem h.pos] at this
  exact Option.some.inj this
theorem Wf.nil_mem {ps : List Tx} (h : Wf ps) : [] ∈ ps := by
  have := List.getElem_mem h.pos
  rwa [h.at0] at this
theorem Wf.nil_iff {ps : List Tx} (h : Wf ps) {i : Nat} (hi : i < ps.length) : ps[i] = [] ↔ i = 0 := by
  constructor
  · intro e
    have := h.at0
    rw [← e] at this
    exact (nd_inj h.nodup this).symm
  · rintro rfl; exact h.at0
theorem Wf.closed {ps : List Tx} (h : Wf ps) {p : Tx} {c : UInt8} (hm : p ++ [c] ∈ ps) : p ∈ ps := by
  obtain ⟨i, hi, e⟩ := List.getElem_of_mem hm
  obtain ⟨j, hj, e2⟩ := h.up i hi (by rw [e]; simp)
  rw [e, List.dropLast_concat] at e2
  rw [← e2]
  exact List.getElem_mem _
theorem Wf.closed_drop {ps : List Tx} (h : Wf ps) {p : Tx} (hm : p ∈ ps) (hn : p ≠ []) : p.dropLast ∈ ps := by
  apply h.closed (c := p.getLast hn)
  rw [List.dropLast_concat_getLast]; exact hm
theorem Wf.closed_take {ps : List Tx} (h : Wf ps) {p q : Tx} (hm : p ++ q ∈ ps) : p ∈ ps := by
  induction q generalizing p with
  | nil => simpa using hm
  | cons c q ih =>
    have := ih (p := p ++ [c]) (by simpa using hm)
    exact h.closed this
theorem Wf.snoc {ps : List Tx} (h : Wf ps) {p : Tx} {c : UInt8} (hp : p ∈ ps) (hq : p ++ [c] ∉ ps) : Wf (ps ++ [p ++ [c]]) := by
  refine ⟨?_, ?_, fun i hi hn => ?_⟩
  · rw [List.nodup_append]
    refine ⟨h.nodup, by simp, fun a ha b hb e => ?_⟩
    have : b = p ++ [c] := by simpa using hb
    exact hq (by rw [← this, ← e]; exact ha)
  · rw [List.getElem?_append_left h.pos]; exact h.root
  · by_cases hlt : i < ps.length
    · rw [List.getElem_append_left hlt] at hn
      obtain ⟨j, hj, e⟩ := h.up i hlt hn
      refine ⟨j, hj, ?_⟩
      rw [List.getElem_append_left hlt, List.getElem_append_left (by omega)]
      exact e
    · obtain rfl : i = ps.length := by simp at hi; omega
      obtain ⟨j, hj, e⟩ := List.getElem_of_mem hp
      refine ⟨j, hj, ?_⟩
      rw [List.getElem_append_left hj, e, List.getElem_append_right (by omega)]
      simp
/-- One beginning more, unless it is there. -/
def addp (ps : List Tx) (q : Tx) : List Tx := if q ∈ ps then ps else ps ++ [q]
/-- A text's beginnings of up to k bytes more. -/
def growTo (ps : List Tx) (x : Tx) : Nat → List Tx
  | 0 => ps
  | k + 1 => addp (growTo ps x k) (x.take (k + 1))
def grow (ps : List Tx) (x : Tx) : List Tx := growTo ps x x.length
/-- All beginnings of texts. -/
def paths (l : List Tx) : List Tx := l.foldl grow [[]]
theorem paths_snoc (l : List Tx) (x : Tx) : paths (l ++ [x]) = grow (paths l) x := by simp [paths, List.foldl_append]
theorem paths_take (l : List Tx) (k : Nat) (h : k < l.length) : paths (l.take (k + 1)) = grow (paths (l.take k)) l[k] := by
  rw [List.take_succ_eq_append_getElem h, paths_snoc]
theorem growTo_wf {ps : List Tx} (h : Wf ps) (x : Tx) : ∀ k, k ≤ x.length → Wf (growTo ps x k) ∧ x.take k ∈ growTo ps x k
  | 0, _ => ⟨h, by simpa [growTo] using h.nil_mem⟩
  | k + 1, hk => by
    obtain ⟨h1, h2⟩ := growTo_wf h x k (by omega)
    unfold growTo addp
    split
    · rename_i hm; exact ⟨h1, hm⟩
    · rename_i hm
      refine ⟨?_, by simp⟩
      rw [List.take_succ_eq_append_getElem (by omega)] at hm ⊢
      exact h1.snoc h2 hm
theorem growTo_sub (ps : List Tx) (x : Tx) : ∀ k, ∃ m, growTo ps x k = ps ++ m ∧ m.length ≤ k ∧ ∀ q ∈ m, ∃ j, q = x.take j
  | 0 => ⟨[], by simp [growTo], by simp, fun q hq => by cases hq⟩
  | k + 1 => by
    obtain ⟨m, e, hl, hm⟩ := growTo_sub ps x k
    unfold growTo addp
    split
    · exact ⟨m, e, by omega, hm⟩
    · refine ⟨m ++ [x.take (k + 1)], by rw [e]; simp, by simp; omega, fun q hq => ?_⟩
      rcases List.mem_append.1 hq with hq | hq
      · exact hm q hq
      · exact ⟨k + 1, by simpa using hq⟩
theorem grow_mem (ps : List Tx) (h : Wf ps) (x : Tx) : x ∈ grow ps x := by
  have := (growTo_wf h x x.length (Nat.le_refl _)).2
  rwa [List.take_length] at this
theorem paths_wf : ∀ l : List Tx, Wf (paths l) := fun l => by
  unfold paths
  suffices ∀ ps, Wf ps → Wf (l.foldl grow ps) from this _ wf_root
  induction l with
  | nil => exact fun ps h => h
  | cons x l ih => exact fun ps h => ih _ (growTo_wf h x x.length (Nat.le_refl _)).1
theorem fold_sub (l : List Tx) (ps : List Tx) : ∃ m, l.foldl grow ps = ps ++ m := by
  induction l generalizing ps with
  | nil => exact ⟨[], by simp⟩
  | cons x l ih =>
    obtain ⟨m1, e1, _⟩ := growTo_sub ps x x.length
    obtain ⟨m2, e2⟩ := ih (grow ps x)
    exact ⟨m1 ++ m2, by rw [List.foldl_cons, e2, grow, e1, List.append_assoc]⟩
theorem paths_append (l m : List Tx) : ∃ z, paths (l ++ m) = paths l ++ z := by
  unfold paths
  rw [List.foldl_append]
  exact fold_sub m _
/-- How many bytes texts have. -/
def tot (l : List Tx) : Nat := (l.map List.length).sum
theorem tot_snoc (l : List Tx) (x : Tx) : tot (l ++ [x]) = tot l + x.length := by simp [tot]
theorem tot_take (l : List Tx) (k : Nat) (h : k < l.length) : tot (l.take (k + 1)) = tot (l.take k) + l[k].length := by
  rw [List.take_succ_eq_append_getElem h, tot_snoc]
theorem tot_append (l m : List Tx) : tot (l ++ m) = tot l + tot m := by simp [tot]
theorem tot_take_le (l : List Tx) (k : Nat) : tot (l.take k) ≤ tot l := by
  have := tot_append (l.take k) (l.drop k)
  rw [List.take_append_drop] at this
  omega
theorem tot_le (l : List Tx) (b : Nat) (h : ∀ x ∈ l, x.length ≤ b) : tot l ≤ l.length * b := by
  induction l with
  | nil => simp [tot]
  | cons x l ih =>
    have h1 := h x (by simp)
    have h2 := ih fun y hy => h y (by simp [hy])
    have e : tot (x :: l) = x.length + tot l := by simp [tot]
    rw [e, List.length_cons, Nat.add_mul]
    omega
theorem paths_len (l : List Tx) : (paths l).length ≤ 1 + tot l := by
  unfold paths
  suffices ∀ ps : List Tx, (l.foldl grow ps).length ≤ ps.length + tot l from by have := this [[]]; simpa [Nat.add_comm] using this
  induction l with
  | nil => exact fun ps => by simp [tot]
  | cons x l ih =>
    intro ps
    obtain ⟨m, e, hm, _⟩ := growTo_sub ps x x.length
    have h1 := ih (grow ps x)
    have e2 : tot (x :: l) = x.length + tot l := by simp [tot]
    rw [List.foldl_cons, e2]
    rw [grow, e, List.length_append] at h1
    rw [grow, e]
    omega
theorem paths_sub (l : List Tx) : ∀ x ∈ l, x ∈ paths l := by
  unfold paths
  suffices ∀ ps, Wf ps → ∀ x ∈ l, x ∈ l.foldl grow ps from this _ wf_root
  induction l with
  | nil => exact fun ps _ x hx => by cases hx
  | cons y l ih =>
    intro ps h x hx
    have hw := (growTo_wf h y y.length (Nat.le_refl _)).1
    rcases List.mem_cons.1 hx with rfl | hx
    · obtain ⟨m, e⟩ := fold_sub l (grow ps x)
      rw [List.foldl_cons, e]
      exact List.mem_append_left _ (grow_mem ps h x)
    · exact ih _ hw x hx
theorem paths_mem (l : List Tx) (p : Tx) : p ∈ paths l ↔ p = [] ∨ ∃ x ∈ l, ∃ q, p ++ q = x := by
  constructor
  · unfold paths
    suffices ∀ ps : List Tx, p ∈ l.foldl grow ps → p ∈ ps ∨ ∃ x ∈ l, ∃ q, p ++ q = x from fun h => (this [[]] h).imp (by simp) id
    induction l with
    | nil => exact fun ps h => .inl h
    | cons y l ih =>
      intro ps h
      rcases ih _ h with h | ⟨x, hx, q, e⟩
      · obtain ⟨m, e, _, hm⟩ := growTo_sub ps y y.length
        rw [grow, e] at h
        rcases List.mem_append.1 h with h | h
        · exact .inl h
        · obtain ⟨j, rfl⟩ := hm p h
          exact .inr ⟨y, by simp, y.drop j, List.take_append_drop j y⟩
      · exact .inr ⟨x, by simp [hx], q, e⟩
  · rintro (rfl | ⟨x, hx, q, rfl⟩)
    · exact (paths_wf l).nil_mem
    · exact (paths_wf l).closed_take (paths_sub l _ hx)
/-- The beginning that a number stands for. -/
def pathOf (ps : List Tx) (n : Int) : Option Tx := if 0 ≤ n then ps[n.toNat]? else none
theorem pathOf_at {ps : List Tx} {i : Nat} (h : i < ps.length) : pathOf ps (i : Int) = some ps[i] := by
  unfold pathOf
  rw [if_pos (by omega)]
  simp [h]
theorem pathOf_some {ps : List Tx} {n : Int} {p : Tx} (h : pathOf ps n = some p) : ∃ i, ∃ hi : i < ps.length, n = (i : Int) ∧ ps[i] = p := by
  unfold pathOf at h
  split at h
  · rename_i h0
    obtain ⟨hi, e⟩ := List.getElem?_eq_some_iff.1 h
    exact ⟨n.toNat, hi, by omega, e⟩
  · cases h
theorem pathOf_none {ps : List Tx} {n : Int} (h : ¬ (0 ≤ n ∧ n < ps.length)) : pathOf ps n = none := by
  unfold pathOf
  split
  · rw [List.getElem?_eq_none (by omega)]
  · rfl
/-- What a tree tells of a number. -/
def stepOf (ps : List Tx) (n : Int) (c : UInt8) : Int := match pathOf ps n with | some p => place ps (p ++ [c]) | none => -1
def pathD (ps : List Tx) (n : Int) : Tx := (pathOf ps n).getD []
def upOf (ps : List Tx) (n : Int) : Int := match pathOf ps n with | some p => (if p = [] then -1 else place ps p.dropLast) | none => -1
def wordOf (ps l : List Tx) (n : Int) : Int := match pathOf ps n with | some p => place l p | none => -1
theorem stepOf_at {ps : List Tx} {i : Nat} (h : i < ps.length) (c : UInt8) : stepOf ps (i : Int) c = place ps (ps[i] ++ [c]) := by rw [stepOf, pathOf_at h]
theorem pathD_at {ps : List Tx} {i : Nat} (h : i < ps.length) : pathD ps (i : Int) = ps[i] := by rw [pathD, pathOf_at h]; rfl
theorem upOf_at {ps : List Tx} {i : Nat} (h : i < ps.length) : upOf ps (i : Int) = if ps[i] = [] then -1 else place ps ps[i].dropLast := by rw [upOf, pathOf_at h]
theorem wordOf_at {ps : List Tx} (l : List Tx) {i : Nat} (h : i < ps.length) : wordOf ps l (i : Int) = place l ps[i] := by rw [wordOf, pathOf_at h]
theorem stepOf_ge (ps : List Tx) (n : Int) (c : UInt8) : -1 ≤ stepOf ps n c := by
  unfold stepOf; split
  · exact place_ge _ _
  · omega
theorem stepOf_lt (ps : List Tx) (n : Int) (c : UInt8) : stepOf ps n c < 0 ∨ stepOf ps n c < ps.length := by
  unfold stepOf; split
  · exact .inr (place_lt _ _)
  · exact .inl (by omega)
/-- One beginning more: a step more. -/
theorem stepOf_snoc {ps : List Tx} (h : Wf ps) {i : Nat} (hi : i < ps.length) {c : UInt8} (hq : ps[i] ++ [c] ∉ ps) (s : Int) (d : UInt8) :
    stepOf (ps ++ [ps[i] ++ [c]]) s d = if (i : Int) = s ∧ c = d then (ps.length : Int) else stepOf ps s d := by
  by_cases hs : 0 ≤ s ∧ s < ps.length
  · obtain ⟨j, rfl⟩ : ∃ j : Nat, s = (j : Int) := ⟨s.toNat, by omega⟩
    have hj : j < ps.length := by omega
    rw [stepOf_at hj, stepOf_at (by simp; omega), List.getElem_append_left hj]
    by_cases e : ps[j] ++ [d] = ps[i] ++ [c]
    · obtain ⟨e1, e2⟩ := List.append_inj' e rfl
      have e3 : j = i := nd_inj h.nodup e1
      have e4 : d = c := by simpa using e2
      subst e3; subst e4
      rw [if_pos ⟨rfl, rfl⟩, place_snoc_same hq]
    · rw [place_snoc_other e, if_neg]
      rintro ⟨e1, rfl⟩
      have e1 : i = j := by omega
      subst e1
      exact e rfl
  · rw [if_neg (fun e => hs (by omega))]
    have e0 : stepOf ps s d = -1 := by rw [stepOf, pathOf_none hs]
    rw [e0]
    by_cases hs2 : s = ps.length
    · subst hs2
      rw [stepOf_at (by simp), List.getElem_append_right (by omega)]
      simp only [Nat.sub_self, List.getElem_cons_zero]
      apply place_not
      intro e
      rcases List.mem_append.1 e with e | e
      · exact hq (h.closed e)
      · simp at e
    · rw [stepOf, pathOf_none]
      simp; omega
/-- What is kept of a node. -/
structure Nd where
  up : Int
  last : UInt8
  deep : Nat
  word : Int
def ndOf (ps l : List Tx) (p : Tx) : Nd := ⟨if p = [] then -1 else place ps p.dropLast, p.getLastD 0, p.length, place l p⟩
def nds (ps l : List Tx) : List Nd := ps.map (ndOf ps l)
theorem nds_length (ps l : List Tx) : (nds ps l).length = ps.length := by simp [nds]
theorem nds_at (ps l : List Tx) (i : Nat) (h : i < ps.length) : (nds ps l)[i]'(by rw [nds_length]; exact h) = ndOf ps l ps[i] := by simp [nds]
theorem nds_root : nds [[]] [] = [⟨-1, 0, 0, -1⟩] := by simp [nds, ndOf, place]
theorem nds_snoc {ps : List Tx} (h : Wf ps) {l : List Tx} (hl : ∀ x ∈ l, x ∈ ps) {i : Nat} (hi : i < ps.length) {c : UInt8} (hq : ps[i] ++ [c] ∉ ps) :
    nds (ps ++ [ps[i] ++ [c]]) l = nds ps l ++ [⟨(i : Int), c, ps[i].length + 1, -1⟩] := by
  unfold nds
  rw [List.map_append]
  congr 1
  · apply List.map_congr_left
    intro p hp
    unfold ndOf
    by_cases hn : p = []
    · simp [hn]
    · rw [if_neg hn, if_neg hn, place_left _ (h.closed_drop hp hn)]
  · have e : place (ps ++ [ps[i] ++ [c]]) ps[i] = i := by rw [place_left _ (List.getElem_mem hi), place_at h.nodup hi]
    have e2 : place l (ps[i] ++ [c]) = -1 := place_not fun e => hq (hl _ e)
    simp [ndOf, e, e2]
/-- A text more: its node's word, if there was none. -/
theorem nds_word {ps : List Tx} (h : Wf ps) {l : List Tx} {x : Tx} {i : Nat} (hi : i < ps.length) (e : ps[i] = x) :
    nds ps (l ++ [x]) = if x ∈ l then nds ps l else (nds ps l).set i ⟨(ndOf ps l x).up, (ndOf ps l x).last, (ndOf ps l x).deep, (l.length : Int)⟩ := by
  split
  · rename_i hx
    unfold nds
    apply List.map_congr_left
    intro p hp
    unfold ndOf
    by_cases hpx : p = x
    · subst hpx; rw [place_left _ hx]
    · rw [place_snoc_other hpx]
  · rename_i hx
    apply List.ext_getElem
    · simp [nds]
    · intro j h1 h2
      rw [nds_length] at h1
      rw [List.getElem_set, nds_at _ _ j h1]
      split
      · rename_i hij
        subst hij
        rw [e]
        unfold ndOf
        rw [place_snoc_same hx]
      · rename_i hij
        rw [nds_at _ _ j h1]
        have hne : ps[j] ≠ x := fun e2 => hij (nd_inj h.nodup (e.trans e2.symm))
        unfold ndOf
        rw [place_snoc_other hne]
end Go.Proofs.Ytlepabeibniabaa.Tri
