/- Package by package: TMath TBase Ta Tb Tc Td Te Tf Tg Th Tl. -/
import Derived.Test.YtcbhjhhajeeimaaGreatGB
import Derived.Deep.AppendLies
import Derived.Deep.DrawnRows
import Derived.Deep.RegionHeld3
import Derived.Deep.RegionLaw
import Derived.DeepKeys4
import Derived.Laws.OwnMore
import Derived.Lib.ConvBytes
import Derived.Maps.AppendAt
import Derived.Maps.OwnSet
import Derived.StillTailTactics
/- Trees of texts: where a text stands among some, the beginnings of texts in the order of their numbers, what a tree tells. -/
namespace Go.Proofs.YtcbhjhhajeeimaaGreat.Tri
set_option maxRecDepth 100000

abbrev Tx := List UInt8
/-- Where a text stands among some; -1: nowhere. -/
def place (l : List Tx) (s : Tx) : Int := if s ∈ l then ((l.idxOf s : Nat) : Int) else -1
theorem place_mem {l : List Tx} {s : Tx} (h : s ∈ l) : ∃ i, ∃ hi : i < l.length, place l s = (i : Int) ∧ l[i] = s ∧ l.idxOf s = i := by
  have hi : l.idxOf s < l.length := List.idxOf_lt_length_of_mem h
  exact ⟨l.idxOf s, hi, by rw [place, if_pos h], List.getElem_idxOf hi, rfl⟩
theorem place_not {l : List Tx} {s : Tx} (h : s ∉ l) : place l s = -1 := if_neg h
theorem place_nonneg (l : List Tx) (s : Tx) : 0 ≤ place l s ↔ s ∈ l := by
  unfold place
  split
  · rename_i h; exact ⟨fun _ => h, fun _ => by omega⟩
  · rename_i h; exact ⟨fun e => by omega, fun e => absurd e h⟩
theorem place_neg (l : List Tx) (s : Tx) : place l s < 0 ↔ s ∉ l := by rw [← place_nonneg]; omega
theorem place_ge (l : List Tx) (s : Tx) : -1 ≤ place l s := by
  unfold place; split <;> omega
theorem place_lt (l : List Tx) (s : Tx) : place l s < l.length := by
  by_cases h : s ∈ l
  · obtain ⟨i, hi, e, _⟩ := place_mem h; omega
  · rw [place_not h]; omega
theorem idxOf_first : ∀ (l : List Tx) (s : Tx) (k : Nat) (hk : k < l.length), l[k] = s → (∀ j (h : j < k), l[j] ≠ s) → l.idxOf s = k
  | [], _, k, hk, _, _ => absurd hk (by simp)
  | x :: l, s, 0, _, e, _ => by simp at e; simp [e]
  | x :: l, s, k + 1, hk, e, hn => by
    have h0 : x ≠ s := hn 0 (by omega)
    have := idxOf_first l s k (by simpa using hk) (by simpa using e) (fun j hj => by have := hn (j + 1) (by omega); simpa using this)
    have hb : (x == s) = false := beq_eq_false_iff_ne.2 h0
    rw [List.idxOf_cons, this, hb]
    rfl
theorem place_first {l : List Tx} {s : Tx} {k : Nat} (hk : k < l.length) (e : l[k] = s) (hn : ∀ j (h : j < k), l[j] ≠ s) : place l s = k := by
  rw [place, if_pos (e ▸ List.getElem_mem hk), idxOf_first l s k hk e hn]
theorem place_none {l : List Tx} {s : Tx} (hn : ∀ j (h : j < l.length), l[j] ≠ s) : place l s = -1 :=
  place_not fun h => by obtain ⟨i, hi, e⟩ := List.getElem_of_mem h; exact hn i hi e
theorem nd_inj {l : List Tx} (hd : l.Nodup) {i j : Nat} {hi : i < l.length} {hj : j < l.length} (e : l[i] = l[j]) : i = j := by
  have h := List.pairwise_iff_getElem.1 hd
  rcases Nat.lt_trichotomy i j with h1 | h1 | h1
  · exact absurd e (h i j hi hj h1)
  · exact h1
  · exact absurd e.symm (h j i hj hi h1)
theorem place_at {l : List Tx} (hd : l.Nodup) {i : Nat} (hi : i < l.length) : place l l[i] = i :=
  place_first hi rfl fun j hj e => absurd (nd_inj hd e) (by omega)
theorem place_left {l : List Tx} (m : List Tx) {s : Tx} (h : s ∈ l) : place (l ++ m) s = place l s := by
  rw [place, place, if_pos h, if_pos (List.mem_append_left _ h), List.idxOf_append, if_pos h]
theorem place_right {l m : List Tx} {s : Tx} (h : s ∉ l) (h' : s ∈ m) : place (l ++ m) s = l.length + place m s := by
  rw [place, place, if_pos h', if_pos (List.mem_append_right _ h'), List.idxOf_append, if_neg h]
  omega
theorem place_snoc_other {l : List Tx} {q s : Tx} (h : s ≠ q) : place (l ++ [q]) s = place l s := by
  by_cases hs : s ∈ l
  · exact place_left _ hs
  · rw [place_not hs, place_not]
    intro e
    rcases List.mem_append.1 e with e | e
    · exact hs e
    · exact h (by simpa using e)
theorem place_snoc_same {l : List Tx} {q : Tx} (h : q ∉ l) : place (l ++ [q]) q = l.length := by
  rw [place_right h (by simp)]
  have : place [q] q = (0 : Nat) := place_first (l := [q]) (k := 0) (by simp) rfl (fun j hj => by omega)
  rw [this]; simp
/-- A tree's beginnings, in the order of their numbers. -/
structure Wf (ps : List Tx) : Prop where
  nodup : ps.Nodup
  root : ps[0]? = some []
  up : ∀ i (h : i < ps.length), ps[i] ≠ [] → ∃ j, ∃ hj : j < i, ps[j] = ps[i].dropLast
theorem wf_root : Wf [[]] := ⟨by simp, rfl, fun i h hn => by
  obtain rfl : i = 0 := by simp at h; omega
  exact absurd rfl hn⟩
theorem Wf.pos {ps : List Tx} (h : Wf ps) : 0 < ps.length := by
  have := h.root
  rw [List.getElem?_eq_some_iff] at this
  exact this.1
theorem Wf.at0 {ps : List Tx} (h : Wf ps) : ps[0]'h.pos = [] := by
  have := h.root
  rw [List.getElem?_eq_getElem h.pos] at this
  exact Option.some.inj this
theorem Wf.nil_mem {ps : List Tx} (h : Wf ps) : [] ∈ ps := by
  have := List.getElem_mem h.pos
  rwa [h.at0] at this
theorem Wf.nil_iff {ps : List Tx} (h : Wf ps) {i : Nat} (hi : i < ps.length) : ps[i] = [] ↔ i = 0 := by
  constructor
  · intro e
    have := h.at0
    rw [← e] at this
    exact (nd_inj h.nodup this).symm
  · rintro rfl; exact h.at0
theorem Wf.closed {ps : List Tx} (h : Wf ps) {p : Tx} {c : UInt8} (hm : p ++ [c] ∈ ps) : p ∈ ps := by
  obtain ⟨i, hi, e⟩ := List.getElem_of_mem hm
  obtain ⟨j, hj, e2⟩ := h.up i hi (by rw [e]; simp)
  rw [e, List.dropLast_concat] at e2
  rw [← e2]
  exact List.getElem_mem _
theorem Wf.closed_drop {ps : List Tx} (h : Wf ps) {p : Tx} (hm : p ∈ ps) (hn : p ≠ []) : p.dropLast ∈ ps := by
  apply h.closed (c := p.getLast hn)
  rw [List.dropLast_concat_getLast]; exact hm
theorem Wf.closed_take {ps : List Tx} (h : Wf ps) {p q : Tx} (hm : p ++ q ∈ ps) : p ∈ ps := by
  induction q generalizing p with
  | nil => simpa using hm
  | cons c q ih =>
    have := ih (p := p ++ [c]) (by simpa using hm)
    exact h.closed this
theorem Wf.snoc {ps : List Tx} (h : Wf ps) {p : Tx} {c : UInt8} (hp : p ∈ ps) (hq : p ++ [c] ∉ ps) : Wf (ps ++ [p ++ [c]]) := by
  refine ⟨?_, ?_, fun i hi hn => ?_⟩
  · rw [List.nodup_append]
    refine ⟨h.nodup, by simp, fun a ha b hb e => ?_⟩
    have : b = p ++ [c] := by simpa using hb
    exact hq (by rw [← this, ← e]; exact ha)
  · rw [List.getElem?_append_left h.pos]; exact h.root
  · by_cases hlt : i < ps.length
    · rw [List.getElem_append_left hlt] at hn
      obtain ⟨j, hj, e⟩ := h.up i hlt hn
      refine ⟨j, hj, ?_⟩
      rw [List.getElem_append_left hlt, List.getElem_append_left (by omega)]
      exact e
    · obtain rfl : i = ps.length := by simp at hi; omega
      obtain ⟨j, hj, e⟩ := List.getElem_of_mem hp
      refine ⟨j, hj, ?_⟩
      rw [List.getElem_append_left hj, e, List.getElem_append_right (by omega)]
      simp
/-- One beginning more, unless it is there. -/
def addp (ps : List Tx) (q : Tx) : List Tx := if q ∈ ps then ps else ps ++ [q]
/-- A text's beginnings of up to k bytes more. -/
def growTo (ps : List Tx) (x : Tx) : Nat → List Tx
  | 0 => ps
  | k + 1 => addp (growTo ps x k) (x.take (k + 1))
def grow (ps : List Tx) (x : Tx) : List Tx := growTo ps x x.length
/-- All beginnings of texts. -/
def paths (l : List Tx) : List Tx := l.foldl grow [[]]
theorem paths_snoc (l : List Tx) (x : Tx) : paths (l ++ [x]) = grow (paths l) x := by simp [paths, List.foldl_append]
theorem paths_take (l : List Tx) (k : Nat) (h : k < l.length) : paths (l.take (k + 1)) = grow (paths (l.take k)) l[k] := by
  rw [List.take_succ_eq_append_getElem h, paths_snoc]
theorem growTo_wf {ps : List Tx} (h : Wf ps) (x : Tx) : ∀ k, k ≤ x.length → Wf (growTo ps x k) ∧ x.take k ∈ growTo ps x k
  | 0, _ => ⟨h, by simpa [growTo] using h.nil_mem⟩
  | k + 1, hk => by
    obtain ⟨h1, h2⟩ := growTo_wf h x k (by omega)
    unfold growTo addp
    split
    · rename_i hm; exact ⟨h1, hm⟩
    · rename_i hm
      refine ⟨?_, by simp⟩
      rw [List.take_succ_eq_append_getElem (by omega)] at hm ⊢
      exact h1.snoc h2 hm
theorem growTo_sub (ps : List Tx) (x : Tx) : ∀ k, ∃ m, growTo ps x k = ps ++ m ∧ m.length ≤ k ∧ ∀ q ∈ m, ∃ j, q = x.take j
  | 0 => ⟨[], by simp [growTo], by simp, fun q hq => by cases hq⟩
  | k + 1 => by
    obtain ⟨m, e, hl, hm⟩ := growTo_sub ps x k
    unfold growTo addp
    split
    · exact ⟨m, e, by omega, hm⟩
    · refine ⟨m ++ [x.take (k + 1)], by rw [e]; simp, by simp; omega, fun q hq => ?_⟩
      rcases List.mem_append.1 hq with hq | hq
      · exact hm q hq
      · exact ⟨k + 1, by simpa using hq⟩
theorem grow_mem (ps : List Tx) (h : Wf ps) (x : Tx) : x ∈ grow ps x := by
  have := (growTo_wf h x x.length (Nat.le_refl _)).2
  rwa [List.take_length] at this
theorem paths_wf : ∀ l : List Tx, Wf (paths l) := fun l => by
  unfold paths
  suffices ∀ ps, Wf ps → Wf (l.foldl grow ps) from this _ wf_root
  induction l with
  | nil => exact fun ps h => h
  | cons x l ih => exact fun ps h => ih _ (growTo_wf h x x.length (Nat.le_refl _)).1
theorem fold_sub (l : List Tx) (ps : List Tx) : ∃ m, l.foldl grow ps = ps ++ m := by
  induction l generalizing ps with
  | nil => exact ⟨[], by simp⟩
  | cons x l ih =>
    obtain ⟨m1, e1, _⟩ := growTo_sub ps x x.length
    obtain ⟨m2, e2⟩ := ih (grow ps x)
    exact ⟨m1 ++ m2, by rw [List.foldl_cons, e2, grow, e1, List.append_assoc]⟩
theorem paths_append (l m : List Tx) : ∃ z, paths (l ++ m) = paths l ++ z := by
  unfold paths
  rw [List.foldl_append]
  exact fold_sub m _
/-- How many bytes texts have. -/
def tot (l : List Tx) : Nat := (l.map List.length).sum
theorem tot_snoc (l : List Tx) (x : Tx) : tot (l ++ [x]) = tot l + x.length := by simp [tot]
theorem tot_take (l : List Tx) (k : Nat) (h : k < l.length) : tot (l.take (k + 1)) = tot (l.take k) + l[k].length := by
  rw [List.take_succ_eq_append_getElem h, tot_snoc]
theorem tot_append (l m : List Tx) : tot (l ++ m) = tot l + tot m := by simp [tot]
theorem tot_take_le (l : List Tx) (k : Nat) : tot (l.take k) ≤ tot l := by
  have := tot_append (l.take k) (l.drop k)
  rw [List.take_append_drop] at this
  omega
theorem tot_le (l : List Tx) (b : Nat) (h : ∀ x ∈ l, x.length ≤ b) : tot l ≤ l.length * b := by
  induction l with
  | nil => simp [tot]
  | cons x l ih =>
    have h1 := h x (by simp)
    have h2 := ih fun y hy => h y (by simp [hy])
    have e : tot (x :: l) = x.length + tot l := by simp [tot]
    rw [e, List.length_cons, Nat.add_mul]
    omega
theorem paths_len (l : List Tx) : (paths l).length ≤ 1 + tot l := by
  unfold paths
  suffices ∀ ps : List Tx, (l.foldl grow ps).length ≤ ps.length + tot l from by have := this [[]]; simpa [Nat.add_comm] using this
  induction l with
  | nil => exact fun ps => by simp [tot]
  | cons x l ih =>
    intro ps
    obtain ⟨m, e, hm, _⟩ := growTo_sub ps x x.length
    have h1 := ih (grow ps x)
    have e2 : tot (x :: l) = x.length + tot l := by simp [tot]
    rw [List.foldl_cons, e2]
    rw [grow, e, List.length_append] at h1
    rw [grow, e]
    omega
theorem paths_sub (l : List Tx) : ∀ x ∈ l, x ∈ paths l := by
  unfold paths
  suffices ∀ ps, Wf ps → ∀ x ∈ l, x ∈ l.foldl grow ps from this _ wf_root
  induction l with
  | nil => exact fun ps _ x hx => by cases hx
  | cons y l ih =>
    intro ps h x hx
    have hw := (growTo_wf h y y.length (Nat.le_refl _)).1
    rcases List.mem_cons.1 hx with rfl | hx
    · obtain ⟨m, e⟩ := fold_sub l (grow ps x)
      rw [List.foldl_cons, e]
      exact List.mem_append_left _ (grow_mem ps h x)
    · exact ih _ hw x hx
theorem paths_mem (l : List Tx) (p : Tx) : p ∈ paths l ↔ p = [] ∨ ∃ x ∈ l, ∃ q, p ++ q = x := by
  constructor
  · unfold paths
    suffices ∀ ps : List Tx, p ∈ l.foldl grow ps → p ∈ ps ∨ ∃ x ∈ l, ∃ q, p ++ q = x from fun h => (this [[]] h).imp (by simp) id
    induction l with
    | nil => exact fun ps h => .inl h
    | cons y l ih =>
      intro ps h
      rcases ih _ h with h | ⟨x, hx, q, e⟩
      · obtain ⟨m, e, _, hm⟩ := growTo_sub ps y y.length
        rw [grow, e] at h
        rcases List.mem_append.1 h with h | h
        · exact .inl h
        · obtain ⟨j, rfl⟩ := hm p h
          exact .inr ⟨y, by simp, y.drop j, List.take_append_drop j y⟩
      · exact .inr ⟨x, by simp [hx], q, e⟩
  · rintro (rfl | ⟨x, hx, q, rfl⟩)
    · exact (paths_wf l).nil_mem
    · exact (paths_wf l).closed_take (paths_sub l _ hx)
/-- The beginning that a number stands for. -/
def pathOf (ps : List Tx) (n : Int) : Option Tx := if 0 ≤ n then ps[n.toNat]? else none
theorem pathOf_at {ps : List Tx} {i : Nat} (h : i < ps.length) : pathOf ps (i : Int) = some ps[i] := by
  unfold pathOf
  rw [if_pos (by omega)]
  simp [h]
theorem pathOf_some {ps : List Tx} {n : Int} {p : Tx} (h : pathOf ps n = some p) : ∃ i, ∃ hi : i < ps.length, n = (i : Int) ∧ ps[i] = p := by
  unfold pathOf at h
  split at h
  · rename_i h0
    obtain ⟨hi, e⟩ := List.getElem?_eq_some_iff.1 h
    exact ⟨n.toNat, hi, by omega, e⟩
  · cases h
theorem pathOf_none {ps : List Tx} {n : Int} (h : ¬ (0 ≤ n ∧ n < ps.length)) : pathOf ps n = none := by
  unfold pathOf
  split
  · rw [List.getElem?_eq_none (by omega)]
  · rfl
/-- What a tree tells of a number. -/
def stepOf (ps : List Tx) (n : Int) (c : UInt8) : Int := match pathOf ps n with | some p => place ps (p ++ [c]) | none => -1
def pathD (ps : List Tx) (n : Int) : Tx := (pathOf ps n).getD []
def upOf (ps : List Tx) (n : Int) : Int := match pathOf ps n with | some p => (if p = [] then -1 else place ps p.dropLast) | none => -1
def wordOf (ps l : List Tx) (n : Int) : Int := match pathOf ps n with | some p => place l p | none => -1
theorem stepOf_at {ps : List Tx} {i : Nat} (h : i < ps.length) (c : UInt8) : stepOf ps (i : Int) c = place ps (ps[i] ++ [c]) := by rw [stepOf, pathOf_at h]
theorem pathD_at {ps : List Tx} {i : Nat} (h : i < ps.length) : pathD ps (i : Int) = ps[i] := by rw [pathD, pathOf_at h]; rfl
theorem upOf_at {ps : List Tx} {i : Nat} (h : i < ps.length) : upOf ps (i : Int) = if ps[i] = [] then -1 else place ps ps[i].dropLast := by rw [upOf, pathOf_at h]
theorem wordOf_at {ps : List Tx} (l : List Tx) {i : Nat} (h : i < ps.length) : wordOf ps l (i : Int) = place l ps[i] := by rw [wordOf, pathOf_at h]
theorem stepOf_ge (ps : List Tx) (n : Int) (c : UInt8) : -1 ≤ stepOf ps n c := by
  unfold stepOf; split
  · exact place_ge _ _
  · omega
theorem stepOf_lt (ps : List Tx) (n : Int) (c : UInt8) : stepOf ps n c < 0 ∨ stepOf ps n c < ps.length := by
  unfold stepOf; split
  · exact .inr (place_lt _ _)
  · exact .inl (by omega)
/-- One beginning more: a step more. -/
theorem stepOf_snoc {ps : List Tx} (h : Wf ps) {i : Nat} (hi : i < ps.length) {c : UInt8} (hq : ps[i] ++ [c] ∉ ps) (s : Int) (d : UInt8) :
    stepOf (ps ++ [ps[i] ++ [c]]) s d = if (i : Int) = s ∧ c = d then (ps.length : Int) else stepOf ps s d := by
  by_cases hs : 0 ≤ s ∧ s < ps.length
  · obtain ⟨j, rfl⟩ : ∃ j : Nat, s = (j : Int) := ⟨s.toNat, by omega⟩
    have hj : j < ps.length := by omega
    rw [stepOf_at hj, stepOf_at (by simp; omega), List.getElem_append_left hj]
    by_cases e : ps[j] ++ [d] = ps[i] ++ [c]
    · obtain ⟨e1, e2⟩ := List.append_inj' e rfl
      have e3 : j = i := nd_inj h.nodup e1
      have e4 : d = c := by simpa using e2
      subst e3; subst e4
      rw [if_pos ⟨rfl, rfl⟩, place_snoc_same hq]
    · rw [place_snoc_other e, if_neg]
      rintro ⟨e1, rfl⟩
      have e1 : i = j := by omega
      subst e1
      exact e rfl
  · rw [if_neg (fun e => hs (by omega))]
    have e0 : stepOf ps s d = -1 := by rw [stepOf, pathOf_none hs]
    rw [e0]
    by_cases hs2 : s = ps.length
    · subst hs2
      rw [stepOf_at (by simp), List.getElem_append_right (by omega)]
      simp only [Nat.sub_self, List.getElem_cons_zero]
      apply place_not
      intro e
      rcases List.mem_append.1 e with e | e
      · exact hq (h.closed e)
      · simp at e
    · rw [stepOf, pathOf_none]
      simp; omega
/-- What is kept of a node. -/
structure Nd where
  up : Int
  last : UInt8
  deep : Nat
  word : Int
def ndOf (ps l : List Tx) (p : Tx) : Nd := ⟨if p = [] then -1 else place ps p.dropLast, p.getLastD 0, p.length, place l p⟩
def nds (ps l : List Tx) : List Nd := ps.map (ndOf ps l)
theorem nds_length (ps l : List Tx) : (nds ps l).length = ps.length := by simp [nds]
theorem nds_at (ps l : List Tx) (i : Nat) (h : i < ps.length) : (nds ps l)[i]'(by rw [nds_length]; exact h) = ndOf ps l ps[i] := by simp [nds]
theorem nds_root : nds [[]] [] = [⟨-1, 0, 0, -1⟩] := by simp [nds, ndOf, place]
theorem nds_snoc {ps : List Tx} (h : Wf ps) {l : List Tx} (hl : ∀ x ∈ l, x ∈ ps) {i : Nat} (hi : i < ps.length) {c : UInt8} (hq : ps[i] ++ [c] ∉ ps) :
    nds (ps ++ [ps[i] ++ [c]]) l = nds ps l ++ [⟨(i : Int), c, ps[i].length + 1, -1⟩] := by
  unfold nds
  rw [List.map_append]
  congr 1
  · apply List.map_congr_left
    intro p hp
    unfold ndOf
    by_cases hn : p = []
    · simp [hn]
    · rw [if_neg hn, if_neg hn, place_left _ (h.closed_drop hp hn)]
  · have e : place (ps ++ [ps[i] ++ [c]]) ps[i] = i := by rw [place_left _ (List.getElem_mem hi), place_at h.nodup hi]
    have e2 : place l (ps[i] ++ [c]) = -1 := place_not fun e => hq (hl _ e)
    simp [ndOf, e, e2]
/-- A text more: its node's word, if there was none. -/
theorem nds_word {ps : List Tx} (h : Wf ps) {l : List Tx} {x : Tx} {i : Nat} (hi : i < ps.length) (e : ps[i] = x) :
    nds ps (l ++ [x]) = if x ∈ l then nds ps l else (nds ps l).set i ⟨(ndOf ps l x).up, (ndOf ps l x).last, (ndOf ps l x).deep, (l.length : Int)⟩ := by
  split
  · rename_i hx
    unfold nds
    apply List.map_congr_left
    intro p hp
    unfold ndOf
    by_cases hpx : p = x
    · subst hpx; rw [place_left _ hx]
    · rw [place_snoc_other hpx]
  · rename_i hx
    apply List.ext_getElem
    · simp [nds]
    · intro j h1 h2
      rw [nds_length] at h1
      rw [List.getElem_set, nds_at _ _ j h1]
      split
      · rename_i hij
        subst hij
        rw [e]
        unfold ndOf
        rw [place_snoc_same hx]
      · rename_i hij
        rw [nds_at _ _ j h1]
        have hne : ps[j] ≠ x := fun e2 => hij (nd_inj h.nodup (e.trans e2.symm))
        unfold ndOf
        rw [place_snoc_other hne]
end Go.Proofs.YtcbhjhhajeeimaaGreat.Tri
/- Texts, strings, nodes and edges in memory. -/
namespace Go.Proofs.YtcbhjhhajeeimaaGreat.Tri
open Go.RowKit Go.Maps
set_option maxRecDepth 100000

theorem und3 : Tryz.prog.underlying 3 = some (.int .i64) := by kernel_rfl
theorem info9 : (Tryz.prog.info? 9).map (fun i => (i.zero, i.size, i.bytes)) = some (some (.string ByteArray.empty), 1, 16) := by kernel_rfl
theorem info32 : (Tryz.prog.info? 23).map (fun i => (i.zero, i.size, i.bytes)) = some (some (.slice none 0 0), 1, 24) := by kernel_rfl
theorem info44 : (Tryz.prog.info? 130).map (fun i => (i.zero, i.size, i.bytes)) = some (some (.agg #[.int .i64 0, .int .u8 0, .int .i64 0, .int .i64 0]), 4, 32) := by kernel_rfl
theorem cell_same {W W' : World} {b o : Nat} (e : W'.heap[b]? = W.heap[b]?) : W'.cell? ⟨b, o, none⟩ = W.cell? ⟨b, o, none⟩ := by
  unfold World.cell?
  rw [e]
theorem cell_lt0 {w : World} {b o : Nat} {v : Value} (h : w.cell? ⟨b, o, none⟩ = some v) : b < w.heap.size := by
  rcases Nat.lt_or_ge b w.heap.size with hlt | hge
  · exact hlt
  · unfold World.cell? at h
    simp only [Array.getElem?_eq_none hge] at h
    cases h
theorem add_at (b off i : Nat) : (⟨b, off, none⟩ : Addr).add i = ⟨b, off + i, none⟩ := by unfold Addr.add; split <;> simp_all

/-- A slice of strings that reads as xs. -/
def Ss (W : World) (a : Option Addr) (xs : List (List UInt8)) : Prop :=
  0 < xs.length → ∃ b off, a = some ⟨b, off, none⟩ ∧ b < W.heap.size ∧ ∀ i (h : i < xs.length), W.cell? ⟨b, off + i, none⟩ = some (.string (str xs[i]))
theorem ss_nil (w : World) (a : Option Addr) : Ss w a [] := fun h => absurd h (by simp)
theorem Ss.keep {W W' : World} {a : Option Addr} {xs : List (List UInt8)} (h : Ss W a xs) (hb : Below W.heap.size W W') : Ss W' a xs := fun h0 => by
  obtain ⟨b, off, e, hlt, hc⟩ := h h0
  exact ⟨b, off, e, Nat.lt_of_lt_of_le hlt hb.size, fun i hi => (hb.cell (p := ⟨b, _, none⟩) hlt).trans (hc i hi)⟩
/-- Strings, one behind the other. -/
def svals (xs : List (List UInt8)) : List Value := xs.map fun x => Value.string (str x)
theorem svals_snoc (xs : List (List UInt8)) (x : List UInt8) : svals (xs ++ [x]) = svals xs ++ [.string (str x)] := by simp [svals]
theorem svals_one (xs : List (List UInt8)) : ∀ v ∈ svals xs, v.oneCell' = true := by
  intro v hv
  simp only [svals, List.mem_map] at hv
  obtain ⟨c, _, rfl⟩ := hv
  rfl
theorem own_ss {w : World} {base n : Nat} {v : Value} {xs : List (List UInt8)} (h : w.ownsRow base 9 1 v n (svals xs)) : ∃ a cap, v = .slice a xs.length cap ∧ Ss w a xs ∧ xs.length ≤ cap ∧ (a = none → cap = 0) := by
  have hn : xs.length = n := by have := h.1; simpa [svals] using this
  rcases h.2 with ⟨rfl, h0⟩ | ⟨g, cap, cur, rfl, hg, hh, hnc, _, hs, ht⟩
  · exact ⟨none, 0, by rw [hn, h0], (fun h1 => by omega), by omega, fun _ => rfl⟩
  · refine ⟨some ⟨g, 0, none⟩, cap, by rw [hn], fun _ => ⟨g, 0, rfl, txt_lt hh, fun i hi => ?_⟩, by omega, fun e => by cases e⟩
    have e : (cur.toList.take (n * 1))[i]? = (svals xs)[i]? := by rw [ht]
    rw [List.getElem?_take_of_lt (by omega), Array.getElem?_toList] at e
    rw [Nat.zero_add, cell_of_row w g _ _ 9 (0, 0) hh, e]
    simp [svals, hi]
theorem cell_new1 (w : World) (u : Value) (t : TypeId) : ∀ j x, [u][j]? = some x → (w.alloc (.cells #[u] t)).cell? ((⟨w.heap.size, 0, none⟩ : Addr).add j) = some x := by
  intro j x h
  have ea : (⟨w.heap.size, 0, none⟩ : Addr).add j = ⟨w.heap.size, j, none⟩ := by unfold Addr.add; split <;> simp_all
  rw [ea, cell_of_row _ w.heap.size _ _ t (0, 0) (heap_alloc_new w _)]
  simpa using h
/-- A string appended to a row of the call's own. -/
theorem app_ss {w : World} {ops : Array Oper} {rest : List Oper} {o : Oper} {a : Act} {Q : Exit → Act → World → Prop} (hgd : o.guard = none) (s x : Operand)
    (ho : o.op = .call { callee := .builtin .append, args := #[s, x], argTypes := #[25, 25] })
    (base : Nat) (v : Value) (n : Nat) (xs : List (List UInt8)) (y : List UInt8) (hs : a.eval s = v) (hown : w.ownsRow base 9 1 v n (svals xs))
    (ad : Addr) (hx : a.eval x = .slice (some ad) 1 1) (hc : ∀ j u, [Value.string (str y)][j]? = some u → w.cell? (ad.add j) = some u)
    (hn : n ≤ 6000000000000) (hbase : base ≤ w.heap.size)
    (h : ∀ v' w', w'.ownsRow base 9 1 v' (n + 1) (svals (xs ++ [y])) → w.grownBy w' v.ownBlock → wpList Tryz.prog ops Q rest (a.put o.dst v') w') : wpList Tryz.prog ops Q (o :: rest) a w := by
  obtain ⟨i0, hi, hz0, hz1, hz2⟩ := info_parts info9
  rw [svals_snoc] at h
  exact wpList_append_own w hgd s x 25 ho base 9 i0 (.string ByteArray.empty) 1 16 Tryz.underlying25 hi hz0 hz1 hz2 rfl (by decide) v n (svals xs) hs hown ad 1 1 [.string (str y)] hx rfl hc (by simp [Value.oneCell']) (by unfold maxLen; omega) (by omega) hbase (fun v' w' h1 h2 _ => h v' w' h1 h2)

/-- Slices of bytes, one behind the other. -/
def tvals (xs : List TxV) : List Value := xs.map fun x => Value.slice x.a x.text.length x.cap
theorem tvals_snoc (xs : List TxV) (x : TxV) : tvals (xs ++ [x]) = tvals xs ++ [.slice x.a x.text.length x.cap] := by simp [tvals]
theorem own_ts {w : World} {base n : Nat} {v : Value} {xs : List TxV} (h : w.ownsRow base 23 1 v n (tvals xs)) (ht : ∀ x ∈ xs, Bs w w.heap.size x.a x.text) : ∃ a cap, v = .slice a xs.length cap ∧ Ts w a xs ∧ xs.length ≤ cap ∧ (a = none → cap = 0) := by
  have hn : xs.length = n := by have := h.1; simpa [tvals] using this
  rcases h.2 with ⟨rfl, h0⟩ | ⟨g, cap, cur, rfl, hg, hh, hnc, _, hs, htk⟩
  · exact ⟨none, 0, by rw [hn, h0], ⟨(fun h1 => by omega), ht⟩, by omega, fun _ => rfl⟩
  · refine ⟨some ⟨g, 0, none⟩, cap, by rw [hn], ⟨fun _ => ⟨g, 0, rfl, txt_lt hh, fun i hi => ?_⟩, ht⟩, by omega, fun e => by cases e⟩
    have e : (cur.toList.take (n * 1))[i]? = (tvals xs)[i]? := by rw [htk]
    rw [List.getElem?_take_of_lt (by omega), Array.getElem?_toList] at e
    rw [Nat.zero_add, cell_of_row w g _ _ 23 (0, 0) hh, e]
    simp [tvals, hi]
theorem tvals_append (xs ys : List TxV) : tvals (xs ++ ys) = tvals xs ++ tvals ys := by simp [tvals]
theorem tvals_length (xs : List TxV) : (tvals xs).length = xs.length := by simp [tvals]
theorem tvals_one (xs : List TxV) : ∀ v ∈ tvals xs, v.oneCell' = true := by
  intro v hv
  simp only [tvals, List.mem_map] at hv
  obtain ⟨c, _, rfl⟩ := hv
  rfl
/-- A text appended to a row of the call's own. -/
theorem app_ts {w : World} {ops : Array Oper} {rest : List Oper} {o : Oper} {a : Act} {Q : Exit → Act → World → Prop} (hgd : o.guard = none) (s x : Operand)
    (ho : o.op = .call { callee := .builtin .append, args := #[s, x], argTypes := #[22, 22] })
    (base : Nat) (v : Value) (n : Nat) (xs : List TxV) (y : TxV) (hs : a.eval s = v) (hown : w.ownsRow base 23 1 v n (tvals xs))
    (ad : Addr) (hx : a.eval x = .slice (some ad) 1 1) (hc : ∀ j u, [Value.slice y.a y.text.length y.cap][j]? = some u → w.cell? (ad.add j) = some u)
    (hn : n ≤ 1000000000) (hbase : base ≤ w.heap.size)
    (h : ∀ v' w', w'.ownsRow base 23 1 v' (n + 1) (tvals (xs ++ [y])) → w.grownBy w' v.ownBlock → wpList Tryz.prog ops Q rest (a.put o.dst v') w') : wpList Tryz.prog ops Q (o :: rest) a w := by
  obtain ⟨i0, hi, hz0, hz1, hz2⟩ := info_parts info32
  rw [tvals_snoc] at h
  exact wpList_append_own w hgd s x 22 ho base 23 i0 (.slice none 0 0) 1 24 Tryz.underlying22 hi hz0 hz1 hz2 rfl (by decide) v n (tvals xs) hs hown ad 1 1 [.slice y.a y.text.length y.cap] hx rfl hc (by simp [Value.oneCell']) (by unfold maxLen; omega) (by omega) hbase (fun v' w' h1 h2 _ => h v' w' h1 h2)

/-- Texts appended to a row of the call's own. -/
theorem app_tsl {w : World} {ops : Array Oper} {rest : List Oper} {o : Oper} {a : Act} {Q : Exit → Act → World → Prop} (hgd : o.guard = none) (s x : Operand)
    (ho : o.op = .call { callee := .builtin .append, args := #[s, x], argTypes := #[22, 22] })
    (base : Nat) (v : Value) (n : Nat) (xs : List TxV) (hs : a.eval s = v) (hown : w.ownsRow base 23 1 v n (tvals xs))
    (A : Option Addr) (l : List TxV) (c : Nat) (hx : a.eval x = .slice A l.length c) (hb : Ts w A l) (hnil : A = none → c = 0)
    (hn : n + l.length ≤ 1000000000) (hbase : base ≤ w.heap.size)
    (h : ∀ v' w', w'.ownsRow base 23 1 v' (n + l.length) (tvals (xs ++ l)) → w.grownBy w' v.ownBlock → wpList Tryz.prog ops Q rest (a.put o.dst v') w') : wpList Tryz.prog ops Q (o :: rest) a w := by
  obtain ⟨i0, hi, hz0, hz1, hz2⟩ := info_parts info32
  rw [tvals_append] at h
  cases A with
  | none =>
    have hl : l = [] := by
      rcases Nat.eq_zero_or_pos l.length with h0 | h0
      · exact List.eq_nil_of_length_eq_zero h0
      · obtain ⟨_, _, e, _⟩ := hb.1 h0; cases e
    subst hl
    rw [hnil rfl] at hx
    refine wpList_append_own_none hgd s x 22 ho base 23 i0 1 Tryz.underlying22 hi v n (tvals xs) hs hown hx (h v w ?_ (World.grownBy.refl w _))
    simpa [tvals] using hown
  | some ad =>
    refine wpList_append_own w hgd s x 22 ho base 23 i0 (.slice none 0 0) 1 24 Tryz.underlying22 hi hz0 hz1 hz2 rfl (by decide) v n (tvals xs) hs hown ad l.length c (tvals l) hx (by simp [tvals]) ?_ (tvals_one l) (by unfold maxLen; omega) (by omega) hbase (fun v' w' h1 h2 _ => h v' w' h1 h2)
    intro j u hj
    have hjl : j < l.length := by
      have := (List.getElem?_eq_some_iff.1 hj).1
      simpa [tvals] using this
    obtain ⟨b, off, e, _, hc⟩ := hb.1 (by omega)
    obtain rfl := Option.some.inj e
    rw [add_at, hc j hjl]
    simpa [tvals, hjl] using hj

/-- A block of two cells that is known whole. -/
def Blk2 (w : World) (g : Nat) (t : TypeId) (u0 u1 : Value) : Prop := w.heap[g]? = some (.cells #[u0, u1] t (0, 0))
theorem Blk2.lt {w : World} {g : Nat} {t : TypeId} {u0 u1 : Value} (h : Blk2 w g t u0 u1) : g < w.heap.size := txt_lt h
theorem Blk2.new (w : World) (t : TypeId) (u0 u1 : Value) : Blk2 (w.alloc (.cells #[u0, u1] t)) w.heap.size t u0 u1 := heap_alloc_new w _
theorem Blk2.same {w w' : World} {g : Nat} {t : TypeId} {u0 u1 : Value} (h : Blk2 w g t u0 u1) (e : w'.heap[g]? = w.heap[g]?) : Blk2 w' g t u0 u1 := e.trans h
theorem Blk2.keep {w w' : World} {B g : Nat} {t : TypeId} {u0 u1 : Value} (h : Blk2 w g t u0 u1) (hb : Below B w w') (hg : g < B) : Blk2 w' g t u0 u1 := (hb.block g hg).trans h
theorem Blk2.alloc {w : World} {g : Nat} {t : TypeId} {u0 u1 : Value} (h : Blk2 w g t u0 u1) (o : Obj) : Blk2 (w.alloc o) g t u0 u1 := h.same (Below.heap_alloc w o g h.lt)
theorem Blk2.grown {w w' : World} {row : Option Nat} {g : Nat} {t : TypeId} {u0 u1 : Value} (h : Blk2 w g t u0 u1) (hg : w.grownBy w' row) (hne : some g ≠ row) : Blk2 w' g t u0 u1 := h.same (hg.block g h.lt hne)
theorem Blk2.cells {w : World} {g : Nat} {t : TypeId} {u0 u1 : Value} (h : Blk2 w g t u0 u1) : w.cell? ⟨g, 0, none⟩ = some u0 ∧ w.cell? ⟨g, 1, none⟩ = some u1 := by
  unfold Blk2 at h
  refine ⟨?_, ?_⟩ <;> (rw [cell_of_row w g _ _ t (0, 0) h]; rfl)
theorem Blk2.free {w : World} {g : Nat} {t : TypeId} {u0 u1 : Value} (h : Blk2 w g t u0 u1) : w.frozen? ⟨g, 0, none⟩ = false ∧ w.frozen? ⟨g, 1, none⟩ = false := by
  unfold Blk2 at h
  refine ⟨?_, ?_⟩ <;> simp [World.frozen?, h]
theorem Blk2.put0 {w : World} {g : Nat} {t : TypeId} {u0 u1 : Value} (h : Blk2 w g t u0 u1) (v : Value) : Blk2 (w.setCell ⟨g, 0, none⟩ v) g t v u1 := by
  unfold Blk2 at h ⊢; rw [heap_set_same h]; rfl
theorem Blk2.put1 {w : World} {g : Nat} {t : TypeId} {u0 u1 : Value} (h : Blk2 w g t u0 u1) (v : Value) : Blk2 (w.setCell ⟨g, 1, none⟩ v) g t u0 v := by
  unfold Blk2 at h ⊢; rw [heap_set_same h]; rfl
theorem Blk2.far {w : World} {g b i : Nat} {t : TypeId} {u0 u1 : Value} (h : Blk2 w g t u0 u1) (hne : g ≠ b) (v : Value) : Blk2 (w.setCell ⟨b, i, none⟩ v) g t u0 u1 := h.same (Below.heap_setCell w ⟨b, i, none⟩ v g hne)

theorem grown_set (W : World) (b i : Nat) (v : Value) : W.grownBy (W.setCell ⟨b, i, none⟩ v) (some b) :=
  ⟨rfl, rfl, rfl, by simp, fun k _ hk => Below.heap_setCell W ⟨b, i, none⟩ v k (fun e => hk (by rw [e]))⟩
theorem own_succ {W : World} {base : Nat} {e : TypeId} {size : Nat} {v : Value} {k : Nat} {xs : List Value} (h : W.ownsRow base e size v (k + 1) xs) : ∃ g cap, v = .slice (some ⟨g, 0, none⟩) (k + 1) cap := by
  rcases h.2 with ⟨_, h0⟩ | ⟨g, cap, cur, rfl, _⟩
  · omega
  · exact ⟨g, cap, rfl⟩
theorem own_far {w : World} {base e size n : Nat} {v : Value} {xs : List Value} (h : w.ownsRow base e size v n xs) (g : Nat) (hg : g < base) : some g ≠ v.ownBlock := fun q => by
  have := own_ge h q.symm
  omega
/-- A node's cells. -/
def ncells (r : Nd) : List Value := [.int .i64 r.up, .int .u8 (r.last.toNat : Int), .int .i64 (r.deep : Int), .int .i64 r.word]
def nvals (l : List Nd) : List Value := l.flatMap ncells
theorem nvals_length (l : List Nd) : (nvals l).length = l.length * 4 := by
  induction l with
  | nil => rfl
  | cons p l ih => simp only [nvals, List.flatMap_cons, List.length_append, List.length_cons] at ih ⊢; rw [ih]; simp [ncells]; omega
theorem nvals_append (l m : List Nd) : nvals (l ++ m) = nvals l ++ nvals m := by simp [nvals]
theorem nvals_at : ∀ (xs : List Nd) (i j : Nat), j < 4 → (h : i < xs.length) → (nvals xs)[i * 4 + j]? = (ncells xs[i])[j]?
  | [], i, j, _, h => absurd h (by simp)
  | x :: xs, 0, j, hj, _ => by
    unfold nvals
    rw [List.flatMap_cons, List.getElem?_append_left (by simp [ncells]; omega)]
    simp
  | x :: xs, i + 1, j, hj, h => by
    have h' : i < xs.length := by simpa using h
    unfold nvals
    rw [List.flatMap_cons, List.getElem?_append_right (by simp [ncells]; omega)]
    have e : (i + 1) * 4 + j - (ncells x).length = i * 4 + j := by simp [ncells]; omega
    rw [e]
    exact nvals_at xs i j hj h'
theorem nvals_one (l : List Nd) : ∀ v ∈ nvals l, v.oneCell' = true := by
  intro v hv
  simp only [nvals, List.mem_flatMap] at hv
  obtain ⟨p, _, hp⟩ := hv
  simp only [ncells, List.mem_cons, List.not_mem_nil, or_false] at hp
  rcases hp with rfl | rfl | rfl | rfl <;> rfl
theorem nvals_word : ∀ (xs : List Nd) (i : Nat) (h : i < xs.length) (x : Int), (nvals xs).set (i * 4 + 3) (.int .i64 x) = nvals (xs.set i ⟨xs[i].up, xs[i].last, xs[i].deep, x⟩)
  | [], i, h, _ => absurd h (by simp)
  | y :: xs, 0, _, x => by simp [nvals, ncells]
  | y :: xs, i + 1, h, x => by
    have h' : i < xs.length := by simpa using h
    have ih := nvals_word xs i h' x
    unfold nvals at ih ⊢
    rw [List.flatMap_cons, List.set_append_right _ _ (by simp [ncells]; omega)]
    have e : (i + 1) * 4 + 3 - (ncells y).length = i * 4 + 3 := by simp [ncells]; omega
    rw [e, ih]
    simp

theorem wf_u8 (c : UInt8) : (Lit.int .u8 (c.toNat : Int)).wf = true := by
  have := c.toNat_lt
  simp [Lit.wf, IntKind.min, IntKind.max, IntKind.bits, IntKind.signed]
  omega
theorem und47 : Tryz.prog.underlying 133 = some (.map 178 3) := by kernel_rfl
theorem laidOut' : laidOutB Tryz.prog = true := by kernel_rfl
theorem wide53 : (match Tryz.prog.underlying 178 with | some (.array _ _) | some (.struct _) => true | _ => false) = true := by kernel_rfl
theorem keyed : Keyed Tryz.prog 178 := Keyed.of_law (deep_law_laid laidOut' (m := 3) (by omega) (of_decide_eq_true (by kernel_rfl)) (by kernel_rfl) wide53)
theorem zero3 (w : World) : (zeroValue 3).run Tryz.prog w = .ok (.int .i64 0) w := by kernel_rfl
abbrev edge (s : Int) (c : UInt8) : Value := .agg #[.int .i64 s, .int .u8 (c.toNat : Int)]
theorem edge_inj {s s' : Int} {c c' : UInt8} (h : edge s c = edge s' c') : s = s' ∧ c = c' := by
  simp at h
  exact ⟨h.1, UInt8.toNat_inj.1 (by omega)⟩
theorem key_edge (s : Int) (c : UInt8) (hs : (Lit.int .i64 s).wf = true) : ∃ l, keyOf Tryz.prog 178 (edge s c) = some l := by
  have h2 : Tryz.prog.keyType 178 = true := by kernel_rfl
  have h3 : Tryz.prog.cellsOf 178 = 2 := by kernel_rfl
  have h4 : Tryz.prog.cellsOf 3 = 1 := by kernel_rfl
  have h5 : Tryz.prog.cellsOf 5 = 1 := by kernel_rfl
  have hc := wf_u8 c
  obtain ⟨m, hm⟩ : ∃ m, Tryz.prog.types.size = m + 1 := ⟨Tryz.prog.types.size - 1, by have : 0 < Tryz.prog.types.size := of_decide_eq_true (by kernel_rfl); omega⟩
  refine ⟨.string (keyBytes [.int .i64 s, .int .u8 (c.toNat : Int)]), ?_⟩
  unfold keyOf
  simp only [Tryz.underlying178]
  rw [if_pos (by simp [h2, Value.formed, Tryz.underlying178, h3]), hm]
  unfold Program.keyLits
  simp only [Tryz.underlying178, Value.cells]
  simp [h3, h4, h5, Program.keyLits, hs, hc]
/-- Block g is a map of at most n entries that tells the steps f; -1: none. -/
def MapT (w : World) (g n : Nat) (f : Int → UInt8 → Int) : Prop :=
  ∃ D : DataW Unit, w.ownsMap Tryz.prog 178 (plainElem Tryz.prog 3) g n D ∧ IsMap D ∧ ∀ s c k, keyOf Tryz.prog 178 (edge s c) = some k → Maps.has D k = decide (0 ≤ f s c) ∧ (0 ≤ f s c → D.atKey k (.lit (.int .i64 0)) = .lit (.int .i64 (f s c)))
theorem MapT.lt {w : World} {g n : Nat} {f : Int → UInt8 → Int} (h : MapT w g n f) : g < w.heap.size := by
  obtain ⟨D, h1, _⟩ := h; exact h1.lt
theorem MapT.same {w w' : World} {g n : Nat} {f : Int → UInt8 → Int} (h : MapT w g n f) (e : w'.heap[g]? = w.heap[g]?) : MapT w' g n f := by
  obtain ⟨D, ⟨es, clock, hb, F, hs, hD⟩, h2⟩ := h
  exact ⟨D, ⟨es, clock, e.trans hb, F, hs, hD⟩, h2⟩
theorem MapT.alloc {w : World} {g n : Nat} {f : Int → UInt8 → Int} (h : MapT w g n f) (o : Obj) : MapT (w.alloc o) g n f := h.same (Below.heap_alloc w o g h.lt)
theorem MapT.not {w : World} {g n : Nat} {f : Int → UInt8 → Int} (h : MapT w g n f) {cs : Array Value} {t : TypeId} {fr : Nat × Nat} : w.heap[g]? ≠ some (.cells cs t fr) := by
  obtain ⟨D, ⟨es, clock, hb, _⟩, _⟩ := h
  intro e; rw [hb] at e; cases e
theorem MapT.cong {w : World} {g n : Nat} {f f' : Int → UInt8 → Int} (h : MapT w g n f) (e : ∀ s c, f s c = f' s c) : MapT w g n f' := by
  obtain rfl : f = f' := funext fun s => funext fun c => e s c
  exact h
theorem mapT_made (w : World) : MapT (w.alloc (.map #[] 0)) w.heap.size 0 (fun _ _ => -1) :=
  ⟨.map [], World.ownsMap_made w _ _ _, isMap_empty, fun s c k _ => ⟨by simp [Maps.has], fun h => absurd h (show ¬ (0 : Int) ≤ -1 by decide)⟩⟩
/-- The question, at the operation. -/
theorem look_map {w : World} {ops : Array Oper} {rest : List Oper} {o : Oper} {a : Act} {Q : Exit → Act → World → Prop} (hgd : o.guard = none) (m x : Operand) (ho : o.op = Op.lookup 133 m x true)
    (g n : Nat) (f : Int → UInt8 → Int) (hm : a.eval m = .map (some g)) (hown : MapT w g n f) (s : Int) (c : UInt8) (hs : (Lit.int .i64 s).wf = true) (hx : a.eval x = edge s c)
    (hK : ∀ v : Int, (0 ≤ f s c → v = f s c) → wpList Tryz.prog ops Q rest (a.put o.dst (.tuple #[.int .i64 v, .bool (decide (0 ≤ f s c))])) w) : wpList Tryz.prog ops Q (o :: rest) a w := by
  obtain ⟨D, h1, _, h3⟩ := hown
  obtain ⟨k, hk⟩ := key_edge s c hs
  obtain ⟨h4, h5⟩ := h3 s c k hk
  refine wpList_lookup_own_ok_int w hgd m x 133 ho 178 3 .i64 keyed und47 und3 (zero3 w) g n D hm h1 _ k hx hk fun v hv _ => ?_
  rw [h4]
  refine hK v fun h => ?_
  rw [h5 h] at hv
  injection hv with e
  injection e with _ e
  exact e.symm
/-- An edge stored. -/
theorem put_map {w : World} {ops : Array Oper} {rest : List Oper} {o : Oper} {a : Act} {Q : Exit → Act → World → Prop} (hgd : o.guard = none) (m x v : Operand) (ho : o.op = Op.mapUpdate 133 m x v)
    (g n : Nat) (f : Int → UInt8 → Int) (hm : a.eval m = .map (some g)) (hown : MapT w g n f) (s : Int) (b : UInt8) (t : Int) (ht0 : 0 ≤ t) (hs : (Lit.int .i64 s).wf = true) (ht : (Lit.int .i64 t).wf = true) (hx : a.eval x = edge s b) (hv : a.eval v = .int .i64 t) (hn : n < maxLen)
    (hK : ∀ w', MapT w' g (n + 1) (fun s' c => if s = s' ∧ b = c then t else f s' c) → w.grownBy w' (some g) → wpList Tryz.prog ops Q rest (a.put o.dst undef) w') : wpList Tryz.prog ops Q (o :: rest) a w := by
  obtain ⟨D, h1, h2, h3⟩ := hown
  obtain ⟨k, hk⟩ := key_edge s b hs
  refine wpList_mapUpdate_own w hgd m x v 133 ho 178 3 keyed und47 (plainElem Tryz.prog 3) g n D hm h1 hn _ _ _ hx hv hk (.lit (.int .i64 t)) [] (plainElem_int und3 ht) fun w' h4 h5 => hK w' ⟨_, h4, h2.put _ _, fun s' c k' hk' => ?_⟩ h5
  by_cases hy : s = s' ∧ b = c
  · obtain ⟨rfl, rfl⟩ := hy
    obtain rfl : k = k' := by rw [hk] at hk'; injection hk'
    have hkey := keyed.key hk
    rw [has_put_same h2 hkey, atKey_put_same h2 hkey]
    simp [ht0]
  · have hne : k' ≠ k := fun e => hy (by
      subst e
      exact edge_inj (keyed.inj hk hk'))
    rw [has_put_other hne, atKey_put_other hne]
    simp only [if_neg hy]
    exact h3 s' c k' hk'
theorem wf_nat {n : Int} (h0 : -1 ≤ n) (h1 : n ≤ 1000000000000) : (Lit.int .i64 n).wf = true := by
  simp [Lit.wf, IntKind.min, IntKind.max, IntKind.bits, IntKind.signed]
  omega
/-- A tree in memory, from block s on: its beginnings, and the texts that came. -/
def Tr (w : World) (s t : Nat) (ps l : List Tx) : Prop :=
  s ≤ t ∧ Wf ps ∧ (∀ x ∈ l, x ∈ ps) ∧ ps.length ≤ 1000000000 ∧ ∃ g cap m n, Blk2 w t 135 (.slice (some ⟨g, 0, none⟩) ps.length cap) (.map (some m)) ∧
    w.ownsRow s 130 4 (.slice (some ⟨g, 0, none⟩) ps.length cap) ps.length (nvals (nds ps l)) ∧ MapT w m n (stepOf ps) ∧ s ≤ m ∧ n ≤ ps.length
theorem own_far_block {w : World} {base e size n : Nat} {v : Value} {xs : List Value} (h : w.ownsRow base e size v n xs) {w' : World} (hw : ∀ g, v.ownBlock = some g → w'.heap[g]? = w.heap[g]?) : w'.ownsRow base e size v n xs := by
  refine ⟨h.1, h.2.imp id ?_⟩
  rintro ⟨g, cap, cur, rfl, hg, hh, r⟩
  exact ⟨g, cap, cur, rfl, hg, (hw g rfl).trans hh, r⟩
theorem Tr.keep {w w' : World} {s t : Nat} {ps l : List Tx} (h : Tr w s t ps l) (hb : Below w.heap.size w w') : Tr w' s t ps l := by
  obtain ⟨h0, hw, hl, hn, g, cap, m, n, h1, h2, h3, h4, h5⟩ := h
  exact ⟨h0, hw, hl, hn, g, cap, m, n, h1.same (hb.block t h1.lt), own_keep h2 hb, h3.same (hb.block m h3.lt), h4, h5⟩
theorem Tr.lt {w : World} {s t : Nat} {ps l : List Tx} (h : Tr w s t ps l) : t < w.heap.size := by
  obtain ⟨_, _, _, _, g, cap, m, n, h1, _⟩ := h; exact h1.lt
theorem Tr.less {w : World} {s s' t : Nat} {ps l : List Tx} (h : Tr w s t ps l) (hs : s' ≤ s) : Tr w s' t ps l := by
  obtain ⟨h0, hw, hl, hn, g, cap, m, n, h1, h2, h3, h4, h5⟩ := h
  exact ⟨by omega, hw, hl, hn, g, cap, m, n, h1, own_base h2 hs, h3, by omega, h5⟩
/-- A call that hands out a tree, and leaves what was there as it was. -/
def GivesTr (w : World) (ps l : List Tx) (e : Ending) (w' : World) : Prop := ∃ t, e = .returned (.pointer (some ⟨t, 0, none⟩)) ∧ Tr w' w.heap.size t ps l ∧ Below w.heap.size w w'
end Go.Proofs.YtcbhjhhajeeimaaGreat.Tri
/- Contracts of what a tree tells: Nodes, Step, at, Depth, Parent, Word. -/
namespace Go.Proofs.YtcbhjhhajeeimaaGreat.Tri
open Go.RowKit Go.Maps
set_option maxRecDepth 100000

theorem nodes_none (w : World) : Calls Tryz.prog 47 #[.pointer none] w fun e w' => e = .returned (.int .i64 0) ∧ w = w' := by
  go_enter Tryz.func47, Tryz.ntmps47
  go_wp2
  go_ret
  exact ⟨rfl, rfl⟩
theorem nodes_any (w : World) (s t : Nat) (ps l : List Tx) (h : Tr w s t ps l) : Calls Tryz.prog 47 #[.pointer (some ⟨t, 0, none⟩)] w fun e w' => e = .returned (.int .i64 (ps.length : Int)) ∧ w = w' := by
  obtain ⟨h0, hw, hl, hn, g, cap, m, n, h1, h2, h3, h4, h5⟩ := h
  obtain ⟨c0, c1⟩ := h1.cells
  clear h0 hw hl h1 h2 h3 h4 h5
  go_enter Tryz.func47, Tryz.ntmps47
  go_wp2
  go_ret
  exact ⟨rfl, rfl⟩
theorem step_none (w : World) (n c : Int) : Calls Tryz.prog 66 #[.pointer none, .int .i64 n, .int .u8 c] w fun e w' => e = .returned (.int .i64 (-1)) ∧ w = w' := by
  go_enter Tryz.func66, Tryz.ntmps66
  go_wp2
  go_ret
  exact ⟨rfl, rfl⟩
set_option maxHeartbeats 1000000 in
theorem step_any (w : World) (s t : Nat) (ps l : List Tx) (h : Tr w s t ps l) (n : Int) (hn : (Lit.int .i64 n).wf = true) (c : UInt8) :
    Calls Tryz.prog 66 #[.pointer (some ⟨t, 0, none⟩), .int .i64 n, .int .u8 (c.toNat : Int)] w fun e w' => e = .returned (.int .i64 (stepOf ps n c)) ∧ w = w' := by
  obtain ⟨h0, hw, hl, hz, g, cap, m, k, h1, h2, h3, h4, h5⟩ := h
  obtain ⟨c0, c1⟩ := h1.cells
  have HO := Lib.hid h3
  have HS := Lib.hid hn
  clear h0 hw hl h1 h2 h3 h4 h5 hn
  have hge := stepOf_ge ps n c
  generalize hx : stepOf ps n c = x at *
  have HX := Lib.hid hx
  clear hx
  cases hb : decide (0 ≤ x)
  · have hx1 : x = -1 := by have := of_decide_eq_false hb; omega
    have HX1 := Lib.hid hx1
    clear hx1 hge
    go_enter Tryz.func66, Tryz.ntmps66
    go_wp2_with (at_lookup; (with_reducible refine look_map rfl _ _ rfl m k (stepOf ps) rfl HO.out n c HS.out rfl ?_); intro z hz; clear hz; rw [HX.out, hb])
    go_ret
    exact ⟨ret_int HX1.out.symm, rfl⟩
  · have hx0 : 0 ≤ x := of_decide_eq_true hb
    have HX0 := Lib.hid hx0
    clear hx0 hge
    go_enter Tryz.func66, Tryz.ntmps66
    go_wp2_with (at_lookup; (with_reducible refine look_map rfl _ _ rfl m k (stepOf ps) rfl HO.out n c HS.out rfl ?_); intro z hz; rw [HX.out] at hz; have HZ := Lib.hid (hz HX0.out); clear hz; rw [HX.out, hb])
    go_ret
    exact ⟨ret_int HZ.out, rfl⟩
theorem none_any (w : World) : Calls Tryz.prog 61 #[] w fun e w' => e = .returned (.agg #[.int .i64 (-1), .int .u8 0, .int .i64 0, .int .i64 (-1)]) ∧ w' = w.alloc (.cells #[.int .i64 (-1), .int .u8 0, .int .i64 0, .int .i64 (-1)] 130) := by
  go_enter Tryz.func61, Tryz.ntmps61
  go_wp2
  exact bodyPost_ret (v := .agg #[.int .i64 (-1), .int .u8 0, .int .i64 0, .int .i64 (-1)]) (by simp [results, Tryz.results61, go_sem]) rfl ⟨rfl, rfl⟩
/-- What is kept of a number. -/
def ndAt (ps l : List Tx) (n : Int) : Nd := match pathOf ps n with | some p => ndOf ps l p | none => ⟨-1, 0, 0, -1⟩
abbrev ndV (r : Nd) : Value := .agg #[.int .i64 r.up, .int .u8 (r.last.toNat : Int), .int .i64 (r.deep : Int), .int .i64 r.word]
theorem ndAt_in {ps : List Tx} (l : List Tx) {i : Nat} (h : i < ps.length) : ndAt ps l (i : Int) = ndOf ps l ps[i] := by rw [ndAt, pathOf_at h]
theorem ndAt_out {ps : List Tx} (l : List Tx) {n : Int} (h : ¬ (0 ≤ n ∧ n < ps.length)) : ndAt ps l n = ⟨-1, 0, 0, -1⟩ := by rw [ndAt, pathOf_none h]
theorem Tr.row {w : World} {s t : Nat} {ps l : List Tx} (h : Tr w s t ps l) : ∃ g cap m, Blk2 w t 135 (.slice (some ⟨g, 0, none⟩) ps.length cap) (.map (some m)) ∧ ps.length ≤ 1000000000 ∧ g < w.heap.size ∧ ∀ i (hi : i < ps.length), w.cell? ⟨g, i * 4, none⟩ = some (.int .i64 (ndOf ps l ps[i]).up) ∧ w.cell? ⟨g, i * 4 + 1, none⟩ = some (.int .u8 ((ndOf ps l ps[i]).last.toNat : Int)) ∧ w.cell? ⟨g, i * 4 + 2, none⟩ = some (.int .i64 ((ndOf ps l ps[i]).deep : Int)) ∧ w.cell? ⟨g, i * 4 + 3, none⟩ = some (.int .i64 (ndOf ps l ps[i]).word) := by
  obtain ⟨h0, hw, hl, hn, g, cap, m, n, h1, h2, h3, h4, h5⟩ := h
  refine ⟨g, cap, m, h1, hn, (own_block_lt h2 rfl).2.1, fun i hi => ?_⟩
  have key : ∀ j, j < 4 → w.cell? ⟨g, i * 4 + j, none⟩ = (ncells (ndOf ps l ps[i]))[j]? := fun j hj => by
    rw [h2.cellAt (i * 4 + j) (by omega), nvals_at _ i j hj (by rw [nds_length]; exact hi), nds_at ps l i hi]
  exact ⟨key 0 (by omega), key 1 (by omega), key 2 (by omega), key 3 (by omega)⟩
set_option maxHeartbeats 1000000 in
theorem at_none (w : World) (n : Int) : Calls Tryz.prog 95 #[.pointer none, .int .i64 n] w fun e w' => e = .returned (.agg #[.int .i64 (-1), .int .u8 0, .int .i64 0, .int .i64 (-1)]) ∧ Below w.heap.size w w' := by
  by_cases h0 : n < 0
  · go_enter Tryz.func95, Tryz.ntmps95
    go_wp2_with (go_at_call 61; (with_reducible refine (none_any _).mono ?_); rintro e w1 ⟨rfl, rfl⟩)
    exact bodyPost_ret (v := .agg #[.int .i64 (-1), .int .u8 0, .int .i64 0, .int .i64 (-1)]) (by simp [results, Tryz.results95, go_sem]) rfl ⟨rfl, ((Below.refl _ _).alloc (Nat.le_refl _) _).alloc (by simp) _⟩
  · go_enter Tryz.func95, Tryz.ntmps95
    go_wp2_with (first | (go_at_call 61; (with_reducible refine (none_any _).mono ?_); rintro e w1 ⟨rfl, rfl⟩) | (go_at_call 47; (with_reducible refine (nodes_none _).mono ?_); rintro e w1 ⟨rfl, rfl⟩))
    exact bodyPost_ret (v := .agg #[.int .i64 (-1), .int .u8 0, .int .i64 0, .int .i64 (-1)]) (by simp [results, Tryz.results95, go_sem]) rfl ⟨rfl, ((Below.refl _ _).alloc (Nat.le_refl _) _).alloc (by simp) _⟩
set_option maxHeartbeats 1000000 in
theorem at_any (w : World) (s t : Nat) (ps l : List Tx) (h : Tr w s t ps l) (n : Int) :
    Calls Tryz.prog 95 #[.pointer (some ⟨t, 0, none⟩), .int .i64 n] w fun e w' => e = .returned (ndV (ndAt ps l n)) ∧ Below w.heap.size w w' := by
  have HA : Hid (∀ o, Calls Tryz.prog 47 #[.pointer (some ⟨t, 0, none⟩)] (w.alloc o) fun e w' => e = .returned (.int .i64 (ps.length : Int)) ∧ w.alloc o = w') := Lib.hid fun o => nodes_any _ s t ps l (h.keep ((Below.refl _ _).alloc (Nat.le_refl _) _))
  by_cases hin : 0 ≤ n ∧ n < ps.length
  · obtain ⟨i, rfl⟩ : ∃ i : Nat, n = (i : Int) := ⟨n.toNat, by omega⟩
    have hi : i < ps.length := by omega
    rw [ndAt_in l hi]
    obtain ⟨g, cap, m, h1, hn, hg, hc⟩ := h.row
    obtain ⟨d0, d1, d2, d3⟩ := hc i hi
    obtain ⟨c0, c1⟩ := h1.cells
    have ht := h1.lt
    have hin2 : (i : Int) < (ps.length : Int) := by omega
    have hin3 : ¬ (ps.length : Int) ≤ (i : Int) := by omega
    clear hc h1 h hin
    generalize ndOf ps l ps[i] = r at *
    go_enter Tryz.func95, Tryz.ntmps95
    go_wp2_with (go_at_call 47; (with_reducible refine (HA.out _).mono ?_); rintro e w1 ⟨rfl, rfl⟩)
    exact bodyPost_ret (v := ndV r) (by simp [results, Tryz.results95, go_sem]) rfl ⟨rfl, (Below.refl _ _).alloc (Nat.le_refl _) _⟩
  · rw [ndAt_out l hin]
    by_cases h0 : n < 0
    · clear hin
      go_enter Tryz.func95, Tryz.ntmps95
      go_wp2_with (go_at_call 61; (with_reducible refine (none_any _).mono ?_); rintro e w1 ⟨rfl, rfl⟩)
      exact bodyPost_ret (v := .agg #[.int .i64 (-1), .int .u8 0, .int .i64 0, .int .i64 (-1)]) (by simp [results, Tryz.results95, go_sem]) rfl ⟨rfl, ((Below.refl _ _).alloc (Nat.le_refl _) _).alloc (by simp) _⟩
    · have h2 : (ps.length : Int) ≤ n := by omega
      clear hin h
      go_enter Tryz.func95, Tryz.ntmps95
      go_wp2_with (first | (go_at_call 61; (with_reducible refine (none_any _).mono ?_); rintro e w1 ⟨rfl, rfl⟩) | (go_at_call 47; (with_reducible refine (HA.out _).mono ?_); rintro e w1 ⟨rfl, rfl⟩))
      exact bodyPost_ret (v := .agg #[.int .i64 (-1), .int .u8 0, .int .i64 0, .int .i64 (-1)]) (by simp [results, Tryz.results95, go_sem]) rfl ⟨rfl, ((Below.refl _ _).alloc (Nat.le_refl _) _).alloc (by simp) _⟩
theorem field_up (a b c d : Int) (w : World) : (Instr.field 130 (.agg #[.int .i64 a, .int .u8 b, .int .i64 c, .int .i64 d]) 0).run Tryz.prog w = .ok (.int .i64 a) w := by
  simp [Instr.field, asAgg, go_sem]
theorem field_deep (a b c d : Int) (w : World) : (Instr.field 130 (.agg #[.int .i64 a, .int .u8 b, .int .i64 c, .int .i64 d]) 2).run Tryz.prog w = .ok (.int .i64 c) w := by
  simp [Instr.field, asAgg, go_sem]
theorem field_word (a b c d : Int) (w : World) : (Instr.field 130 (.agg #[.int .i64 a, .int .u8 b, .int .i64 c, .int .i64 d]) 3).run Tryz.prog w = .ok (.int .i64 d) w := by
  simp [Instr.field, asAgg, go_sem]
theorem ndAt_deep (ps l : List Tx) (n : Int) : (ndAt ps l n).deep = (pathD ps n).length := by
  unfold ndAt pathD; cases pathOf ps n <;> rfl
theorem ndAt_up (ps l : List Tx) (n : Int) : (ndAt ps l n).up = upOf ps n := by
  unfold ndAt upOf; cases pathOf ps n <;> rfl
theorem ndAt_word (ps l : List Tx) (n : Int) : (ndAt ps l n).word = wordOf ps l n := by
  unfold ndAt wordOf; cases pathOf ps n <;> rfl
theorem depth_any (w : World) (s t : Nat) (ps l : List Tx) (h : Tr w s t ps l) (n : Int) :
    Calls Tryz.prog 78 #[.pointer (some ⟨t, 0, none⟩), .int .i64 n] w fun e w' => e = .returned (.int .i64 ((pathD ps n).length : Int)) ∧ Below w.heap.size w w' := by
  have HA := Lib.hid (at_any w s t ps l h n)
  have hf := field_deep
  rw [← ndAt_deep ps l n]
  clear h
  generalize ndAt ps l n = r at *
  go_enter Tryz.func78, Tryz.ntmps78
  go_wp2_with (go_at_call 95; (with_reducible refine HA.out.mono ?_); rintro e w1 ⟨rfl, hb⟩)
  go_ret
  exact ⟨rfl, hb⟩
theorem depth_none (w : World) (n : Int) : Calls Tryz.prog 78 #[.pointer none, .int .i64 n] w fun e w' => e = .returned (.int .i64 0) ∧ Below w.heap.size w w' := by
  have hf := field_deep
  go_enter Tryz.func78, Tryz.ntmps78
  go_wp2_with (go_at_call 95; (with_reducible refine (at_none w n).mono ?_); rintro e w1 ⟨rfl, hb⟩)
  go_ret
  exact ⟨rfl, hb⟩
theorem parent_any (w : World) (s t : Nat) (ps l : List Tx) (h : Tr w s t ps l) (n : Int) :
    Calls Tryz.prog 98 #[.pointer (some ⟨t, 0, none⟩), .int .i64 n] w fun e w' => e = .returned (.int .i64 (upOf ps n)) ∧ Below w.heap.size w w' := by
  have HA := Lib.hid (at_any w s t ps l h n)
  have hf := field_up
  rw [← ndAt_up ps l n]
  clear h
  generalize ndAt ps l n = r at *
  go_enter Tryz.func98, Tryz.ntmps98
  go_wp2_with (go_at_call 95; (with_reducible refine HA.out.mono ?_); rintro e w1 ⟨rfl, hb⟩)
  go_ret
  exact ⟨rfl, hb⟩
theorem word_any (w : World) (s t : Nat) (ps l : List Tx) (h : Tr w s t ps l) (n : Int) :
    Calls Tryz.prog 101 #[.pointer (some ⟨t, 0, none⟩), .int .i64 n] w fun e w' => e = .returned (.int .i64 (wordOf ps l n)) ∧ Below w.heap.size w w' := by
  have HA := Lib.hid (at_any w s t ps l h n)
  have hf := field_word
  rw [← ndAt_word ps l n]
  clear h
  generalize ndAt ps l n = r at *
  go_enter Tryz.func101, Tryz.ntmps101
  go_wp2_with (go_at_call 95; (with_reducible refine HA.out.mono ?_); rintro e w1 ⟨rfl, hb⟩)
  go_ret
  exact ⟨rfl, hb⟩
theorem word_none (w : World) (n : Int) : Calls Tryz.prog 101 #[.pointer none, .int .i64 n] w fun e w' => e = .returned (.int .i64 (-1)) ∧ Below w.heap.size w w' := by
  have hf := field_word
  go_enter Tryz.func101, Tryz.ntmps101
  go_wp2_with (go_at_call 95; (with_reducible refine (at_none w n).mono ?_); rintro e w1 ⟨rfl, hb⟩)
  go_ret
  exact ⟨rfl, hb⟩
end Go.Proofs.YtcbhjhhajeeimaaGreat.Tri
/- Contracts of Find, Path and Kids. -/
namespace Go.Proofs.YtcbhjhhajeeimaaGreat.Tri
open Go.RowKit Go.Maps
set_option maxRecDepth 100000

theorem step_take {ps : List Tx} {b : Tx} {k : Nat} (hk : k < b.length) (hm : b.take k ∈ ps) : stepOf ps (place ps (b.take k)) b[k] = place ps (b.take (k + 1)) := by
  obtain ⟨i, hi, e, e2, _⟩ := place_mem hm
  rw [e, stepOf_at hi, e2, List.take_succ_eq_append_getElem hk]
end Go.Proofs.YtcbhjhhajeeimaaGreat.Tri
/- Contracts of Path and Kids. -/
namespace Go.Proofs.YtcbhjhhajeeimaaGreat.Tri
open Go.RowKit Go.Maps
set_option maxRecDepth 100000

theorem ndOf_snoc (ps l : List Tx) (q : Tx) (c : UInt8) : (ndOf ps l (q ++ [c])).last = c ∧ (ndOf ps l (q ++ [c])).up = place ps q := by
  simp [ndOf]
theorem made_bytes (n : Nat) : (madeCells (Value.int .u8 0).cells (n * 1)).toList = vals (List.replicate n 0) := by
  show (madeCells #[Value.int .u8 0] (n * 1)).toList = _
  rw [toList_madeCells_one, Nat.mul_one]
  simp [vals]
theorem vals_set (p : Tx) (j : Nat) (h : j < p.length) : (vals (List.replicate (j + 1) 0 ++ p.drop (j + 1))).set j (.int .u8 (p[j].toNat : Int)) = vals (List.replicate j 0 ++ p.drop j) := by
  have e1 : List.replicate (j + 1) (0 : UInt8) ++ p.drop (j + 1) = List.replicate j 0 ++ (0 :: p.drop (j + 1)) := by
    rw [List.replicate_succ']; simp
  have e2 : p.drop j = p[j] :: p.drop (j + 1) := (List.drop_eq_getElem_cons h)
  rw [e1, e2]
  unfold vals
  rw [List.map_append, List.map_append, List.set_append_right _ _ (by simp), List.map_cons, List.map_cons]
  simp only [List.length_map, List.length_replicate, Nat.sub_self, List.set_cons_zero]
theorem own_there {w : World} {base g n cap : Nat} {xs : Tx} (h : w.ownsRow base 5 1 (.slice (some ⟨g, 0, none⟩) n cap) n (vals xs)) {j : Nat} (hj : j < n) : (∃ u, w.cell? ⟨g, j, none⟩ = some u) ∧ w.frozen? ⟨g, j, none⟩ = false ∧ g < w.heap.size := by
  have hl : (vals xs).length = n * 1 := h.1
  refine ⟨⟨(vals xs)[j]'(by omega), ?_⟩, h.frozenAt j, (own_block_lt h rfl).2.1⟩
  rw [h.cellAt j (by omega), List.getElem?_eq_getElem (by omega)]
/-- The bytes below k that f tells. -/
def kidsTo (f : UInt8 → Bool) (k : Nat) : List UInt8 := ((List.range k).map UInt8.ofNat).filter f
theorem kidsTo_succ (f : UInt8 → Bool) (k : Nat) : kidsTo f (k + 1) = if f (UInt8.ofNat k) then kidsTo f k ++ [UInt8.ofNat k] else kidsTo f k := by
  unfold kidsTo
  rw [List.range_succ, List.map_append, List.filter_append]
  split
  · rename_i h; simp [h]
  · rename_i h; simp [h]
theorem kidsTo_len (f : UInt8 → Bool) (k : Nat) : (kidsTo f k).length ≤ k := by
  unfold kidsTo
  refine Nat.le_trans (List.length_filter_le _ _) (by simp)
/-- The bytes that lead on. -/
def kidsOf (ps : List Tx) (n : Int) : List UInt8 := kidsTo (fun c => decide (0 ≤ stepOf ps n c)) 256
theorem ofNat_u8 (k : Nat) (h : k < 256) : ((UInt8.ofNat k).toNat : Int) = (k : Int) := by
  rw [UInt8.toNat_ofNat']; omega
theorem vals_append (l m : Tx) : vals (l ++ m) = vals l ++ vals m := by simp [vals]
set_option maxRecDepth 20000 in
set_option maxHeartbeats 1000000 in
theorem kids_any (w : World) (s t : Nat) (ps l : List Tx) (h : Tr w s t ps l) (n : Int) (hn : (Lit.int .i64 n).wf = true) :
    Calls Tryz.prog 65 #[.pointer (some ⟨t, 0, none⟩), .int .i64 n] w (GivesText w (kidsOf ps n)) := by
  have HH := Lib.hid h
  have HN := Lib.hid hn
  unfold kidsOf
  obtain ⟨f, hf⟩ : ∃ f : UInt8 → Bool, f = fun c => decide (0 ≤ stepOf ps n c) := ⟨_, rfl⟩
  rw [← hf]
  have HF : Hid (∀ c, f c = decide (0 ≤ stepOf ps n c)) := Lib.hid (fun c => by rw [hf])
  clear h hn hf
  obtain ⟨y, hy⟩ : ∃ y, y = kidsTo f 256 := ⟨_, rfl⟩
  rw [← hy]
  have HY := Lib.hid hy
  clear hy
  go_enter Tryz.func65, Tryz.ntmps65
  go_wp2
  go_loopw [5, 7] (fun v i wr => ∃ k : Nat, k ≤ 256 ∧ i = .int .i64 (k : Int) ∧ wr.ownsRow w.heap.size 5 1 v (kidsTo f k).length (vals (kidsTo f k)) ∧ Below w.heap.size w wr) (fun _ i _ => 256 - (intOf i).toNat)
  case atStart => exact ⟨0, by omega, rfl, World.ownsRow_nil _ _ _ _, Below.refl _ _⟩
  case round =>
    obtain ⟨k, hk, rfl, hown, hbel⟩ := hrel
    have hkl := kidsTo_len f k
    by_cases hlt : k < 256
    · have HS : Hid (Calls Tryz.prog 66 #[.pointer (some ⟨t, 0, none⟩), .int .i64 n, .int .u8 ((UInt8.ofNat k).toNat : Int)] wr fun e w' => e = .returned (.int .i64 (stepOf ps n (UInt8.ofNat k))) ∧ wr = w') := Lib.hid (step_any wr s t ps l (HH.out.keep hbel) n HN.out (UInt8.ofNat k))
      have HE := Lib.hid (kidsTo_succ f k)
      have HFk := Lib.hid (HF.out (UInt8.ofNat k))
      rw [ofNat_u8 k hlt] at HS
      generalize stepOf ps n (UInt8.ofNat k) = x at *
      have HO := Lib.hid hown
      have HB := Lib.hid hbel
      clear hown hbel
      have hq : IntKind.u8.wrap (k : Int) = (k : Int) := by simp [IntKind.wrap, IntKind.bits, IntKind.signed]; omega
      by_cases hx : 0 ≤ x
      · have hsz := HB.out.size
        go_wp2_with (first
          | (go_at_call 66; (with_reducible refine HS.out.mono ?_); rintro e w2 ⟨rfl, rfl⟩)
          | (at_builtin; refine app_bs rfl _ _ rfl w.heap.size _ _ _ rfl (HO.out.alloc _) (some ⟨wr.heap.size, 0, none⟩) [UInt8.ofNat k] 1 (wr.heap.size + 1) rfl (by have := bs_lit wr [UInt8.ofNat k] (0, 0) #[.int .u8 (k : Int)] (by rw [List.map_cons, ofNat_u8 k hlt]; rfl); rwa [World.size_alloc] at this) (fun e => by cases e) (by simp; omega) (by simp; omega) ?_; intro v3 w3 hown3 hg3))
        go_roundw
        case rel =>
          refine ⟨k + 1, by omega, by go_num, ?_, (HB.out.alloc hsz _).grown hg3 (by simp; omega) (fun q hq => own_ge HO.out hq)⟩
          rw [HE.out, HFk.out, if_pos (by simp; omega), List.length_append, vals_append]
          exact hown3
        case measure => simp [intOf]; omega
      · go_wp2_with (go_at_call 66; (with_reducible refine HS.out.mono ?_); rintro e w2 ⟨rfl, rfl⟩)
        go_roundw
        case rel => exact ⟨k + 1, by omega, by go_num, by rw [HE.out, HFk.out, if_neg (by simp; omega)]; exact HO.out, HB.out⟩
        case measure => simp [intOf]; omega
    · have hke : k = 256 := by omega
      have HK : Hid (kidsTo f k = y) := Lib.hid (by rw [hke]; exact HY.out.symm)
      rw [HK.out] at hown
      clear hke
      have hk2 : ¬ (k : Int) < 256 := by omega
      have HO := Lib.hid hown
      have HB := Lib.hid hbel
      clear hown hbel
      go_wp2
      go_ret
      obtain ⟨a, cap, e, ht, hc, hnil⟩ := own_txt HO.out
      exact ⟨a, cap, by rw [← e]; rfl, ht, hc, hnil, HB.out⟩
end Go.Proofs.YtcbhjhhajeeimaaGreat.Tri
/- The contract of add. -/
namespace Go.Proofs.YtcbhjhhajeeimaaGreat.Tri
open Go.RowKit Go.Maps
set_option maxRecDepth 100000

theorem ncell_new (w : World) (r : Nd) : ∀ j u, (ncells r)[j]? = some u → (w.alloc (.cells #[.int .i64 r.up, .int .u8 (r.last.toNat : Int), .int .i64 (r.deep : Int), .int .i64 r.word] 130)).cell? ((⟨w.heap.size, 0, none⟩ : Addr).add j) = some u := by
  intro j u h
  rw [add_at, Nat.zero_add, cell_of_row _ w.heap.size _ _ 130 (0, 0) (heap_alloc_new w _)]
  simpa [ncells] using h
theorem block_app {W W' : World} {g : Nat} {v : Value} {O : Obj} (hg : (W.alloc O).drew.grownBy W' v.ownBlock) (hlt : some g ≠ v.ownBlock) (hW : g < W.heap.size) : W'.heap[g]? = W.heap[g]? :=
  (hg.block g (by show g < (W.alloc O).heap.size; simp; omega) hlt).trans (Below.heap_alloc W O g hW)
/-- Behind the append, and the store of what came of it. -/
theorem add_done {w w4 : World} {s t i : Nat} {ps l : List Tx} {c : UInt8} {g' cap' m' n g4 cap4 : Nat} {O : Obj} (hi : i < ps.length) (hq : ps[i] ++ [c] ∉ ps) (h0 : s ≤ t) (hw : Wf ps) (hl : ∀ x ∈ l, x ∈ ps) (hn : ps.length < 1000000000)
    (h1 : Blk2 w t 135 (.slice (some ⟨g', 0, none⟩) ps.length cap') (.map (some m'))) (h2 : w.ownsRow s 130 4 (.slice (some ⟨g', 0, none⟩) ps.length cap') ps.length (nvals (nds ps l))) (h3 : MapT w m' n (stepOf ps)) (h4 : s ≤ m') (h5 : n ≤ ps.length)
    (hg4 : (w.alloc O).drew.grownBy w4 (Value.slice (some ⟨g', 0, none⟩) ps.length cap').ownBlock)
    (hown4 : w4.ownsRow s 130 4 (.slice (some ⟨g4, 0, none⟩) (ps.length + 1) cap4) (ps.length + 1) (nvals (nds ps l) ++ ncells ⟨(i : Int), c, ps[i].length + 1, -1⟩)) :
    MapT (w4.setCell ⟨t, 0, none⟩ (.slice (some ⟨g4, 0, none⟩) (ps.length + 1) cap4)) m' n (stepOf ps) ∧ (w4.setCell ⟨t, 0, none⟩ (.slice (some ⟨g4, 0, none⟩) (ps.length + 1) cap4)).cell? ⟨t, 1, none⟩ = some (.map (some m')) ∧
    ∀ w6, MapT w6 m' (n + 1) (fun s' d => if (i : Int) = s' ∧ c = d then (ps.length : Int) else stepOf ps s' d) → (w4.setCell ⟨t, 0, none⟩ (.slice (some ⟨g4, 0, none⟩) (ps.length + 1) cap4)).grownBy w6 (some m') → Tr w6 s t (ps ++ [ps[i] ++ [c]]) l ∧ Below s w w6 := by
  have hne1 : some t ≠ (Value.slice (some ⟨g', 0, none⟩) ps.length cap').ownBlock := fun e => by
    obtain ⟨_, _, cs, hh⟩ := own_block_lt h2 e.symm
    have := hh.symm.trans h1
    simp at this
  have hne2 : some m' ≠ (Value.slice (some ⟨g', 0, none⟩) ps.length cap').ownBlock := fun e => by
    obtain ⟨_, _, cs, hh⟩ := own_block_lt h2 e.symm
    exact h3.not hh
  have hmt : m' ≠ t := fun e => by subst e; exact h3.not h1
  have hbk4 := h1.same (block_app hg4 hne1 h1.lt)
  have hm4 := h3.same (block_app hg4 hne2 h3.lt)
  have hg4t : g4 ≠ t := fun e => by
    obtain ⟨_, _, cs, hh⟩ := own_block_lt hown4 (g := g4) rfl
    rw [e] at hh
    have := hh.symm.trans hbk4
    simp at this
  have hg4m : g4 ≠ m' := fun e => by
    obtain ⟨_, _, cs, hh⟩ := own_block_lt hown4 (g := g4) rfl
    rw [e] at hh
    exact hm4.not hh
  have hbk5 := hbk4.put0 (.slice (some ⟨g4, 0, none⟩) (ps.length + 1) cap4)
  have hm5 := hm4.same (Below.heap_setCell w4 ⟨t, 0, none⟩ (.slice (some ⟨g4, 0, none⟩) (ps.length + 1) cap4) m' hmt)
  have hown5 := hown4.kept (grown_set w4 t 0 (.slice (some ⟨g4, 0, none⟩) (ps.length + 1) cap4)) (.inr (fun e => hg4t (by simpa [Value.ownBlock] using e)))
  refine ⟨hm5, hbk5.cells.2, fun w6 hm6 hg6 => ⟨⟨h0, hw.snoc (List.getElem_mem hi) hq, fun x hx => List.mem_append_left _ (hl x hx), by simp; omega, g4, cap4, m', n + 1, ?_, ?_, hm6.cong fun a b => (stepOf_snoc hw hi hq a b).symm, h4, by simp; omega⟩, ?_⟩⟩
  · rw [List.length_append, List.length_singleton]
    exact hbk5.grown hg6 (fun e => hmt (by simpa using e.symm))
  · rw [List.length_append, List.length_singleton, nds_snoc hw hl hi hq, nvals_append]
    have e : nvals [⟨(i : Int), c, ps[i].length + 1, -1⟩] = ncells ⟨(i : Int), c, ps[i].length + 1, -1⟩ := by simp [nvals]
    rw [e]
    exact hown5.kept hg6 (.inr (fun e => hg4m (by simpa [Value.ownBlock] using e)))
  · have ht := h1.lt
    have hz4 : w.heap.size + 1 ≤ w4.heap.size := by
      have := hg4.size
      have e : (w.alloc O).drew.heap.size = w.heap.size + 1 := by show (w.alloc O).heap.size = _; simp
      omega
    have hb4 : Below s w w4 := ⟨hg4.os, hg4.tape, hg4.output, by omega, fun k hk => block_app hg4 (own_far h2 k hk) (by omega)⟩
    exact (hb4.setCell (p := ⟨t, 0, none⟩) h0 _).grown hg6 (by simp; omega) (fun k hk => by cases hk; exact h4)
set_option maxHeartbeats 4000000 in
theorem add_any (w : World) (s t : Nat) (ps l : List Tx) (h : Tr w s t ps l) (i : Nat) (hi : i < ps.length) (c : UInt8) (hq : ps[i] ++ [c] ∉ ps) (hn : ps.length < 1000000000) (hd : ps[i].length ≤ 1000000000) :
    Calls Tryz.prog 84 #[.pointer (some ⟨t, 0, none⟩), .int .i64 (i : Int), .int .u8 (c.toNat : Int)] w fun e w' => e = .returned (.int .i64 (ps.length : Int)) ∧ Tr w' s t (ps ++ [ps[i] ++ [c]]) l ∧ Below s w w' := by
  obtain ⟨g', cap', m', hb', hn', hg', hc⟩ := h.row
  obtain ⟨h0, hw, hl, hn2, g, cap, m, n, h1, h2, h3, h4, h5⟩ := h
  have egc : g' = g ∧ cap' = cap ∧ m' = m := by
    have := hb'.symm.trans h1
    simp at this
    exact ⟨this.1.1, this.1.2, this.2⟩
  obtain ⟨rfl, rfl, rfl⟩ := egc
  obtain ⟨c0, c1⟩ := h1.cells
  obtain ⟨f0, f1⟩ := h1.free
  obtain ⟨_, _, d2, _⟩ := hc i hi
  have hdeep : (ndOf ps l ps[i]).deep = ps[i].length := rfl
  rw [hdeep] at d2
  have hin : (i : Int) < (ps.length : Int) := by omega
  have ht := h1.lt
  have hsz : s ≤ w.heap.size := by omega
  have hne1 : some t ≠ (Value.slice (some ⟨g', 0, none⟩) ps.length cap').ownBlock := fun e => by
    obtain ⟨_, _, cs, hh⟩ := own_block_lt h2 e.symm
    have := hh.symm.trans h1
    simp at this
  have hne2 : some m' ≠ (Value.slice (some ⟨g', 0, none⟩) ps.length cap').ownBlock := fun e => by
    obtain ⟨_, _, cs, hh⟩ := own_block_lt h2 e.symm
    exact h3.not hh
  have HNE1 := Lib.hid hne1
  have HT := Lib.hid h1
  have HO := Lib.hid h2
  have HD := Lib.hid (fun (w4 : World) g4 cap4 O => add_done (w4 := w4) (g4 := g4) (cap4 := cap4) (O := O) hi hq h0 hw hl hn h1 h2 h3 h4 h5)
  have hq0 : IntKind.i64.wrap ((ps[i].length : Int) + 1) = ((ps[i].length + 1 : Nat) : Int) := by rw [IntWalk.i64_in _ (by omega)]; omega
  have HWI : Hid ((Lit.int .i64 (i : Int)).wf = true) := Lib.hid (wf_nat (by omega) (by omega))
  have HWN : Hid ((Lit.int .i64 (ps.length : Int)).wf = true) := Lib.hid (wf_nat (by omega) (by omega))
  clear hb' hc hdeep h1 h2 h3 hw hl hne1 hne2
  obtain ⟨i0, hi0, hz0, hz1, hz2⟩ := info_parts info44
  generalize hdd : ps[i].length = d at *
  clear hdd hq
  go_enter Tryz.func84, Tryz.ntmps84
  go_wp2
  go_region_law
    ((refine step_append_lies _ (by rfl) _ _ _ (by rfl) s 130 i0 (.agg #[.int .i64 0, .int .u8 0, .int .i64 0, .int .i64 0]) 4 32 Tryz.underlying132 hi0 hz0 hz1 hz2 rfl (by decide) (.slice (some ⟨g', 0, none⟩) ps.length cap') ps.length (nvals (nds ps l)) (by rfl) (HO.out.alloc _) ⟨w.heap.size, 0, none⟩ 1 1 (ncells ⟨(i : Int), c, d + 1, -1⟩) (by rfl) rfl (ncell_new _ _) (by simp [ncells, Value.oneCell']) (by omega) (by unfold maxLen; omega) (by omega) (by simp; omega) (w.heap.size + 1) (by simp) ?_; intro g4 cap4 w4 hown4 hg4 hat4 hlt4; have hbk4 := HT.out.same (block_app hg4 HNE1.out ht); obtain ⟨c40, c41⟩ := hbk4.cells; obtain ⟨f40, f41⟩ := hbk4.free))
  all_goals
    obtain ⟨hm5, hc5, hend⟩ := HD.out w4 g4 cap4 _ hg4 hown4
    clear hbk4 c40 c41 f40 f41 hg4 hown4 hat4 hlt4 HD HT HO HNE1 c0 c1 f0 f1 d2
    have HM5 := Lib.hid hm5
    have HE := Lib.hid hend
    clear hm5 hend
    generalize w4.setCell ⟨t, 0, none⟩ (.slice (some ⟨g4, 0, none⟩) (ps.length + 1) cap4) = w5 at *
    go_wp2_with (at_mapUpdate; (with_reducible refine put_map rfl _ _ _ rfl m' n (stepOf ps) rfl HM5.out (i : Int) c (ps.length : Int) (by omega) HWI.out HWN.out rfl rfl (by unfold maxLen; omega) ?_); intro w6 hm6 hg6; have HM6 := Lib.hid hm6; have HG6 := Lib.hid hg6; clear hm6 hg6)
    go_ret
    exact ⟨rfl, HE.out w6 HM6.out HG6.out⟩
end Go.Proofs.YtcbhjhhajeeimaaGreat.Tri
/- Contracts of grow and Build. -/
namespace Go.Proofs.YtcbhjhhajeeimaaGreat.Tri
open Go.RowKit Go.Maps
set_option maxRecDepth 100000

theorem growTo_len (ps : List Tx) (x : Tx) (k : Nat) : (growTo ps x k).length ≤ ps.length + k := by
  obtain ⟨m, e, h, _⟩ := growTo_sub ps x k
  rw [e, List.length_append]; omega
theorem growTo_old {ps : List Tx} {x : Tx} {k : Nat} (h : x.take (k + 1) ∈ growTo ps x k) : growTo ps x (k + 1) = growTo ps x k := by
  show addp _ _ = _; unfold addp; rw [if_pos h]
theorem growTo_new {ps : List Tx} {x : Tx} {k : Nat} (h : x.take (k + 1) ∉ growTo ps x k) : growTo ps x (k + 1) = growTo ps x k ++ [x.take (k + 1)] := by
  show addp _ _ = _; unfold addp; rw [if_neg h]
set_option maxHeartbeats 1000000 in
theorem grow_any (w : World) (s t : Nat) (ps l : List Tx) (h : Tr w s t ps l) (x : Tx) (a : Option Addr) (cap : Nat) (hb : Bs w s a x) (hz : ps.length + x.length ≤ 1000000000) :
    Calls Tryz.prog 62 #[.pointer (some ⟨t, 0, none⟩), .slice a x.length cap] w fun e w' => e = .returned (.int .i64 (place (grow ps x) x)) ∧ Tr w' s t (grow ps x) l ∧ Below s w w' := by
  have HW := Lib.hid h.2.1
  have HB := Lib.hid hb
  have HT := Lib.hid h
  clear h hb
  go_enter Tryz.func62, Tryz.ntmps62
  go_wp2
  go_loopw [5, 11] (fun v i wr => ∃ k : Nat, k ≤ x.length ∧ i = .int .i64 k ∧ v = .int .i64 (place (growTo ps x k) (x.take k)) ∧ Tr wr s t (growTo ps x k) l ∧ Below s w wr) (fun _ i _ => x.length - (intOf i).toNat)
  case atStart => exact ⟨0, Nat.zero_le _, rfl, by rw [List.take_zero, place_first (l := growTo ps x 0) (k := 0) HW.out.pos HW.out.at0 (fun j hj => by omega)]; rfl, HT.out, Below.refl _ _⟩
  case round =>
    obtain ⟨k, hk, rfl, rfl, htr, hbel⟩ := hrel
    by_cases hlt : k < x.length
    · obtain ⟨bb, off, rfl, hbb, hc⟩ := HB.out.keep hbel (by omega)
      have hck := hc k hlt
      have hm := (growTo_wf HW.out x k (by omega)).2
      have HE := Lib.hid (step_take hlt hm)
      have hlen := growTo_len ps x k
      have HOLD := Lib.hid (growTo_old (ps := ps) (x := x) (k := k))
      have HNEW := Lib.hid (growTo_new (ps := ps) (x := x) (k := k))
      have hkl : (k : Int) < (x.length : Int) := by omega
      have HTK : Hid (x.take (k + 1) = x.take k ++ [x[k]]) := Lib.hid (List.take_succ_eq_append_getElem hlt)
      obtain ⟨i, hi, ei, ei2, _⟩ := place_mem hm
      rw [ei] at HE ⊢
      have hdi : (growTo ps x k)[i].length ≤ 1000000000 := by rw [ei2, List.length_take]; omega
      have HS := Lib.hid (fun n hn c => step_any wr s t _ l htr n hn c)
      have HA := Lib.hid (fun (hq : (growTo ps x k)[i] ++ [x[k]'hlt] ∉ growTo ps x k) => add_any wr s t _ l htr i hi (x[k]'hlt) hq (by omega) hdi)
      rw [ei2, ← HTK.out] at HA
      have HB := Lib.hid hbel
      have HTR := Lib.hid htr
      have HWI : Hid ((Lit.int .i64 (i : Int)).wf = true) := Lib.hid (wf_nat (by omega) (by omega))
      clear hc hm ei2 ei hdi hbel htr
      by_cases hm2 : x.take (k + 1) ∈ growTo ps x k
      · have hy0 : ¬ place (growTo ps x k) (x.take (k + 1)) < 0 := by have := (place_nonneg (growTo ps x k) (x.take (k + 1))).2 hm2; omega
        have HM2 := Lib.hid hm2
        clear hm2
        generalize hy : place (growTo ps x k) (x.take (k + 1)) = y at *
        have HY := Lib.hid hy
        clear hy
        go_wp2_with (go_at_call 66; (with_reducible refine (HS.out (i : Int) HWI.out x[k]).mono ?_); rintro e w1 ⟨rfl, rfl⟩; rw [HE.out])
        go_roundw
        case rel => exact ⟨k + 1, by omega, by go_num, by rw [HOLD.out HM2.out, HY.out], by rw [HOLD.out HM2.out]; exact HTR.out, HB.out⟩
        case measure => simp [intOf]; omega
      · have hy0 : place (growTo ps x k) (x.take (k + 1)) < 0 := by rw [place_not hm2]; omega
        have HM2 := Lib.hid hm2
        clear hm2
        generalize hy : place (growTo ps x k) (x.take (k + 1)) = y at *
        clear hy
        go_wp2_with (first
          | (go_at_call 66; (with_reducible refine (HS.out (i : Int) HWI.out x[k]).mono ?_); rintro e w1 ⟨rfl, rfl⟩; rw [HE.out])
          | (go_at_call 84; (with_reducible refine (HA.out HM2.out).mono ?_); rintro e w1 ⟨rfl, ht1, hb1⟩; have HT1 := Lib.hid ht1; have HB1 := Lib.hid hb1; clear ht1 hb1))
        go_roundw
        case rel => exact ⟨k + 1, by omega, by go_num, by rw [HNEW.out HM2.out, place_snoc_same HM2.out], by rw [HNEW.out HM2.out]; exact HT1.out, HB.out.trans HB1.out⟩
        case measure => simp [intOf]; omega
    · obtain rfl : k = x.length := by omega
      have HTR := Lib.hid htr
      have HB := Lib.hid hbel
      rw [List.take_length]
      clear htr hbel
      go_wp2
      go_ret
      exact ⟨rfl, HTR.out, HB.out⟩
theorem Tr.words {w : World} {s t : Nat} {ps l : List Tx} (h : Tr w s t ps l) {i : Nat} (hi : i < ps.length) : ∃ g cap m, Blk2 w t 135 (.slice (some ⟨g, 0, none⟩) ps.length cap) (.map (some m)) ∧ s ≤ g ∧ g < w.heap.size ∧
    w.cell? ⟨g, i * 4 + 3, none⟩ = some (.int .i64 (place l ps[i])) ∧ w.frozen? ⟨g, i * 4 + 3, none⟩ = false ∧ (ps[i] ∈ l → Tr w s t ps (l ++ [ps[i]])) ∧ (ps[i] ∉ l → Tr (w.setCell ⟨g, i * 4 + 3, none⟩ (.int .i64 (l.length : Int))) s t ps (l ++ [ps[i]])) := by
  obtain ⟨h0, hw, hl, hn, g, cap, m, n, h1, h2, h3, h4, h5⟩ := h
  have hl' : ∀ x ∈ l ++ [ps[i]], x ∈ ps := fun x hx => by
    rcases List.mem_append.1 hx with hx | hx
    · exact hl x hx
    · rw [List.mem_singleton] at hx; rw [hx]; exact List.getElem_mem hi
  have hgt : g ≠ t := fun e => by
    obtain ⟨_, _, cs, hh⟩ := own_block_lt h2 (g := g) rfl
    rw [e] at hh
    have := hh.symm.trans h1
    simp at this
  have hgm : g ≠ m := fun e => by
    obtain ⟨_, _, cs, hh⟩ := own_block_lt h2 (g := g) rfl
    rw [e] at hh
    exact h3.not hh
  refine ⟨g, cap, m, h1, (own_block_lt h2 rfl).1, (own_block_lt h2 rfl).2.1, ?_, h2.frozenAt _, fun hx => ?_, fun hx => ?_⟩
  · rw [h2.cellAt (i * 4 + 3) (by omega), nvals_at _ i 3 (by omega) (by rw [nds_length]; exact hi), nds_at ps l i hi]
    rfl
  · refine ⟨h0, hw, hl', hn, g, cap, m, n, h1, ?_, h3, h4, h5⟩
    rw [nds_word hw hi rfl, if_pos hx]
    exact h2
  · refine ⟨h0, hw, hl', hn, g, cap, m, n, h1.far (fun e => hgt e.symm) _, ?_, h3.same (Below.heap_setCell w ⟨g, i * 4 + 3, none⟩ _ m (fun e => hgm e.symm)), h4, h5⟩
    have := (h2.stored (i * 4 + 3) (.int .i64 (l.length : Int))).1
    rw [nds_word hw hi rfl, if_neg hx]
    rw [nvals_word _ i (by rw [nds_length]; exact hi), nds_at ps l i hi] at this
    exact this
end Go.Proofs.YtcbhjhhajeeimaaGreat.Tri
/- The contract of Build. -/
namespace Go.Proofs.YtcbhjhhajeeimaaGreat.Tri
open Go.RowKit Go.Maps
set_option maxRecDepth 100000

theorem make_map (w : World) : (Instr.makeMap 133 none).run Tryz.prog w = .ok (.map (some w.heap.size)) (w.alloc (.map #[] 0)) := by
  simp [Instr.makeMap, go_sem]
theorem step_root (n : Int) (c : UInt8) : stepOf [[]] n c = -1 := by
  unfold stepOf
  split
  · apply place_not; simp
  · rfl
abbrev ncs : Array Value := #[.int .i64 (-1), .int .u8 0, .int .i64 0, .int .i64 (-1)]
theorem tree_new (w : World) : Tr ((((w.alloc (.cells ncs 130)).alloc (.cells ncs 130)).alloc (.map #[] 0)).alloc (.cells #[.slice (some ⟨w.heap.size + 1, 0, none⟩) 1 1, .map (some (w.heap.size + 1 + 1))] 135)) w.heap.size (w.heap.size + 1 + 1 + 1) [[]] [] ∧
    Below w.heap.size w ((((w.alloc (.cells ncs 130)).alloc (.cells ncs 130)).alloc (.map #[] 0)).alloc (.cells #[.slice (some ⟨w.heap.size + 1, 0, none⟩) 1 1, .map (some (w.heap.size + 1 + 1))] 135)) := by
  constructor
  · refine ⟨by omega, wf_root, (fun x hx => by cases hx), by simp, w.heap.size + 1, 1, w.heap.size + 1 + 1, 0, ?_, ?_, ?_, by omega, by simp⟩
    · have := Blk2.new (((w.alloc (.cells ncs 130)).alloc (.cells ncs 130)).alloc (.map #[] 0)) 135 (.slice (some ⟨w.heap.size + 1, 0, none⟩) 1 1) (.map (some (w.heap.size + 1 + 1)))
      simpa using this
    · have h1 := World.ownsRow_lit (base := w.heap.size) (e := 130) (size := 4) (w.alloc (.cells ncs 130)) ncs 1 (by simp) (by unfold maxLen; omega) rfl
      rw [World.size_alloc] at h1
      rw [nds_root]
      exact (h1.alloc _).alloc _
    · have h1 := mapT_made ((w.alloc (.cells ncs 130)).alloc (.cells ncs 130))
      rw [World.size_alloc, World.size_alloc] at h1
      exact (h1.alloc _).cong fun n c => (step_root n c).symm
  · exact ((((Below.refl _ _).alloc (Nat.le_refl _) _).alloc (by simp) _).alloc (by simp; omega) _).alloc (by simp; omega) _
set_option maxHeartbeats 1000000 in
theorem build_any (w : World) (xs : List TxV) (a : Option Addr) (cap : Nat) (hts : Ts w a xs) (hl : xs.length ≤ 1000000) (hz : tot (xs.map TxV.text) ≤ 100000000) :
    Calls Tryz.prog 44 #[.slice a xs.length cap] w (GivesTr w (paths (xs.map TxV.text)) (xs.map TxV.text)) := by
  have hmm := make_map
  have HT := Lib.hid hts
  clear hts
  obtain ⟨l, hll⟩ : ∃ l, l = xs.map TxV.text := ⟨_, rfl⟩
  rw [← hll] at hz ⊢
  have hlen : xs.length = l.length := by rw [hll]; simp
  have HLT : Hid (∀ i (h : i < xs.length) (h' : i < l.length), xs[i].text = l[i]) := Lib.hid (by subst hll; intro i h h'; simp)
  have HLN := Lib.hid hlen
  clear hll hlen
  go_enter Tryz.func44, Tryz.ntmps44
  go_wp2_with (go_at_call 61; (with_reducible refine (none_any _).mono ?_); rintro e w1 ⟨rfl, rfl⟩)
  obtain ⟨ht0, hb0⟩ := tree_new w
  have HT0 := Lib.hid ht0
  have HB0 := Lib.hid hb0
  clear ht0 hb0 hmm
  generalize w.heap.size + 1 + 1 + 1 = t at *
  generalize (((w.alloc (.cells ncs 130)).alloc (.cells ncs 130)).alloc (.map #[] 0)).alloc (.cells #[.slice (some ⟨w.heap.size + 1, 0, none⟩) 1 1, .map (some (w.heap.size + 1 + 1))] 135) = w0 at *
  go_loopw [14] (fun i wr => ∃ k : Nat, k ≤ xs.length ∧ i = .int .i64 k ∧ Tr wr w.heap.size t (paths (l.take k)) (l.take k) ∧ Below w.heap.size w wr) (fun i _ => xs.length - (intOf i).toNat)
  case atStart => exact ⟨0, Nat.zero_le _, rfl, HT0.out, HB0.out⟩
  case round =>
    obtain ⟨k, hk, rfl, htr, hbel⟩ := hrel
    by_cases hlt : k < xs.length
    · have hlt2 : k < l.length := by rw [← HLN.out]; exact hlt
      obtain ⟨⟨b, off, rfl, hbl, hc⟩, hbs⟩ : (∃ b off, a = some ⟨b, off, none⟩ ∧ b < w.heap.size ∧ ∀ i (h : i < xs.length), w.cell? ⟨b, off + i, none⟩ = some (.slice xs[i].a xs[i].text.length xs[i].cap)) ∧ Bs w w.heap.size xs[k].a xs[k].text :=
        ⟨HT.out.1 (by omega), HT.out.2 _ (List.getElem_mem hlt)⟩
      have hck : wr.cell? ⟨b, off + k, none⟩ = some (.slice xs[k].a xs[k].text.length xs[k].cap) := (hbel.cell (p := ⟨b, off + k, none⟩) hbl).trans (hc k hlt)
      have hplen := paths_len (l.take k)
      have htt := tot_take l k hlt2
      have htl := tot_take_le l (k + 1)
      have hbs2 := hbs.keep hbel
      rw [HLT.out k hlt hlt2] at hck hbs2
      have HP := Lib.hid (paths_take l k hlt2)
      have HTK : Hid (l.take (k + 1) = l.take k ++ [l[k]]) := Lib.hid (List.take_succ_eq_append_getElem hlt2)
      have HKL : Hid ((l.take k).length = k) := Lib.hid (by rw [List.length_take]; omega)
      have HG := Lib.hid (grow_any wr w.heap.size t _ _ htr l[k] xs[k].a xs[k].cap hbs2 (by omega))
      have HX := Lib.hid (grow_mem _ htr.2.1 l[k])
      have hkl : (k : Int) < (xs.length : Int) := by omega
      have HB := Lib.hid hbel
      clear hc hbs hbs2 htr hbel hplen htt htl
      generalize l[k] = x at *
      generalize xs[k].a = ax at *
      generalize xs[k].cap = cx at *
      have hbz : b < wr.heap.size := cell_lt0 hck
      generalize hzz : place (l.take k) x = z at *
      have HZ := Lib.hid hzz
      clear hlt2
      by_cases hin : x ∈ l.take k
      · have hz0 : ¬ z < 0 := by rw [← hzz]; have := (place_nonneg (l.take k) x).2 hin; omega
        have HIN := Lib.hid hin
        clear hin hzz
        go_wp2_with (go_at_call 62; (with_reducible refine HG.out.mono ?_); rintro e w1 ⟨rfl, ht1, hb1⟩; obtain ⟨i, hi, ei, ei2, _⟩ := place_mem HX.out; obtain ⟨g, cap1, m, hk1, hsg, hgz, hcw, hfz, hold, hnew⟩ := ht1.words hi; obtain ⟨c0, c1⟩ := hk1.cells; rw [ei]; rw [ei2] at hcw hold hnew; rw [HZ.out] at hcw; have hlen1 := ht1.2.2.2.1; have HB1 := Lib.hid hb1; have HOLD := Lib.hid hold; have HNEW := Lib.hid hnew; have hin : (i : Int) < ((grow (paths (l.take k)) x).length : Int) := (by omega); clear hold hnew hb1 hk1 ei ht1)
        go_roundw
        case rel => exact ⟨k + 1, by omega, by go_num, by rw [HP.out, HTK.out]; exact HOLD.out HIN.out, HB.out.trans HB1.out⟩
        case measure => simp [intOf]; omega
      · have hz0 : z < 0 := by rw [← hzz, place_not hin]; omega
        have HIN := Lib.hid hin
        clear hin hzz
        go_wp2_with (go_at_call 62; (with_reducible refine HG.out.mono ?_); rintro e w1 ⟨rfl, ht1, hb1⟩; obtain ⟨i, hi, ei, ei2, _⟩ := place_mem HX.out; obtain ⟨g, cap1, m, hk1, hsg, hgz, hcw, hfz, hold, hnew⟩ := ht1.words hi; obtain ⟨c0, c1⟩ := hk1.cells; rw [ei]; rw [ei2] at hcw hold hnew; rw [HZ.out] at hcw; have hlen1 := ht1.2.2.2.1; have HB1 := Lib.hid hb1; have HOLD := Lib.hid hold; have HNEW := Lib.hid hnew; have hin : (i : Int) < ((grow (paths (l.take k)) x).length : Int) := (by omega); clear hold hnew hb1 hk1 ei ht1)
        go_roundw
        case rel =>
          have hn := HNEW.out HIN.out
          rw [HKL.out] at hn
          exact ⟨k + 1, by omega, by go_num, by rw [HP.out, HTK.out]; exact hn, (HB.out.trans HB1.out).setCell (p := ⟨g, i * 4 + 3, none⟩) hsg _⟩
        case measure => simp [intOf]; omega
    · obtain rfl : k = xs.length := by omega
      have et : l.take xs.length = l := List.take_of_length_le (by rw [HLN.out]; exact Nat.le_refl _)
      rw [et] at htr
      have HTR := Lib.hid htr
      have HB := Lib.hid hbel
      clear htr hbel et
      go_wp2
      go_ret
      exact ⟨t, rfl, HTR.out, HB.out⟩
end Go.Proofs.YtcbhjhhajeeimaaGreat.Tri
/- Contracts of the reference: Place, Paths, Kids; of the statements' own 'texts'. -/
namespace Go.Proofs.YtcbhjhhajeeimaaGreat.Tri
open Go.RowKit Go.Maps
set_option maxRecDepth 100000

theorem str_beq (x y : Tx) : ((str x).toList == (str y).toList) = decide (x = y) := by
  have e : ∀ z : Tx, (str z).toList = z := fun z => by simp [str]
  rw [e, e, Bool.eq_iff_iff]; simp
set_option maxHeartbeats 1000000 in
theorem place_any (w : World) (ps : List Tx) (a : Option Addr) (cap : Nat) (hs : Ss w a ps) (hl : ps.length ≤ 1000000000) (s : Tx) :
    Calls Tryz.prog 38 #[.slice a ps.length cap, .string (str s)] w fun e w' => e = .returned (.int .i64 (place ps s)) ∧ w = w' := by
  have HS := Lib.hid hs
  clear hs
  go_enter Tryz.func38, Tryz.ntmps38
  go_wp2
  go_loop [5] (fun i => ∃ k : Nat, k ≤ ps.length ∧ i = .int .i64 k ∧ ∀ j (h : j < k) (h' : j < ps.length), ps[j] ≠ s) (fun i => ps.length - (intOf i).toNat)
  case atStart => exact ⟨0, Nat.zero_le _, rfl, fun j h => by omega⟩
  case round =>
    obtain ⟨k, hk, rfl, hno⟩ := hrel
    have HNO := Lib.hid hno
    clear hno
    by_cases hlt : k < ps.length
    · obtain ⟨b, off, rfl, hbl, hc⟩ := HS.out (by omega)
      have hck := hc k hlt
      have hkl : (k : Int) < (ps.length : Int) := by omega
      clear hc
      by_cases he : ps[k] = s
      · have hd : ((str ps[k]).toList == (str s).toList) = true := by rw [str_beq]; exact decide_eq_true he
        have HP : Hid (place ps s = (k : Int)) := Lib.hid (place_first hlt he (fun j hj => HNO.out j hj (by omega)))
        clear he
        go_wp2
        go_ret
        exact ⟨ret_int HP.out.symm, rfl⟩
      · have hd : ((str ps[k]).toList == (str s).toList) = false := by rw [str_beq]; exact decide_eq_false he
        have HE := Lib.hid he
        clear he
        go_wp2
        go_round
        case rel => exact ⟨k + 1, by omega, by go_num, fun j h h' => by
          by_cases hjk : j = k
          · subst hjk; exact HE.out
          · exact HNO.out j (by omega) h'⟩
        case measure => simp [intOf]; omega
    · have HP : Hid (place ps s = -1) := Lib.hid (place_none fun j hj => HNO.out j (by omega) hj)
      go_wp2
      go_ret
      exact ⟨ret_int HP.out.symm, rfl⟩
theorem str_take (x : Tx) (k : Nat) : (str x).extract 0 k = str (x.take k) := by
  unfold str
  rw [ByteArray.extract_mk]
  congr 1
def GivesSs (w : World) (ps : List Tx) (e : Ending) (w' : World) : Prop := ∃ a cap, e = .returned (.slice a ps.length cap) ∧ Ss w' a ps ∧ Below w.heap.size w w'
theorem svals_length (xs : List Tx) : (svals xs).length = xs.length := by simp [svals]
set_option maxHeartbeats 2000000 in
theorem paths_any (w : World) (l : List Tx) (a : Option Addr) (cap : Nat) (hs : Ss w a l) (hl : l.length ≤ 1000000) (hz : tot l ≤ 100000000) :
    Calls Tryz.prog 28 #[.slice a l.length cap] w (GivesSs w (paths l)) := by
  have HS := Lib.hid hs
  clear hs
  go_enter Tryz.func28, Tryz.ntmps28
  go_wp2
  go_loopw [3, 4, 5] (fun v i _ wr => ∃ k : Nat, k ≤ l.length ∧ i = .int .i64 k ∧ wr.ownsRow w.heap.size 9 1 v (paths (l.take k)).length (svals (paths (l.take k))) ∧ Below w.heap.size w wr) (fun _ i _ _ => l.length - (intOf i).toNat)
  case atStart =>
    refine ⟨0, Nat.zero_le _, rfl, ?_, (Below.refl _ _).alloc (Nat.le_refl _) _⟩
    exact World.ownsRow_lit (base := w.heap.size) (e := 9) (size := 1) w #[.string (str [])] 1 (Nat.le_refl _) (by unfold maxLen; omega) rfl
  case round =>
    obtain ⟨k, hk, rfl, hown, hbel⟩ := hrel
    by_cases hlt : k < l.length
    · obtain ⟨b, off, rfl, hbl, hc⟩ := HS.out (by omega)
      have hkl : (k : Int) < (l.length : Int) := by omega
      have hplen := paths_len (l.take k)
      have htt := tot_take l k hlt
      have htl := tot_take_le l (k + 1)
      have HP := Lib.hid (paths_take l k hlt)
      have HCK := Lib.hid (hc k hlt)
      have HW := Lib.hid (paths_wf (l.take k))
      have hsz := str_size l[k]
      clear hc
      generalize l[k] = x at *
      generalize hps : paths (l.take k) = ps at *
      have hpz : ps.length + x.length ≤ 100000001 := by omega
      clear htt htl hplen hps
      go_wp2
      go_loopw [3, 5] (fun v i wr => ∃ j : Nat, j ≤ x.length ∧ i = .int .i64 ((j : Int) + 1) ∧ wr.ownsRow w.heap.size 9 1 v (growTo ps x j).length (svals (growTo ps x j)) ∧ Below w.heap.size w wr) (fun _ i _ => x.length + 1 - (intOf i).toNat)
      case atStart => exact ⟨0, Nat.zero_le _, rfl, hown, hbel⟩
      case round =>
        obtain ⟨j, hj, rfl, hown2, hbel2⟩ := hrel
        have hck := (hbel2.cell (p := ⟨b, off + k, none⟩) hbl).trans HCK.out
        by_cases hjx : j < x.length
        · have hjl : (j : Int) + 1 ≤ (x.length : Int) := by omega
          have hext := str_take x (j + 1)
          have hgl := growTo_len ps x j
          have hsz2 := hbel2.size
          obtain ⟨av, cv, rfl, hss, _, _⟩ := own_ss hown2
          have HPL := Lib.hid (place_any wr (growTo ps x j) av cv hss (by omega) (x.take (j + 1)))
          have HOLD := Lib.hid (growTo_old (ps := ps) (x := x) (k := j))
          have HNEW := Lib.hid (growTo_new (ps := ps) (x := x) (k := j))
          have HO := Lib.hid hown2
          have HB := Lib.hid hbel2
          clear hss hown2 hbel2 hown hbel
          by_cases hm : x.take (j + 1) ∈ growTo ps x j
          · have hy0 : ¬ place (growTo ps x j) (x.take (j + 1)) < 0 := by have := (place_nonneg (growTo ps x j) (x.take (j + 1))).2 hm; omega
            have HM := Lib.hid hm
            clear hm
            generalize place (growTo ps x j) (x.take (j + 1)) = y at *
            go_wp2_with (go_at_call 38; (with_reducible refine HPL.out.mono ?_); rintro e w1 ⟨rfl, rfl⟩)
            exact ⟨⟨j + 1, by omega, by go_num, by rw [HOLD.out HM.out]; exact HO.out, HB.out⟩, by simp [intOf]; omega⟩
          · have hy0 : place (growTo ps x j) (x.take (j + 1)) < 0 := by rw [place_not hm]; omega
            have HM := Lib.hid hm
            clear hm
            generalize place (growTo ps x j) (x.take (j + 1)) = y at *
            go_wp2_with (first
              | (go_at_call 38; (with_reducible refine HPL.out.mono ?_); rintro e w1 ⟨rfl, rfl⟩)
              | (at_builtin; refine app_ss rfl _ _ rfl w.heap.size _ _ _ (x.take (j + 1)) rfl (HO.out.alloc _) ⟨wr.heap.size, 0, none⟩ rfl (cell_new1 _ _ _) (by omega) (by simp; omega) ?_; intro v2 w2 hown3 hg3))
            refine ⟨⟨j + 1, by omega, by go_num, ?_, (HB.out.alloc hsz2 _).grown hg3 (by simp; omega) (fun q hq => own_ge HO.out hq)⟩, by simp [intOf]; omega⟩
            rw [HNEW.out HM.out, List.length_append]
            exact hown3
        · have hjl : ¬ (j : Int) + 1 ≤ (x.length : Int) := by omega
          obtain rfl : j = x.length := by omega
          have HO := Lib.hid hown2
          have HB := Lib.hid hbel2
          clear hown2 hbel2 hown hbel
          go_wp2
          exact ⟨⟨k + 1, by omega, by go_num, by rw [HP.out]; exact HO.out, HB.out⟩, by simp [intOf]; omega⟩
    · obtain rfl : k = l.length := by omega
      rw [List.take_length] at hown
      obtain ⟨av, cv, rfl, hss, _, _⟩ := own_ss hown
      have HSS := Lib.hid hss
      have HB := Lib.hid hbel
      clear hss hown hbel
      go_wp2
      go_ret
      exact ⟨av, cv, rfl, HSS.out, HB.out⟩
end Go.Proofs.YtcbhjhhajeeimaaGreat.Tri
/- Contracts of the reference's Kids, and of the statements' own 'texts'. -/
namespace Go.Proofs.YtcbhjhhajeeimaaGreat.Tri
open Go.RowKit Go.Maps
set_option maxRecDepth 100000

theorem conv_one (w : World) (c : UInt8) : (convert 23 9 (.slice (some ⟨w.heap.size, 0, none⟩) 1 1)).run Tryz.prog (w.alloc (.cells #[.int .u8 (c.toNat : Int)] 5)) = .ok (.string (str [c])) (w.alloc (.cells #[.int .u8 (c.toNat : Int)] 5)) :=
  str_of_bs (l := [c]) 1 (bs_lit w [c] (0, 0) #[.int .u8 (c.toNat : Int)] rfl)
theorem str_append (x y : Tx) : str x ++ str y = str (x ++ y) := by
  unfold str
  apply ByteArray.ext
  simp
/-- The bytes that lead on from a beginning, as the document tells them. -/
def rkids (ps : List Tx) (s : Tx) : List UInt8 := kidsTo (fun c => decide (0 ≤ place ps (s ++ [c]))) 256
def GivesL (w : World) (xs : List TxV) (e : Ending) (w' : World) : Prop :=
  Below w.heap.size w w' ∧ ((¬ ∀ x ∈ xs, x.text.length ≤ 40) ∧ e = .returned (.tuple #[.slice none 0 0, .bool false]) ∨
    (∀ x ∈ xs, x.text.length ≤ 40) ∧ ∃ a' cap', e = .returned (.tuple #[.slice a' xs.length cap', .bool (decide (xs.length ≤ 12))]) ∧ Ss w' a' (xs.map TxV.text))
theorem takes_snoc {α : Type} (l : List α) (k : Nat) (h : k < l.length) : l.take (k + 1) = l.take k ++ [l[k]] := List.take_succ_eq_append_getElem h
theorem map_at (xs : List TxV) (k : Nat) (h : k < xs.length) : (xs.map TxV.text)[k]'(by simpa using h) = xs[k].text := by simp
end Go.Proofs.YtcbhjhhajeeimaaGreat.Tri
/- The contract of the statements' own 'texts'. -/
namespace Go.Proofs.YtcbhjhhajeeimaaGreat.Tri
open Go.RowKit Go.Maps
set_option maxRecDepth 100000

set_option maxHeartbeats 4000000 in
theorem ltexts_any (xs : List TxV) (a : Option Addr) (cap : Nat) (w : World) (hts : Ts w a xs) (hl : xs.length ≤ 6000000000000) (hm : ∀ x ∈ xs, x.text.length ≤ maxLen) :
    Calls Tryz.prog 9 #[.slice a xs.length cap] w (GivesL w xs) := by
  unfold maxLen at hm
  have HT := Lib.hid hts
  have HM := Lib.hid hm
  clear hts hm
  go_enter Tryz.func9, Tryz.ntmps9
  go_wp2
  go_loopw [4, 5] (fun v i wr => ∃ k : Nat, k ≤ xs.length ∧ i = .int .i64 k ∧ wr.ownsRow w.heap.size 9 1 v k (svals ((xs.map TxV.text).take k)) ∧ (∀ x ∈ xs.take k, x.text.length ≤ 40) ∧ Below w.heap.size w wr)
    (fun _ i _ => xs.length - (intOf i).toNat)
  case atStart => exact ⟨0, Nat.zero_le _, rfl, World.ownsRow_nil _ _ _ _, (fun x hx => by cases hx), Below.refl _ _⟩
  case round =>
    obtain ⟨k, hk, rfl, hown, hall, hbel⟩ := hrel
    have HA := Lib.hid hall
    clear hall
    by_cases hlt : k < xs.length
    · obtain ⟨⟨b, off, rfl, hbl, hc⟩, hbs⟩ : (∃ b off, a = some ⟨b, off, none⟩ ∧ b < w.heap.size ∧ ∀ i (h : i < xs.length), w.cell? ⟨b, off + i, none⟩ = some (.slice xs[i].a xs[i].text.length xs[i].cap)) ∧ Bs w w.heap.size xs[k].a xs[k].text :=
        ⟨HT.out.1 (by omega), HT.out.2 _ (List.getElem_mem hlt)⟩
      have hck : wr.cell? ⟨b, off + k, none⟩ = some (.slice xs[k].a xs[k].text.length xs[k].cap) := (hbel.cell (p := ⟨b, off + k, none⟩) hbl).trans (hc k hlt)
      have hcv := str_of_bs xs[k].cap (hbs.keep hbel)
      have hxm : xs[k].text.length ≤ 9223372036854775807 := HM.out _ (List.getElem_mem hlt)
      have HS := Lib.hid (takes_snoc (xs.map TxV.text) k (by simpa using hlt))
      have HS2 := Lib.hid (takes_snoc xs k hlt)
      rw [map_at xs k hlt] at HS
      have hsr := hbel.size
      clear hc hbs
      by_cases h3 : 40 < xs[k].text.length
      · go_wp2
        refine bodyPost_ret (v := .tuple #[.slice none 0 0, .bool false]) (by simp [results, Tryz.results9, go_sem]) rfl ?_
        refine ⟨hbel, .inl ⟨fun h => ?_, rfl⟩⟩
        have := h _ (List.getElem_mem hlt)
        omega
      · go_wp2_with (at_builtin; refine app_ss rfl _ _ rfl w.heap.size _ _ _ xs[k].text rfl (hown.alloc _) ⟨wr.heap.size, 0, none⟩ rfl (cell_new1 _ _ _) (by omega) (by simp; omega) ?_; intro v2 w2 hown2 hg2)
        go_roundw
        case rel =>
          refine ⟨k + 1, by omega, by go_num, ?_, ?_, ?_⟩
          · rw [HS.out]; exact hown2
          · rw [HS2.out]
            intro x hx
            rcases List.mem_append.1 hx with hx | hx
            · exact HA.out x hx
            · rw [List.mem_singleton] at hx; subst hx; omega
          · exact (hbel.alloc hsr _).grown hg2 (by simp; omega) (fun q hq => own_ge hown hq)
        case measure => simp [intOf]; omega
    · have et : (xs.map TxV.text).take k = xs.map TxV.text := List.take_of_length_le (by simp; omega)
      have et2 : xs.take k = xs := List.take_of_length_le (by omega)
      rw [et] at hown
      rw [et2] at HA
      obtain ⟨a2, cap2, rfl, hss, _⟩ := own_ss hown
      have HSS := Lib.hid hss
      clear hss et et2
      have e : (xs.map TxV.text).length = xs.length := by simp
      rw [e] at hown ⊢
      clear e
      go_wp2
      have e2 : decide ((xs.length : Int) ≤ 12) = decide (xs.length ≤ 12) := decide_eq_decide.2 (by omega)
      refine bodyPost_ret (v := .tuple #[.slice a2 xs.length cap2, .bool (decide ((xs.length : Int) ≤ 12))]) (by simp [results, Tryz.results9, go_sem]) rfl ?_
      rw [e2]
      exact ⟨hbel, .inr ⟨HA.out, a2, cap2, rfl, HSS.out⟩⟩
end Go.Proofs.YtcbhjhhajeeimaaGreat.Tri
