/- Package by package: TMath TBase Ta Tb Tc Td Te Tf Tg Th Tl. -/
import Derived.Test.YtlpjghhmacobdaaGB
import Derived.Deep.AppendLies
import Derived.Deep.DrawnRows
import Derived.Deep.RegionHeld3
import Derived.Deep.RegionLaw
import Derived.DeepKeys4
import Derived.Laws.OwnMore
import Derived.Lib.ConvBytes
import Derived.Maps.AppendAt
import Derived.Maps.OwnSet
import Derived.StillTailTactics
/- Trees of texts: where a text stands among some, the beginnings of texts in the order of their numbers, what a tree tells. -/
namespace Go.Proofs.Ytlpjghhmacobdaa.Tri
set_option maxRecDepth 100000

abbrev Tx := List UInt8
/-- Where a text stands among some; -1: nowhere. -/
def place (l : List Tx) (s : Tx) : Int := if s ∈ l then ((l.idxOf s : Nat) : Int) else -1
theorem place_mem {l : List Tx} {s : Tx} (h : s ∈ l) : ∃ i, ∃ hi : i < l.length, place l s = (i : Int) ∧ l[i] = s ∧ l.idxOf s = i := by
  have hi : l.idxOf s < l.length := List.idxOf_lt_length_of_mem h
  exact ⟨l.idxOf s, hi, by rw [place, if_pos h], List.getElem_idxOf hi, rfl⟩
theorem place_not {l : List Tx} {s : Tx} (h : s ∉ l) : place l s = -1 := if_neg h
theorem place_nonneg (l : List Tx) (s : Tx) : 0 ≤ place l s ↔ s ∈ l := by
  unfold place
  split
  · rename_i h; exact ⟨fun _ => h, fun _ => by omega⟩
  · rename_i h; exact ⟨fun e => by omega, fun e => absurd e h⟩
theorem place_neg (l : List Tx) (s : Tx) : place l s < 0 ↔ s ∉ l := by rw [← place_nonneg]; omega
theorem place_ge (l : List Tx) (s : Tx) : -1 ≤ place l s := by
  unfold place; split <;> omega
theorem place_lt (l : List Tx) (s : Tx) : place l s < l.length := by
  by_cases h : s ∈ l
  · obtain ⟨i, hi, e, _⟩ := place_mem h; omega
  · rw [place_not h]; omega
theorem idxOf_first : ∀ (l : List Tx) (s : Tx) (k : Nat) (hk : k < l.length), l[k] = s → (∀ j (h : j < k), l[j] ≠ s) → l.idxOf s = k
  | [], _, k, hk, _, _ => absurd hk (by simp)
  | x :: l, s, 0, _, e, _ => by simp at e; simp [e]
  | x :: l, s, k + 1, hk, e, hn => by
    have h0 : x ≠ s := hn 0 (by omega)
    have := idxOf_first l s k (by simpa using hk) (by simpa using e) (fun j hj => by have := hn (j + 1) (by omega); simpa using this)
    have hb : (x == s) = false := beq_eq_false_iff_ne.2 h0
    rw [List.idxOf_cons, this, hb]
    rfl
theorem place_first {l : List Tx} {s : Tx} {k : Nat} (hk : k < l.length) (e : l[k] = s) (hn : ∀ j (h : j < k), l[j] ≠ s) : place l s = k := by
  rw [place, if_pos (e ▸ List.getElem_mem hk), idxOf_first l s k hk e hn]
theorem place_none {l : List Tx} {s : Tx} (hn : ∀ j (h : j < l.length), l[j] ≠ s) : place l s = -1 :=
  place_not fun h => by obtain ⟨i, hi, e⟩ := List.getElem_of_mem h; exact hn i hi e
theorem nd_inj {l : List Tx} (hd : l.Nodup) {i j : Nat} {hi : i < l.length} {hj : j < l.length} (e : l[i] = l[j]) : i = j := by
  have h := List.pairwise_iff_getElem.1 hd
  rcases Nat.lt_trichotomy i j with h1 | h1 | h1
  · exact absurd e (h i j hi hj h1)
  · exact h1
  · exact absurd e.symm (h j i hj hi h1)
theorem place_at {l : List Tx} (hd : l.Nodup) {i : Nat} (hi : i < l.length) : place l l[i] = i :=
  place_first hi rfl fun j hj e => absurd (nd_inj hd e) (by omega)
theorem place_left {l : List Tx} (m : List Tx) {s : Tx} (h : s ∈ l) : place (l ++ m) s = place l s := by
  rw [place, place, if_pos h, if_pos (List.mem_append_left _ h), List.idxOf_append, if_pos h]
theorem place_right {l m : List Tx} {s : Tx} (h : s ∉ l) (h' : s ∈ m) : place (l ++ m) s = l.length + place m s := by
  rw [place, place, if_pos h', if_pos (List.mem_append_right _ h'), List.idxOf_append, if_neg h]
  omega
theorem place_snoc_other {l : List Tx} {q s : Tx} (h : s ≠ q) : place (l ++ [q]) s = place l s := by
  by_cases hs : s ∈ l
  · exact place_left _ hs
  · rw [place_not hs, place_not]
    intro e
    rcases List.mem_append.1 e with e | e
    · exact hs e
    · exact h (by simpa using e)
theorem place_snoc_same {l : List Tx} {q : Tx} (h : q ∉ l) : place (l ++ [q]) q = l.length := by
  rw [place_right h (by simp)]
  have : place [q] q = (0 : Nat) := place_first (l := [q]) (k := 0) (by simp) rfl (fun j hj => by omega)
  rw [this]; simp
/-- A tree's beginnings, in the order of their numbers. -/
structure Wf (ps : List Tx) : Prop where
  nodup : ps.Nodup
  root : ps[0]? = some []
  up : ∀ i (h : i < ps.length), ps[i] ≠ [] → ∃ j, ∃ hj : j < i, ps[j] = ps[i].dropLast
theorem wf_root : Wf [[]] := ⟨by simp, rfl, fun i h hn => by
  obtain rfl : i = 0 := by simp at h; omega
  exact absurd rfl hn⟩
theorem Wf.pos {ps : List Tx} (h : Wf ps) : 0 < ps.length := by
  have := h.root
  rw [List.getElem?_eq_some_iff] at this
  exact this.1
theorem Wf.at0 {ps : List Tx} (h : Wf ps) : ps[0]'h.pos = [] := by
  have := h.root
  rw [List.getElem?_eq_getElem h.pos] at this
  exact Option.some.inj this
theorem Wf.nil_mem {ps : List Tx} (h : Wf ps) : [] ∈ ps := by
  have := List.getElem_mem h.pos
  rwa [h.at0] at this
theorem Wf.nil_iff {ps : List Tx} (h : Wf ps) {i : Nat} (hi : i < ps.length) : ps[i] = [] ↔ i = 0 := by
  constructor
  · intro e
    have := h.at0
    rw [← e] at this
    exact (nd_inj h.nodup this).symm
  · rintro rfl; exact h.at0
theorem Wf.closed {ps : List Tx} (h : Wf ps) {p : Tx} {c : UInt8} (hm : p ++ [c] ∈ ps) : p ∈ ps := by
  obtain ⟨i, hi, e⟩ := List.getElem_of_mem hm
  obtain ⟨j, hj, e2⟩ := h.up i hi (by rw [e]; simp)
  rw [e, List.dropLast_concat] at e2
  rw [← e2]
  exact List.getElem_mem _
theorem Wf.closed_drop {ps : List Tx} (h : Wf ps) {p : Tx} (hm : p ∈ ps) (hn : p ≠ []) : p.dropLast ∈ ps := by
  apply h.closed (c := p.getLast hn)
  rw [List.dropLast_concat_getLast]; exact hm
theorem Wf.closed_take {ps : List Tx} (h : Wf ps) {p q : Tx} (hm : p ++ q ∈ ps) : p ∈ ps := by
  induction q generalizing p with
  | nil => simpa using hm
  | cons c q ih =>
    have := ih (p := p ++ [c]) (by simpa using hm)
    exact h.closed this
theorem Wf.snoc {ps : List Tx} (h : Wf ps) {p : Tx} {c : UInt8} (hp : p ∈ ps) (hq : p ++ [c] ∉ ps) : Wf (ps ++ [p ++ [c]]) := by
  refine ⟨?_, ?_, fun i hi hn => ?_⟩
  · rw [List.nodup_append]
    refine ⟨h.nodup, by simp, fun a ha b hb e => ?_⟩
    have : b = p ++ [c] := by simpa using hb
    exact hq (by rw [← this, ← e]; exact ha)
  · rw [List.getElem?_append_left h.pos]; exact h.root
  · by_cases hlt : i < ps.length
    · rw [List.getElem_append_left hlt] at hn
      obtain ⟨j, hj, e⟩ := h.up i hlt hn
      refine ⟨j, hj, ?_⟩
      rw [List.getElem_append_left hlt, List.getElem_append_left (by omega)]
      exact e
    · obtain rfl : i = ps.length := by simp at hi; omega
      obtain ⟨j, hj, e⟩ := List.getElem_of_mem hp
      refine ⟨j, hj, ?_⟩
      rw [List.getElem_append_left hj, e, List.getElem_append_right (by omega)]
      simp
/-- One beginning more, unless it is there. -/
def addp (ps : List Tx) (q : Tx) : List Tx := if q ∈ ps then ps else ps ++ [q]
/-- A text's beginnings of up to k bytes more. -/
def growTo (ps : List Tx) (x : Tx) : Nat → List Tx
  | 0 => ps
  | k + 1 => addp (growTo ps x k) (x.take (k + 1))
def grow (ps : List Tx) (x : Tx) : List Tx := growTo ps x x.length
/-- All beginnings of texts. -/
def paths (l : List Tx) : List Tx := l.foldl grow [[]]
theorem paths_snoc (l : List Tx) (x : Tx) : paths (l ++ [x]) = grow (paths l) x := by simp [paths, List.foldl_append]
theorem paths_take (l : List Tx) (k : Nat) (h : k < l.length) : paths (l.take (k + 1)) = grow (paths (l.take k)) l[k] := by
  rw [List.take_succ_eq_append_getElem h, paths_snoc]
theorem growTo_wf {ps : List Tx} (h : Wf ps) (x : Tx) : ∀ k, k ≤ x.length → Wf (growTo ps x k) ∧ x.take k ∈ growTo ps x k
  | 0, _ => ⟨h, by simpa [growTo] using h.nil_mem⟩
  | k + 1, hk => by
    obtain ⟨h1, h2⟩ := growTo_wf h x k (by omega)
    unfold growTo addp
    split
    · rename_i hm; exact ⟨h1, hm⟩
    · rename_i hm
      refine ⟨?_, by simp⟩
      rw [List.take_succ_eq_append_getElem (by omega)] at hm ⊢
      exact h1.snoc h2 hm
theorem growTo_sub (ps : List Tx) (x : Tx) : ∀ k, ∃ m, growTo ps x k = ps ++ m ∧ m.length ≤ k ∧ ∀ q ∈ m, ∃ j, q = x.take j
  | 0 => ⟨[], by simp [growTo], by simp, fun q hq => by cases hq⟩
  | k + 1 => by
    obtain ⟨m, e, hl, hm⟩ := growTo_sub ps x k
    unfold growTo addp
    split
    · exact ⟨m, e, by omega, hm⟩
    · refine ⟨m ++ [x.take (k + 1)], by rw [e]; simp, by simp; omega, fun q hq => ?_⟩
      rcases List.mem_append.1 hq with hq | hq
      · exact hm q hq
      · exact ⟨k + 1, by simpa using hq⟩
theorem grow_mem (ps : List Tx) (h : Wf ps) (x : Tx) : x ∈ grow ps x := by
  have := (growTo_wf h x x.length (Nat.le_refl _)).2
  rwa [List.take_length] at this
theorem paths_wf : ∀ l : List Tx, Wf (paths l) := fun l => by
  unfold paths
  suffices ∀ ps, Wf ps → Wf (l.foldl grow ps) from this _ wf_root
  induction l with
  | nil => exact fun ps h => h
  | cons x l ih => exact fun ps h => ih _ (growTo_wf h x x.length (Nat.le_refl _)).1
theorem fold_sub (l : List Tx) (ps : List Tx) : ∃ m, l.foldl grow ps = ps ++ m := by
  induction l generalizing ps with
  | nil => exact ⟨[], by simp⟩
  | cons x l ih =>
    obtain ⟨m1, e1, _⟩ := growTo_sub ps x x.length
    obtain ⟨m2, e2⟩ := ih (grow ps x)
    exact ⟨m1 ++ m2, by rw [List.foldl_cons, e2, grow, e1, List.append_assoc]⟩
theorem paths_append (l m : List Tx) : ∃ z, paths (l ++ m) = paths l ++ z := by
  unfold paths
  rw [List.foldl_append]
  exact fold_sub m _
/-- How many bytes texts have. -/
def tot (l : List Tx) : Nat := (l.map List.length).sum
theorem tot_snoc (l : List Tx) (x : Tx) : tot (l ++ [x]) = tot l + x.length := by simp [tot]
theorem tot_take (l : List Tx) (k : Nat) (h : k < l.length) : tot (l.take (k + 1)) = tot (l.take k) + l[k].length := by
  rw [List.take_succ_eq_append_getElem h, tot_snoc]
theorem tot_append (l m : List Tx) : tot (l ++ m) = tot l + tot m := by simp [tot]
theorem tot_take_le (l : List Tx) (k : Nat) : tot (l.take k) ≤ tot l := by
  have := tot_append (l.take k) (l.drop k)
  rw [List.take_append_drop] at this
  omega
theorem tot_le (l : List Tx) (b : Nat) (h : ∀ x ∈ l, x.length ≤ b) : tot l ≤ l.length * b := by
  induction l with
  | nil => simp [tot]
  | cons x l ih =>
    have h1 := h x (by simp)
    have h2 := ih fun y hy => h y (by simp [hy])
    have e : tot (x :: l) = x.length + tot l := by simp [tot]
    rw [e, List.length_cons, Nat.add_mul]
    omega
theorem paths_len (l : List Tx) : (paths l).length ≤ 1 + tot l := by
  unfold paths
  suffices ∀ ps : List Tx, (l.foldl grow ps).length ≤ ps.length + tot l from by have := this [[]]; simpa [Nat.add_comm] using this
  induction l with
  | nil => exact fun ps => by simp [tot]
  | cons x l ih =>
    intro ps
    obtain ⟨m, e, hm, _⟩ := growTo_sub ps x x.length
    have h1 := ih (grow ps x)
    have e2 : tot (x :: l) = x.length + tot l := by simp [tot]
    rw [List.foldl_cons, e2]
    rw [grow, e, List.length_append] at h1
    rw [grow, e]
    omega
theorem paths_sub (l : List Tx) : ∀ x ∈ l, x ∈ paths l := by
  unfold paths
  suffices ∀ ps, Wf ps → ∀ x ∈ l, x ∈ l.foldl grow ps from this _ wf_root
  induction l with
  | nil => exact fun ps _ x hx => by cases hx
  | cons y l ih =>
    intro ps h x hx
    have hw := (growTo_wf h y y.length (Nat.le_refl _)).1
    rcases List.mem_cons.1 hx with rfl | hx
    · obtain ⟨m, e⟩ := fold_sub l (grow ps x)
      rw [List.foldl_cons, e]
      exact List.mem_append_left _ (grow_mem ps h x)
    · exact ih _ hw x hx
theorem paths_mem (l : List Tx) (p : Tx) : p ∈ paths l ↔ p = [] ∨ ∃ x ∈ l, ∃ q, p ++ q = x := by
  constructor
  · unfold paths
    suffices ∀ ps : List Tx, p ∈ l.foldl grow ps → p ∈ ps ∨ ∃ x ∈ l, ∃ q, p ++ q = x from fun h => (this [[]] h).imp (by simp) id
    induction l with
    | nil => exact fun ps h => .inl h
    | cons y l ih =>
      intro ps h
      rcases ih _ h with h | ⟨x, hx, q, e⟩
      · obtain ⟨m, e, _, hm⟩ := growTo_sub ps y y.length
        rw [grow, e] at h
        rcases List.mem_append.1 h with h | h
        · exact .inl h
        · obtain ⟨j, rfl⟩ := hm p h
          exact .inr ⟨y, by simp, y.drop j, List.take_append_drop j y⟩
      · exact .inr ⟨x, by simp [hx], q, e⟩
  · rintro (rfl | ⟨x, hx, q, rfl⟩)
    · exact (paths_wf l).nil_mem
    · exact (paths_wf l).closed_take (paths_sub l _ hx)
/-- The beginning that a number stands for. -/
def pathOf (ps : List Tx) (n : Int) : Option Tx := if 0 ≤ n then ps[n.toNat]? else none
theorem pathOf_at {ps : List Tx} {i : Nat} (h : i < ps.length) : pathOf ps (i : Int) = some ps[i] := by
  unfold pathOf
  rw [if_pos (by omega)]
  simp [h]
theorem pathOf_some {ps : List Tx} {n : Int} {p : Tx} (h : pathOf ps n = some p) : ∃ i, ∃ hi : i < ps.length, n = (i : Int) ∧ ps[i] = p := by
  unfold pathOf at h
  split at h
  · rename_i h0
    obtain ⟨hi, e⟩ := List.getElem?_eq_some_iff.1 h
    exact ⟨n.toNat, hi, by omega, e⟩
  · cases h
theorem pathOf_none {ps : List Tx} {n : Int} (h : ¬ (0 ≤ n ∧ n < ps.length)) : pathOf ps n = none := by
  unfold pathOf
  split
  · rw [List.getElem?_eq_none (by omega)]
  · rfl
/-- What a tree tells of a number. -/
def stepOf (ps : List Tx) (n : Int) (c : UInt8) : Int := match pathOf ps n with | some p => place ps (p ++ [c]) | none => -1
def pathD (ps : List Tx) (n : Int) : Tx := (pathOf ps n).getD []
def upOf (ps : List Tx) (n : Int) : Int := match pathOf ps n with | some p => (if p = [] then -1 else place ps p.dropLast) | none => -1
def wordOf (ps l : List Tx) (n : Int) : Int := match pathOf ps n with | some p => place l p | none => -1
theorem stepOf_at {ps : List Tx} {i : Nat} (h : i < ps.length) (c : UInt8) : stepOf ps (i : Int) c = place ps (ps[i] ++ [c]) := by rw [stepOf, pathOf_at h]
theorem pathD_at {ps : List Tx} {i : Nat} (h : i < ps.length) : pathD ps (i : Int) = ps[i] := by rw [pathD, pathOf_at h]; rfl
theorem upOf_at {ps : List Tx} {i : Nat} (h : i < ps.length) : upOf ps (i : Int) = if ps[i] = [] then -1 else place ps ps[i].dropLast := by rw [upOf, pathOf_at h]
theorem wordOf_at {ps : List Tx} (l : List Tx) {i : Nat} (h : i < ps.length) : wordOf ps l (i : Int) = place l ps[i] := by rw [wordOf, pathOf_at h]
theorem stepOf_ge (ps : List Tx) (n : Int) (c : UInt8) : -1 ≤ stepOf ps n c := by
  unfold stepOf; split
  · exact place_ge _ _
  · omega
theorem stepOf_lt (ps : List Tx) (n : Int) (c : UInt8) : stepOf ps n c < 0 ∨ stepOf ps n c < ps.length := by
  unfold stepOf; split
  · exact .inr (place_lt _ _)
  · exact .inl (by omega)
/-- One beginning more: a step more. -/
theorem stepOf_snoc {ps : List Tx} (h : Wf ps) {i : Nat} (hi : i < ps.length) {c : UInt8} (hq : ps[i] ++ [c] ∉ ps) (s : Int) (d : UInt8) :
    stepOf (ps ++ [ps[i] ++ [c]]) s d = if (i : Int) = s ∧ c = d then (ps.length : Int) else stepOf ps s d := by
  by_cases hs : 0 ≤ s ∧ s < ps.length
  · obtain ⟨j, rfl⟩ : ∃ j : Nat, s = (j : Int) := ⟨s.toNat, by omega⟩
    have hj : j < ps.length := by omega
    rw [stepOf_at hj, stepOf_at (by simp; omega), List.getElem_append_left hj]
    by_cases e : ps[j] ++ [d] = ps[i] ++ [c]
    · obtain ⟨e1, e2⟩ := List.append_inj' e rfl
      have e3 : j = i := nd_inj h.nodup e1
      have e4 : d = c := by simpa using e2
      subst e3; subst e4
      rw [if_pos ⟨rfl, rfl⟩, place_snoc_same hq]
    · rw [place_snoc_other e, if_neg]
      rintro ⟨e1, rfl⟩
      have e1 : i = j := by omega
      subst e1
      exact e rfl
  · rw [if_neg (fun e => hs (by omega))]
    have e0 : stepOf ps s d = -1 := by rw [stepOf, pathOf_none hs]
    rw [e0]
    by_cases hs2 : s = ps.length
    · subst hs2
      rw [stepOf_at (by simp), List.getElem_append_right (by omega)]
      simp only [Nat.sub_self, List.getElem_cons_zero]
      apply place_not
      intro e
      rcases List.mem_append.1 e with e | e
      · exact hq (h.closed e)
      · simp at e
    · rw [stepOf, pathOf_none]
      simp; omega
/-- What is kept of a node. -/
structure Nd where
  up : Int
  last : UInt8
  deep : Nat
  word : Int
def ndOf (ps l : List Tx) (p : Tx) : Nd := ⟨if p = [] then -1 else place ps p.dropLast, p.getLastD 0, p.length, place l p⟩
def nds (ps l : List Tx) : List Nd := ps.map (ndOf ps l)
theorem nds_length (ps l : List Tx) : (nds ps l).length = ps.length := by simp [nds]
theorem nds_at (ps l : List Tx) (i : Nat) (h : i < ps.length) : (nds ps l)[i]'(by rw [nds_length]; exact h) = ndOf ps l ps[i] := by simp [nds]
theorem nds_root : nds [[]] [] = [⟨-1, 0, 0, -1⟩] := by simp [nds, ndOf, place]
theorem nds_snoc {ps : List Tx} (h : Wf ps) {l : List Tx} (hl : ∀ x ∈ l, x ∈ ps) {i : Nat} (hi : i < ps.length) {c : UInt8} (hq : ps[i] ++ [c] ∉ ps) :
    nds (ps ++ [ps[i] ++ [c]]) l = nds ps l ++ [⟨(i : Int), c, ps[i].length + 1, -1⟩] := by
  unfold nds
  rw [List.map_append]
  congr 1
  · apply List.map_congr_left
    intro p hp
    unfold ndOf
    by_cases hn : p = []
    · simp [hn]
    · rw [if_neg hn, if_neg hn, place_left _ (h.closed_drop hp hn)]
  · have e : place (ps ++ [ps[i] ++ [c]]) ps[i] = i := by rw [place_left _ (List.getElem_mem hi), place_at h.nodup hi]
    have e2 : place l (ps[i] ++ [c]) = -1 := place_not fun e => hq (hl _ e)
    simp [ndOf, e, e2]
/-- A text more: its node's word, if there was none. -/
theorem nds_word {ps : List Tx} (h : Wf ps) {l : List Tx} {x : Tx} {i : Nat} (hi : i < ps.length) (e : ps[i] = x) :
    nds ps (l ++ [x]) = if x ∈ l then nds ps l else (nds ps l).set i ⟨(ndOf ps l x).up, (ndOf ps l x).last, (ndOf ps l x).deep, (l.length : Int)⟩ := by
  split
  · rename_i hx
    unfold nds
    apply List.map_congr_left
    intro p hp
    unfold ndOf
    by_cases hpx : p = x
    · subst hpx; rw [place_left _ hx]
    · rw [place_snoc_other hpx]
  · rename_i hx
    apply List.ext_getElem
    · simp [nds]
    · intro j h1 h2
      rw [nds_length] at h1
      rw [List.getElem_set, nds_at _ _ j h1]
      split
      · rename_i hij
        subst hij
        rw [e]
        unfold ndOf
        rw [place_snoc_same hx]
      · rename_i hij
        rw [nds_at _ _ j h1]
        have hne : ps[j] ≠ x := fun e2 => hij (nd_inj h.nodup (e.trans e2.symm))
        unfold ndOf
        rw [place_snoc_other hne]
end Go.Proofs.Ytlpjghhmacobdaa.Tri
/- Texts, strings, nodes and edges in memory. -/
namespace Go.Proofs.Ytlpjghhmacobdaa.Tri
open Go.RowKit Go.Maps
set_option maxRecDepth 100000

theorem und3 : Try.prog.underlying 3 = some (.int .i64) := by kernel_rfl
theorem info9 : (Try.prog.info? 9).map (fun i => (i.zero, i.size, i.bytes)) = some (some (.string ByteArray.empty), 1, 16) := by kernel_rfl
theorem info32 : (Try.prog.info? 22).map (fun i => (i.zero, i.size, i.bytes)) = some (some (.slice none 0 0), 1, 24) := by kernel_rfl
theorem cell_same {W W' : World} {b o : Nat} (e : W'.heap[b]? = W.heap[b]?) : W'.cell? ⟨b, o, none⟩ = W.cell? ⟨b, o, none⟩ := by
  unfold World.cell?
  rw [e]
theorem cell_lt0 {w : World} {b o : Nat} {v : Value} (h : w.cell? ⟨b, o, none⟩ = some v) : b < w.heap.size := by
  rcases Nat.lt_or_ge b w.heap.size with hlt | hge
  · exact hlt
  · unfold World.cell? at h
    simp only [Array.getElem?_eq_none hge] at h
    cases h
theorem add_at (b off i : Nat) : (⟨b, off, none⟩ : Addr).add i = ⟨b, off + i, none⟩ := by unfold Addr.add; split <;> simp_all

/-- A slice of strings that reads as xs. -/
def Ss (W : World) (a : Option Addr) (xs : List (List UInt8)) : Prop :=
  0 < xs.length → ∃ b off, a = some ⟨b, off, none⟩ ∧ b < W.heap.size ∧ ∀ i (h : i < xs.length), W.cell? ⟨b, off + i, none⟩ = some (.string (str xs[i]))
theorem ss_nil (w : World) (a : Option Addr) : Ss w a [] := fun h => absurd h (by simp)
theorem Ss.keep {W W' : World} {a : Option Addr} {xs : List (List UInt8)} (h : Ss W a xs) (hb : Below W.heap.size W W') : Ss W' a xs := fun h0 => by
  obtain ⟨b, off, e, hlt, hc⟩ := h h0
  exact ⟨b, off, e, Nat.lt_of_lt_of_le hlt hb.size, fun i hi => (hb.cell (p := ⟨b, _, none⟩) hlt).trans (hc i hi)⟩
/-- Strings, one behind the other. -/
def svals (xs : List (List UInt8)) : List Value := xs.map fun x => Value.string (str x)
theorem svals_snoc (xs : List (List UInt8)) (x : List UInt8) : svals (xs ++ [x]) = svals xs ++ [.string (str x)] := by simp [svals]
theorem svals_one (xs : List (List UInt8)) : ∀ v ∈ svals xs, v.oneCell' = true := by
  intro v hv
  simp only [svals, List.mem_map] at hv
  obtain ⟨c, _, rfl⟩ := hv
  rfl
theorem own_ss {w : World} {base n : Nat} {v : Value} {xs : List (List UInt8)} (h : w.ownsRow base 9 1 v n (svals xs)) : ∃ a cap, v = .slice a xs.length cap ∧ Ss w a xs ∧ xs.length ≤ cap ∧ (a = none → cap = 0) := by
  have hn : xs.length = n := by have := h.1; simpa [svals] using this
  rcases h.2 with ⟨rfl, h0⟩ | ⟨g, cap, cur, rfl, hg, hh, hnc, _, hs, ht⟩
  · exact ⟨none, 0, by rw [hn, h0], (fun h1 => by omega), by omega, fun _ => rfl⟩
  · refine ⟨some ⟨g, 0, none⟩, cap, by rw [hn], fun _ => ⟨g, 0, rfl, txt_lt hh, fun i hi => ?_⟩, by omega, fun e => by cases e⟩
    have e : (cur.toList.take (n * 1))[i]? = (svals xs)[i]? := by rw [ht]
    rw [List.getElem?_take_of_lt (by omega), Array.getElem?_toList] at e
    rw [Nat.zero_add, cell_of_row w g _ _ 9 (0, 0) hh, e]
    simp [svals, hi]
theorem cell_new1 (w : World) (u : Value) (t : TypeId) : ∀ j x, [u][j]? = some x → (w.alloc (.cells #[u] t)).cell? ((⟨w.heap.size, 0, none⟩ : Addr).add j) = some x := by
  intro j x h
  have ea : (⟨w.heap.size, 0, none⟩ : Addr).add j = ⟨w.heap.size, j, none⟩ := by unfold Addr.add; split <;> simp_all
  rw [ea, cell_of_row _ w.heap.size _ _ t (0, 0) (heap_alloc_new w _)]
  simpa using h
/-- A string appended to a row of the call's own. -/
theorem app_ss {w : World} {ops : Array Oper} {rest : List Oper} {o : Oper} {a : Act} {Q : Exit → Act → World → Prop} (hgd : o.guard = none) (s x : Operand)
    (ho : o.op = .call { callee := .builtin .append, args := #[s, x], argTypes := #[28, 28] })
    (base : Nat) (v : Value) (n : Nat) (xs : List (List UInt8)) (y : List UInt8) (hs : a.eval s = v) (hown : w.ownsRow base 9 1 v n (svals xs))
    (ad : Addr) (hx : a.eval x = .slice (some ad) 1 1) (hc : ∀ j u, [Value.string (str y)][j]? = some u → w.cell? (ad.add j) = some u)
    (hn : n ≤ 6000000000000) (hbase : base ≤ w.heap.size)
    (h : ∀ v' w', w'.ownsRow base 9 1 v' (n + 1) (svals (xs ++ [y])) → w.grownBy w' v.ownBlock → wpList Try.prog ops Q rest (a.put o.dst v') w') : wpList Try.prog ops Q (o :: rest) a w := by
  obtain ⟨i0, hi, hz0, hz1, hz2⟩ := info_parts info9
  rw [svals_snoc] at h
  exact wpList_append_own w hgd s x 28 ho base 9 i0 (.string ByteArray.empty) 1 16 Try.underlying28 hi hz0 hz1 hz2 rfl (by decide) v n (svals xs) hs hown ad 1 1 [.string (str y)] hx rfl hc (by simp [Value.oneCell']) (by unfold maxLen; omega) (by omega) hbase (fun v' w' h1 h2 _ => h v' w' h1 h2)

/-- Slices of bytes, one behind the other. -/
def tvals (xs : List TxV) : List Value := xs.map fun x => Value.slice x.a x.text.length x.cap
theorem tvals_snoc (xs : List TxV) (x : TxV) : tvals (xs ++ [x]) = tvals xs ++ [.slice x.a x.text.length x.cap] := by simp [tvals]
theorem own_ts {w : World} {base n : Nat} {v : Value} {xs : List TxV} (h : w.ownsRow base 22 1 v n (tvals xs)) (ht : ∀ x ∈ xs, Bs w w.heap.size x.a x.text) : ∃ a cap, v = .slice a xs.length cap ∧ Ts w a xs ∧ xs.length ≤ cap ∧ (a = none → cap = 0) := by
  have hn : xs.length = n := by have := h.1; simpa [tvals] using this
  rcases h.2 with ⟨rfl, h0⟩ | ⟨g, cap, cur, rfl, hg, hh, hnc, _, hs, htk⟩
  · exact ⟨none, 0, by rw [hn, h0], ⟨(fun h1 => by omega), ht⟩, by omega, fun _ => rfl⟩
  · refine ⟨some ⟨g, 0, none⟩, cap, by rw [hn], ⟨fun _ => ⟨g, 0, rfl, txt_lt hh, fun i hi => ?_⟩, ht⟩, by omega, fun e => by cases e⟩
    have e : (cur.toList.take (n * 1))[i]? = (tvals xs)[i]? := by rw [htk]
    rw [List.getElem?_take_of_lt (by omega), Array.getElem?_toList] at e
    rw [Nat.zero_add, cell_of_row w g _ _ 22 (0, 0) hh, e]
    simp [tvals, hi]
theorem tvals_append (xs ys : List TxV) : tvals (xs ++ ys) = tvals xs ++ tvals ys := by simp [tvals]
theorem tvals_length (xs : List TxV) : (tvals xs).length = xs.length := by simp [tvals]
theorem tvals_one (xs : List TxV) : ∀ v ∈ tvals xs, v.oneCell' = true := by
  intro v hv
  simp only [tvals, List.mem_map] at hv
  obtain ⟨c, _, rfl⟩ := hv
  rfl
/-- A text appended to a row of the call's own. -/
theorem app_ts {w : World} {ops : Array Oper} {rest : List Oper} {o : Oper} {a : Act} {Q : Exit → Act → World → Prop} (hgd : o.guard = none) (s x : Operand)
    (ho : o.op = .call { callee := .builtin .append, args := #[s, x], argTypes := #[26, 26] })
    (base : Nat) (v : Value) (n : Nat) (xs : List TxV) (y : TxV) (hs : a.eval s = v) (hown : w.ownsRow base 22 1 v n (tvals xs))
    (ad : Addr) (hx : a.eval x = .slice (some ad) 1 1) (hc : ∀ j u, [Value.slice y.a y.text.length y.cap][j]? = some u → w.cell? (ad.add j) = some u)
    (hn : n ≤ 1000000000) (hbase : base ≤ w.heap.size)
    (h : ∀ v' w', w'.ownsRow base 22 1 v' (n + 1) (tvals (xs ++ [y])) → w.grownBy w' v.ownBlock → wpList Try.prog ops Q rest (a.put o.dst v') w') : wpList Try.prog ops Q (o :: rest) a w := by
  obtain ⟨i0, hi, hz0, hz1, hz2⟩ := info_parts info32
  rw [tvals_snoc] at h
  exact wpList_append_own w hgd s x 26 ho base 22 i0 (.slice none 0 0) 1 24 Try.underlying26 hi hz0 hz1 hz2 rfl (by decide) v n (tvals xs) hs hown ad 1 1 [.slice y.a y.text.length y.cap] hx rfl hc (by simp [Value.oneCell']) (by unfold maxLen; omega) (by omega) hbase (fun v' w' h1 h2 _ => h v' w' h1 h2)

/-- Texts appended to a row of the call's own. -/
theorem app_tsl {w : World} {ops : Array Oper} {rest : List Oper} {o : Oper} {a : Act} {Q : Exit → Act → World → Prop} (hgd : o.guard = none) (s x : Operand)
    (ho : o.op = .call { callee := .builtin .append, args := #[s, x], argTypes := #[26, 26] })
    (base : Nat) (v : Value) (n : Nat) (xs : List TxV) (hs : a.eval s = v) (hown : w.ownsRow base 22 1 v n (tvals xs))
    (A : Option Addr) (l : List TxV) (c : Nat) (hx : a.eval x = .slice A l.length c) (hb : Ts w A l) (hnil : A = none → c = 0)
    (hn : n + l.length ≤ 1000000000) (hbase : base ≤ w.heap.size)
    (h : ∀ v' w', w'.ownsRow base 22 1 v' (n + l.length) (tvals (xs ++ l)) → w.grownBy w' v.ownBlock → wpList Try.prog ops Q rest (a.put o.dst v') w') : wpList Try.prog ops Q (o :: rest) a w := by
  obtain ⟨i0, hi, hz0, hz1, hz2⟩ := info_parts info32
  rw [tvals_append] at h
  cases A with
  | none =>
    have hl : l = [] := by
      rcases Nat.eq_zero_or_pos l.length with h0 | h0
      · exact List.eq_nil_of_length_eq_zero h0
      · obtain ⟨_, _, e, _⟩ := hb.1 h0; cases e
    subst hl
    rw [hnil rfl] at hx
    refine wpList_append_own_none hgd s x 26 ho base 22 i0 1 Try.underlying26 hi v n (tvals xs) hs hown hx (h v w ?_ (World.grownBy.refl w _))
    simpa [tvals] using hown
  | some ad =>
    refine wpList_append_own w hgd s x 26 ho base 22 i0 (.slice none 0 0) 1 24 Try.underlying26 hi hz0 hz1 hz2 rfl (by decide) v n (tvals xs) hs hown ad l.length c (tvals l) hx (by simp [tvals]) ?_ (tvals_one l) (by unfold maxLen; omega) (by omega) hbase (fun v' w' h1 h2 _ => h v' w' h1 h2)
    intro j u hj
    have hjl : j < l.length := by
      have := (List.getElem?_eq_some_iff.1 hj).1
      simpa [tvals] using this
    obtain ⟨b, off, e, _, hc⟩ := hb.1 (by omega)
    obtain rfl := Option.some.inj e
    rw [add_at, hc j hjl]
    simpa [tvals, hjl] using hj

/-- A block of two cells that is known whole. -/
def Blk2 (w : World) (g : Nat) (t : TypeId) (u0 u1 : Value) : Prop := w.heap[g]? = some (.cells #[u0, u1] t (0, 0))
theorem Blk2.lt {w : World} {g : Nat} {t : TypeId} {u0 u1 : Value} (h : Blk2 w g t u0 u1) : g < w.heap.size := txt_lt h
theorem Blk2.new (w : World) (t : TypeId) (u0 u1 : Value) : Blk2 (w.alloc (.cells #[u0, u1] t)) w.heap.size t u0 u1 := heap_alloc_new w _
theorem Blk2.same {w w' : World} {g : Nat} {t : TypeId} {u0 u1 : Value} (h : Blk2 w g t u0 u1) (e : w'.heap[g]? = w.heap[g]?) : Blk2 w' g t u0 u1 := e.trans h
theorem Blk2.keep {w w' : World} {B g : Nat} {t : TypeId} {u0 u1 : Value} (h : Blk2 w g t u0 u1) (hb : Below B w w') (hg : g < B) : Blk2 w' g t u0 u1 := (hb.block g hg).trans h
theorem Blk2.alloc {w : World} {g : Nat} {t : TypeId} {u0 u1 : Value} (h : Blk2 w g t u0 u1) (o : Obj) : Blk2 (w.alloc o) g t u0 u1 := h.same (Below.heap_alloc w o g h.lt)
theorem Blk2.grown {w w' : World} {row : Option Nat} {g : Nat} {t : TypeId} {u0 u1 : Value} (h : Blk2 w g t u0 u1) (hg : w.grownBy w' row) (hne : some g ≠ row) : Blk2 w' g t u0 u1 := h.same (hg.block g h.lt hne)
theorem Blk2.cells {w : World} {g : Nat} {t : TypeId} {u0 u1 : Value} (h : Blk2 w g t u0 u1) : w.cell? ⟨g, 0, none⟩ = some u0 ∧ w.cell? ⟨g, 1, none⟩ = some u1 := by
  unfold Blk2 at h
  refine ⟨?_, ?_⟩ <;> (rw [cell_of_row w g _ _ t (0, 0) h]; rfl)
theorem Blk2.free {w : World} {g : Nat} {t : TypeId} {u0 u1 : Value} (h : Blk2 w g t u0 u1) : w.frozen? ⟨g, 0, none⟩ = false ∧ w.frozen? ⟨g, 1, none⟩ = false := by
  unfold Blk2 at h
  refine ⟨?_, ?_⟩ <;> simp [World.frozen?, h]
theorem Blk2.put0 {w : World} {g : Nat} {t : TypeId} {u0 u1 : Value} (h : Blk2 w g t u0 u1) (v : Value) : Blk2 (w.setCell ⟨g, 0, none⟩ v) g t v u1 := by
  unfold Blk2 at h ⊢; rw [heap_set_same h]; rfl
theorem Blk2.put1 {w : World} {g : Nat} {t : TypeId} {u0 u1 : Value} (h : Blk2 w g t u0 u1) (v : Value) : Blk2 (w.setCell ⟨g, 1, none⟩ v) g t u0 v := by
  unfold Blk2 at h ⊢; rw [heap_set_same h]; rfl
theorem Blk2.far {w : World} {g b i : Nat} {t : TypeId} {u0 u1 : Value} (h : Blk2 w g t u0 u1) (hne : g ≠ b) (v : Value) : Blk2 (w.setCell ⟨b, i, none⟩ v) g t u0 u1 := h.same (Below.heap_setCell w ⟨b, i, none⟩ v g hne)

theorem grown_set (W : World) (b i : Nat) (v : Value) : W.grownBy (W.setCell ⟨b, i, none⟩ v) (some b) :=
  ⟨rfl, rfl, rfl, by simp, fun k _ hk => Below.heap_setCell W ⟨b, i, none⟩ v k (fun e => hk (by rw [e]))⟩
theorem own_succ {W : World} {base : Nat} {e : TypeId} {size : Nat} {v : Value} {k : Nat} {xs : List Value} (h : W.ownsRow base e size v (k + 1) xs) : ∃ g cap, v = .slice (some ⟨g, 0, none⟩) (k + 1) cap := by
  rcases h.2 with ⟨_, h0⟩ | ⟨g, cap, cur, rfl, _⟩
  · omega
  · exact ⟨g, cap, rfl⟩
theorem own_far {w : World} {base e size n : Nat} {v : Value} {xs : List Value} (h : w.ownsRow base e size v n xs) (g : Nat) (hg : g < base) : some g ≠ v.ownBlock := fun q => by
  have := own_ge h q.symm
  omega
/-- A node's cells. -/
def ncells (r : Nd) : List Value := [.int .i64 r.up, .int .u8 (r.last.toNat : Int), .int .i64 (r.deep : Int), .int .i64 r.word]
def nvals (l : List Nd) : List Value := l.flatMap ncells
theorem nvals_length (l : List Nd) : (nvals l).length = l.length * 4 := by
  induction l with
  | nil => rfl
  | cons p l ih => simp only [nvals, List.flatMap_cons, List.length_append, List.length_cons] at ih ⊢; rw [ih]; simp [ncells]; omega
theorem nvals_append (l m : List Nd) : nvals (l ++ m) = nvals l ++ nvals m := by simp [nvals]
theorem nvals_at : ∀ (xs : List Nd) (i j : Nat), j < 4 → (h : i < xs.length) → (nvals xs)[i * 4 + j]? = (ncells xs[i])[j]?
  | [], i, j, _, h => absurd h (by simp)
  | x :: xs, 0, j, hj, _ => by
    unfold nvals
    rw [List.flatMap_cons, List.getElem?_append_left (by simp [ncells]; omega)]
    simp
  | x :: xs, i + 1, j, hj, h => by
    have h' : i < xs.length := by simpa using h
    unfold nvals
    rw [List.flatMap_cons, List.getElem?_append_right (by simp [ncells]; omega)]
    have e : (i + 1) * 4 + j - (ncells x).length = i * 4 + j := by simp [ncells]; omega
    rw [e]
    exact nvals_at xs i j hj h'
theorem nvals_one (l : List Nd) : ∀ v ∈ nvals l, v.oneCell' = true := by
  intro v hv
  simp only [nvals, List.mem_flatMap] at hv
  obtain ⟨p, _, hp⟩ := hv
  simp only [ncells, List.mem_cons, List.not_mem_nil, or_false] at hp
  rcases hp with rfl | rfl | rfl | rfl <;> rfl
theorem nvals_word : ∀ (xs : List Nd) (i : Nat) (h : i < xs.length) (x : Int), (nvals xs).set (i * 4 + 3) (.int .i64 x) = nvals (xs.set i ⟨xs[i].up, xs[i].last, xs[i].deep, x⟩)
  | [], i, h, _ => absurd h (by simp)
  | y :: xs, 0, _, x => by simp [nvals, ncells]
  | y :: xs, i + 1, h, x => by
    have h' : i < xs.length := by simpa using h
    have ih := nvals_word xs i h' x
    unfold nvals at ih ⊢
    rw [List.flatMap_cons, List.set_append_right _ _ (by simp [ncells]; omega)]
    have e : (i + 1) * 4 + 3 - (ncells y).length = i * 4 + 3 := by simp [ncells]; omega
    rw [e, ih]
    simp

theorem wf_u8 (c : UInt8) : (Lit.int .u8 (c.toNat : Int)).wf = true := by
  have := c.toNat_lt
  simp [Lit.wf, IntKind.min, IntKind.max, IntKind.bits, IntKind.signed]
  omega
theorem laidOut' : laidOutB Try.prog = true := by kernel_rfl
theorem zero3 (w : World) : (zeroValue 3).run Try.prog w = .ok (.int .i64 0) w := by kernel_rfl
abbrev edge (s : Int) (c : UInt8) : Value := .agg #[.int .i64 s, .int .u8 (c.toNat : Int)]
theorem edge_inj {s s' : Int} {c c' : UInt8} (h : edge s c = edge s' c') : s = s' ∧ c = c' := by
  simp at h
  exact ⟨h.1, UInt8.toNat_inj.1 (by omega)⟩
theorem wf_nat {n : Int} (h0 : -1 ≤ n) (h1 : n ≤ 1000000000000) : (Lit.int .i64 n).wf = true := by
  simp [Lit.wf, IntKind.min, IntKind.max, IntKind.bits, IntKind.signed]
  omega
theorem own_far_block {w : World} {base e size n : Nat} {v : Value} {xs : List Value} (h : w.ownsRow base e size v n xs) {w' : World} (hw : ∀ g, v.ownBlock = some g → w'.heap[g]? = w.heap[g]?) : w'.ownsRow base e size v n xs := by
  refine ⟨h.1, h.2.imp id ?_⟩
  rintro ⟨g, cap, cur, rfl, hg, hh, r⟩
  exact ⟨g, cap, cur, rfl, hg, (hw g rfl).trans hh, r⟩
end Go.Proofs.Ytlpjghhmacobdaa.Tri
/- Contracts of what a tree tells: Nodes, Step, at, Depth, Parent, Word. -/
namespace Go.Proofs.Ytlpjghhmacobdaa.Tri
open Go.RowKit Go.Maps
set_option maxRecDepth 100000

/-- What is kept of a number. -/
def ndAt (ps l : List Tx) (n : Int) : Nd := match pathOf ps n with | some p => ndOf ps l p | none => ⟨-1, 0, 0, -1⟩
abbrev ndV (r : Nd) : Value := .agg #[.int .i64 r.up, .int .u8 (r.last.toNat : Int), .int .i64 (r.deep : Int), .int .i64 r.word]
theorem ndAt_in {ps : List Tx} (l : List Tx) {i : Nat} (h : i < ps.length) : ndAt ps l (i : Int) = ndOf ps l ps[i] := by rw [ndAt, pathOf_at h]
theorem ndAt_out {ps : List Tx} (l : List Tx) {n : Int} (h : ¬ (0 ≤ n ∧ n < ps.length)) : ndAt ps l n = ⟨-1, 0, 0, -1⟩ := by rw [ndAt, pathOf_none h]
theorem ndAt_deep (ps l : List Tx) (n : Int) : (ndAt ps l n).deep = (pathD ps n).length := by
  unfold ndAt pathD; cases pathOf ps n <;> rfl
theorem ndAt_up (ps l : List Tx) (n : Int) : (ndAt ps l n).up = upOf ps n := by
  unfold ndAt upOf; cases pathOf ps n <;> rfl
theorem ndAt_word (ps l : List Tx) (n : Int) : (ndAt ps l n).word = wordOf ps l n := by
  unfold ndAt wordOf; cases pathOf ps n <;> rfl
end Go.Proofs.Ytlpjghhmacobdaa.Tri
/- Contracts of Find, Path and Kids. -/
namespace Go.Proofs.Ytlpjghhmacobdaa.Tri
open Go.RowKit Go.Maps
set_option maxRecDepth 100000

theorem step_take {ps : List Tx} {b : Tx} {k : Nat} (hk : k < b.length) (hm : b.take k ∈ ps) : stepOf ps (place ps (b.take k)) b[k] = place ps (b.take (k + 1)) := by
  obtain ⟨i, hi, e, e2, _⟩ := place_mem hm
  rw [e, stepOf_at hi, e2, List.take_succ_eq_append_getElem hk]
end Go.Proofs.Ytlpjghhmacobdaa.Tri
/- Contracts of Path and Kids. -/
namespace Go.Proofs.Ytlpjghhmacobdaa.Tri
open Go.RowKit Go.Maps
set_option maxRecDepth 100000

theorem ndOf_snoc (ps l : List Tx) (q : Tx) (c : UInt8) : (ndOf ps l (q ++ [c])).last = c ∧ (ndOf ps l (q ++ [c])).up = place ps q := by
  simp [ndOf]
theorem made_bytes (n : Nat) : (madeCells (Value.int .u8 0).cells (n * 1)).toList = vals (List.replicate n 0) := by
  show (madeCells #[Value.int .u8 0] (n * 1)).toList = _
  rw [toList_madeCells_one, Nat.mul_one]
  simp [vals]
theorem vals_set (p : Tx) (j : Nat) (h : j < p.length) : (vals (List.replicate (j + 1) 0 ++ p.drop (j + 1))).set j (.int .u8 (p[j].toNat : Int)) = vals (List.replicate j 0 ++ p.drop j) := by
  have e1 : List.replicate (j + 1) (0 : UInt8) ++ p.drop (j + 1) = List.replicate j 0 ++ (0 :: p.drop (j + 1)) := by
    rw [List.replicate_succ']; simp
  have e2 : p.drop j = p[j] :: p.drop (j + 1) := (List.drop_eq_getElem_cons h)
  rw [e1, e2]
  unfold vals
  rw [List.map_append, List.map_append, List.set_append_right _ _ (by simp), List.map_cons, List.map_cons]
  simp only [List.length_map, List.length_replicate, Nat.sub_self, List.set_cons_zero]
theorem own_there {w : World} {base g n cap : Nat} {xs : Tx} (h : w.ownsRow base 5 1 (.slice (some ⟨g, 0, none⟩) n cap) n (vals xs)) {j : Nat} (hj : j < n) : (∃ u, w.cell? ⟨g, j, none⟩ = some u) ∧ w.frozen? ⟨g, j, none⟩ = false ∧ g < w.heap.size := by
  have hl : (vals xs).length = n * 1 := h.1
  refine ⟨⟨(vals xs)[j]'(by omega), ?_⟩, h.frozenAt j, (own_block_lt h rfl).2.1⟩
  rw [h.cellAt j (by omega), List.getElem?_eq_getElem (by omega)]
/-- The bytes below k that f tells. -/
def kidsTo (f : UInt8 → Bool) (k : Nat) : List UInt8 := ((List.range k).map UInt8.ofNat).filter f
theorem kidsTo_succ (f : UInt8 → Bool) (k : Nat) : kidsTo f (k + 1) = if f (UInt8.ofNat k) then kidsTo f k ++ [UInt8.ofNat k] else kidsTo f k := by
  unfold kidsTo
  rw [List.range_succ, List.map_append, List.filter_append]
  split
  · rename_i h; simp [h]
  · rename_i h; simp [h]
theorem kidsTo_len (f : UInt8 → Bool) (k : Nat) : (kidsTo f k).length ≤ k := by
  unfold kidsTo
  refine Nat.le_trans (List.length_filter_le _ _) (by simp)
/-- The bytes that lead on. -/
def kidsOf (ps : List Tx) (n : Int) : List UInt8 := kidsTo (fun c => decide (0 ≤ stepOf ps n c)) 256
theorem ofNat_u8 (k : Nat) (h : k < 256) : ((UInt8.ofNat k).toNat : Int) = (k : Int) := by
  rw [UInt8.toNat_ofNat']; omega
theorem vals_append (l m : Tx) : vals (l ++ m) = vals l ++ vals m := by simp [vals]
end Go.Proofs.Ytlpjghhmacobdaa.Tri
/- The contract of add. -/
namespace Go.Proofs.Ytlpjghhmacobdaa.Tri
open Go.RowKit Go.Maps
set_option maxRecDepth 100000

theorem block_app {W W' : World} {g : Nat} {v : Value} {O : Obj} (hg : (W.alloc O).drew.grownBy W' v.ownBlock) (hlt : some g ≠ v.ownBlock) (hW : g < W.heap.size) : W'.heap[g]? = W.heap[g]? :=
  (hg.block g (by show g < (W.alloc O).heap.size; simp; omega) hlt).trans (Below.heap_alloc W O g hW)
end Go.Proofs.Ytlpjghhmacobdaa.Tri
/- Contracts of grow and Build. -/
namespace Go.Proofs.Ytlpjghhmacobdaa.Tri
open Go.RowKit Go.Maps
set_option maxRecDepth 100000

theorem growTo_len (ps : List Tx) (x : Tx) (k : Nat) : (growTo ps x k).length ≤ ps.length + k := by
  obtain ⟨m, e, h, _⟩ := growTo_sub ps x k
  rw [e, List.length_append]; omega
theorem growTo_old {ps : List Tx} {x : Tx} {k : Nat} (h : x.take (k + 1) ∈ growTo ps x k) : growTo ps x (k + 1) = growTo ps x k := by
  show addp _ _ = _; unfold addp; rw [if_pos h]
theorem growTo_new {ps : List Tx} {x : Tx} {k : Nat} (h : x.take (k + 1) ∉ growTo ps x k) : growTo ps x (k + 1) = growTo ps x k ++ [x.take (k + 1)] := by
  show addp _ _ = _; unfold addp; rw [if_neg h]
end Go.Proofs.Ytlpjghhmacobdaa.Tri
/- The contract of Build. -/
namespace Go.Proofs.Ytlpjghhmacobdaa.Tri
open Go.RowKit Go.Maps
set_option maxRecDepth 100000

theorem step_root (n : Int) (c : UInt8) : stepOf [[]] n c = -1 := by
  unfold stepOf
  split
  · apply place_not; simp
  · rfl
abbrev ncs : Array Value := #[.int .i64 (-1), .int .u8 0, .int .i64 0, .int .i64 (-1)]
end Go.Proofs.Ytlpjghhmacobdaa.Tri
/- Contracts of the reference: Place, Paths, Kids; of the statements' own 'texts'. -/
namespace Go.Proofs.Ytlpjghhmacobdaa.Tri
open Go.RowKit Go.Maps
set_option maxRecDepth 100000

theorem str_beq (x y : Tx) : ((str x).toList == (str y).toList) = decide (x = y) := by
  have e : ∀ z : Tx, (str z).toList = z := fun z => by simp [str]
  rw [e, e, Bool.eq_iff_iff]; simp
theorem str_take (x : Tx) (k : Nat) : (str x).extract 0 k = str (x.take k) := by
  unfold str
  rw [ByteArray.extract_mk]
  congr 1
def GivesSs (w : World) (ps : List Tx) (e : Ending) (w' : World) : Prop := ∃ a cap, e = .returned (.slice a ps.length cap) ∧ Ss w' a ps ∧ Below w.heap.size w w'
theorem svals_length (xs : List Tx) : (svals xs).length = xs.length := by simp [svals]
end Go.Proofs.Ytlpjghhmacobdaa.Tri
/- Contracts of the reference's Kids, and of the statements' own 'texts'. -/
namespace Go.Proofs.Ytlpjghhmacobdaa.Tri
open Go.RowKit Go.Maps
set_option maxRecDepth 100000

theorem conv_one (w : World) (c : UInt8) : (convert 22 9 (.slice (some ⟨w.heap.size, 0, none⟩) 1 1)).run Try.prog (w.alloc (.cells #[.int .u8 (c.toNat : Int)] 5)) = .ok (.string (str [c])) (w.alloc (.cells #[.int .u8 (c.toNat : Int)] 5)) :=
  str_of_bs (l := [c]) 1 (bs_lit w [c] (0, 0) #[.int .u8 (c.toNat : Int)] rfl)
theorem str_append (x y : Tx) : str x ++ str y = str (x ++ y) := by
  unfold str
  apply ByteArray.ext
  simp
/-- The bytes that lead on from a beginning, as the document tells them. -/
def rkids (ps : List Tx) (s : Tx) : List UInt8 := kidsTo (fun c => decide (0 ≤ place ps (s ++ [c]))) 256
def GivesL (w : World) (xs : List TxV) (e : Ending) (w' : World) : Prop :=
  Below w.heap.size w w' ∧ ((¬ ∀ x ∈ xs, x.text.length ≤ 40) ∧ e = .returned (.tuple #[.slice none 0 0, .bool false]) ∨
    (∀ x ∈ xs, x.text.length ≤ 40) ∧ ∃ a' cap', e = .returned (.tuple #[.slice a' xs.length cap', .bool (decide (xs.length ≤ 12))]) ∧ Ss w' a' (xs.map TxV.text))
theorem takes_snoc {α : Type} (l : List α) (k : Nat) (h : k < l.length) : l.take (k + 1) = l.take k ++ [l[k]] := List.take_succ_eq_append_getElem h
theorem map_at (xs : List TxV) (k : Nat) (h : k < xs.length) : (xs.map TxV.text)[k]'(by simpa using h) = xs[k].text := by simp
end Go.Proofs.Ytlpjghhmacobdaa.Tri
/- The contract of the statements' own 'texts'. -/
namespace Go.Proofs.Ytlpjghhmacobdaa.Tri
open Go.RowKit Go.Maps
set_option maxRecDepth 100000

end Go.Proofs.Ytlpjghhmacobdaa.Tri
