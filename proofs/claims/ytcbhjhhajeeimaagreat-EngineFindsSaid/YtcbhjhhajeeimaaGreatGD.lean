/- Package by package: DMath Da Db Dc Dd De Df Dg Dh Di Dj. -/
import Derived.Test.YtcbhjhhajeeimaaGreatGC
import Derived.Test.YtcbhjhhajeeimaaGreatGS
import Derived.Lib.SlBytesRow
import Derived.WalkMore
/- Mathematics of stage 10: steps by classes, the tree of one text. -/
namespace Go.Proofs.YtcbhjhhajeeimaaGreat.Dfa
open Go.Proofs.YtcbhjhhajeeimaaGreat.Tri Go.Proofs.YtcbhjhhajeeimaaGreat.Lnk Go.Proofs.YtcbhjhhajeeimaaGreat.Prs Go.Proofs.YtcbhjhhajeeimaaGreat.Spa
set_option maxRecDepth 100000
/-- A byte that stands in no text leads to the root. -/
theorem step_none {l : List Tx} {c : UInt8} (h : Cls.stands l c = false) (p : Tx) : Spa.stepT (paths l) c p = [] := by
  have hm := stepT_mem (paths_wf l) c p
  obtain ⟨u, hu⟩ := longT_suffix (paths l) (p ++ [c])
  change p ++ [c] = u ++ Spa.stepT (paths l) c p at hu
  generalize Spa.stepT (paths l) c p = q at hm hu
  rcases List.eq_nil_or_concat q with e | ⟨q', d, rfl⟩
  · exact e
  exfalso
  rw [List.concat_eq_append] at hu hm
  rw [← List.append_assoc] at hu
  have e2 : c = d := (List.append_inj_right' hu rfl |> List.cons.inj).1
  subst e2
  rcases (paths_mem l _).1 hm with e | ⟨x, hx, r, e⟩
  · simp at e
  · have : Cls.stands l c = true := (Cls.stands_iff l c).2 ⟨x, hx, by rw [← e]; simp⟩
    rw [h] at this; cases this
/-- Bytes of one class lead to one state. -/
theorem step_cls {l : List Tx} {a b : UInt8} (h : Cls.cls (Cls.stands l) a = Cls.cls (Cls.stands l) b) (p : Tx) : Spa.stepT (paths l) a p = Spa.stepT (paths l) b p := by
  rcases (Cls.cls_eq (Cls.stands l) a b).1 h with rfl | ⟨h1, h2⟩
  · rfl
  · rw [step_none h1, step_none h2]
theorem grow_one (t : Tx) : ∀ k, k ≤ t.length → (growTo [[]] t k).length = k + 1 ∧ ∀ q ∈ growTo [[]] t k, q.length ≤ k
  | 0, _ => by simp [growTo]
  | k + 1, h => by
    obtain ⟨h1, h2⟩ := grow_one t k (by omega)
    have hl : (t.take (k + 1)).length = k + 1 := by rw [List.length_take]; omega
    have hn : t.take (k + 1) ∉ growTo [[]] t k := fun e => by have := h2 _ e; omega
    rw [growTo, addp, if_neg hn]
    refine ⟨by simp [h1], fun q hq => ?_⟩
    rcases List.mem_append.1 hq with hq | hq
    · have := h2 q hq; omega
    · rw [List.mem_singleton.1 hq, hl]; exact Nat.le_refl _
/-- The tree of one text has one node more than it has bytes. -/
theorem paths_one (t : Tx) : (paths [t]).length = t.length + 1 := (grow_one t t.length (Nat.le_refl _)).1
/-- The state behind a state's path and a byte, as the reference says it. -/
def nextOf (ps : List Tx) (n : Int) (c : UInt8) : Int := match pathOf ps n with | some p => place ps (Spa.stepT ps c p) | none => -1
theorem next_at {ps : List Tx} {i : Nat} (h : i < ps.length) (c : UInt8) : nextOf ps (i : Int) c = place ps (Spa.stepT ps c ps[i]) := by
  rw [nextOf, pathOf_at h]
theorem next_out {ps : List Tx} {n : Int} (h : ¬ (0 ≤ n ∧ n < ps.length)) (c : UInt8) : nextOf ps n c = -1 := by
  rw [nextOf, pathOf_none h]
/-- A row of the table: that of the state that it falls to, but where a byte leads on. -/
theorem next_row {ps : List Tx} (hw : Wf ps) {p : Tx} (c : UInt8) : place ps (Spa.stepT ps c p) = if p ++ [c] ∈ ps then place ps (p ++ [c]) else if p = [] then 0 else place ps (Spa.stepT ps c (fallT ps p)) := by
  by_cases h : p ++ [c] ∈ ps
  · rw [if_pos h, stepT_hit h]
  · rw [if_neg h]
    by_cases h0 : p = []
    · subst h0
      rw [if_pos rfl, stepT_root (by simpa using h), place_nil hw]
    · rw [if_neg h0, stepT_fall hw h h0]
end Go.Proofs.YtcbhjhhajeeimaaGreat.Dfa
/- Mathematics of the table: a row for each state, a place for each class. -/
namespace Go.Proofs.YtcbhjhhajeeimaaGreat.Dfa
open Go.Proofs.YtcbhjhhajeeimaaGreat.Tri Go.Proofs.YtcbhjhhajeeimaaGreat.Lnk Go.Proofs.YtcbhjhhajeeimaaGreat.Prs Go.Proofs.YtcbhjhhajeeimaaGreat.Spa
set_option maxRecDepth 100000

/-- A byte of a class. -/
def byteAt (l : List Tx) (k : Nat) : Option UInt8 := (Cls.ofCls (Cls.stands l) k).head?
theorem byteAt_some {l : List Tx} {k : Nat} {c : UInt8} (h : byteAt l k = some c) : Cls.cls (Cls.stands l) c = k := by
  unfold byteAt at h
  exact (Cls.mem_ofCls _ k c).1 (List.mem_of_mem_head? h)
theorem byteAt_none {l : List Tx} {k : Nat} (h : byteAt l k = none) (c : UInt8) : Cls.cls (Cls.stands l) c ≠ k := fun e => by
  unfold byteAt at h
  have hm := (Cls.mem_ofCls (Cls.stands l) k c).2 e
  rw [List.head?_eq_none_iff.1 h] at hm
  cases hm
/-- Where a state leads by a class. -/
def nxt (l : List Tx) (p : Tx) (k : Nat) : Int := match byteAt l k with | some c => place (paths l) (Spa.stepT (paths l) c p) | none => 0
theorem nxt_byte (l : List Tx) (p : Tx) (c : UInt8) : nxt l p (Cls.cls (Cls.stands l) c) = place (paths l) (Spa.stepT (paths l) c p) := by
  unfold nxt
  cases h : byteAt l (Cls.cls (Cls.stands l) c) with
  | none => exact absurd rfl (byteAt_none h c)
  | some d =>
    show place (paths l) (Spa.stepT (paths l) d p) = _
    rw [step_cls (byteAt_some h) p]
theorem nxt_kid (l : List Tx) {p : Tx} {c : UInt8} (h : p ++ [c] ∈ paths l) : nxt l p (Cls.cls (Cls.stands l) c) = place (paths l) (p ++ [c]) := by
  rw [nxt_byte, stepT_hit h]
/-- What a row has before its own kids are laid over it. -/
def bas (l : List Tx) (p : Tx) (k : Nat) : Int := if p = [] then 0 else nxt l (fallT (paths l) p) k
theorem nxt_fall (l : List Tx) {p : Tx} {k : Nat} (h : ∀ c, p ++ [c] ∈ paths l → Cls.cls (Cls.stands l) c ≠ k) : nxt l p k = bas l p k := by
  cases hb : byteAt l k with
  | none => simp [nxt, bas, hb]
  | some c =>
    have hc := byteAt_some hb
    have e : nxt l p k = place (paths l) (Spa.stepT (paths l) c p) := by simp [nxt, hb]
    have e2 : nxt l (fallT (paths l) p) k = place (paths l) (Spa.stepT (paths l) c (fallT (paths l) p)) := by simp [nxt, hb]
    rw [bas, e, e2, next_row (paths_wf l), if_neg (fun hm => h c hm hc)]
/-- The rows one behind the other. -/
def tabF (F : Nat → Nat → Int) (n wd : Nat) : List Int := (List.range (n * wd)).map fun j => F (j / wd) (j % wd)
theorem tabF_len (F : Nat → Nat → Int) (n wd : Nat) : (tabF F n wd).length = n * wd := by simp [tabF]
theorem row_lt {i k n wd : Nat} (hi : i < n) (hk : k < wd) : i * wd + k < n * wd := by
  have h : (i + 1) * wd ≤ n * wd := Nat.mul_le_mul_right wd (by omega)
  rw [Nat.add_mul, Nat.one_mul] at h
  omega
theorem row_le {i n wd : Nat} (hi : i < n) : i * wd + wd ≤ n * wd := by
  have h : (i + 1) * wd ≤ n * wd := Nat.mul_le_mul_right wd (by omega)
  rwa [Nat.add_mul, Nat.one_mul] at h
theorem div_row {i k wd : Nat} (hk : k < wd) : (i * wd + k) / wd = i := by
  rw [Nat.mul_comm, Nat.mul_add_div (by omega), Nat.div_eq_of_lt hk, Nat.add_zero]
theorem mod_row {i k wd : Nat} (hk : k < wd) : (i * wd + k) % wd = k := by
  rw [Nat.mul_comm, Nat.mul_add_mod, Nat.mod_eq_of_lt hk]
theorem tabF_at (F : Nat → Nat → Int) {n wd i k : Nat} (hi : i < n) (hk : k < wd) : (tabF F n wd)[i * wd + k]? = some (F i k) := by
  have h := row_lt hi hk
  unfold tabF
  rw [List.getElem?_map, List.getElem?_range h]
  simp [div_row hk, mod_row hk]
theorem tabF_congr {F G : Nat → Nat → Int} {n wd : Nat} (h : ∀ i k, i < n → k < wd → F i k = G i k) : tabF F n wd = tabF G n wd := by
  unfold tabF
  apply List.map_congr_left
  intro j hj
  rw [List.mem_range] at hj
  have hw : 0 < wd := by
    rcases Nat.eq_zero_or_pos wd with h0 | h0
    · rw [h0, Nat.mul_zero] at hj; omega
    · exact h0
  exact h _ _ ((Nat.div_lt_iff_lt_mul hw).2 hj) (Nat.mod_lt _ hw)
/-- A row in place of another one. -/
def putRow (F : Nat → Nat → Int) (i : Nat) (R : Nat → Int) : Nat → Nat → Int := fun i' k => if i' = i then R k else F i' k
theorem putRow_at (F : Nat → Nat → Int) (i : Nat) (R : Nat → Int) (k : Nat) : putRow F i R i k = R k := if_pos rfl
theorem putRow_other (F : Nat → Nat → Int) {i i' : Nat} (R : Nat → Int) (k : Nat) (h : i' ≠ i) : putRow F i R i' k = F i' k := if_neg h
theorem eq_row {j i k wd : Nat} (hk : k < wd) : j = i * wd + k ↔ j / wd = i ∧ j % wd = k := by
  constructor
  · rintro rfl
    exact ⟨div_row hk, mod_row hk⟩
  · rintro ⟨rfl, rfl⟩
    rw [Nat.mul_comm]
    exact (Nat.div_add_mod j wd).symm
theorem tabF_set (F : Nat → Nat → Int) {n wd i k : Nat} (R : Nat → Int) (x : Int) (hk : k < wd) : (tabF (putRow F i R) n wd).set (i * wd + k) x = tabF (putRow F i fun k' => if k' = k then x else R k') n wd := by
  apply List.ext_getElem
  · simp [tabF]
  · intro j h1 h2
    have hj : j < n * wd := by simpa [tabF] using h2
    rw [List.getElem_set]
    simp only [tabF, List.getElem_map, List.getElem_range]
    by_cases e : i * wd + k = j
    · obtain ⟨e1, e2⟩ := (eq_row hk).1 e.symm
      rw [if_pos e, e1, e2, putRow_at, if_pos rfl]
    · rw [if_neg e]
      by_cases e1 : j / wd = i
      · rw [e1, putRow_at, putRow_at, if_neg fun e2 => e ((eq_row hk).2 ⟨e1, e2⟩).symm]
      · rw [putRow_other _ _ _ e1, putRow_other _ _ _ e1]
/-- Row i, behind a copy of other numbers. -/
theorem tabF_splice (F : Nat → Nat → Int) {n wd i : Nat} (R : Nat → Int) (hi : i < n) : (tabF F n wd).take (i * wd) ++ ((List.range wd).map R ++ (tabF F n wd).drop (i * wd + wd)) = tabF (putRow F i R) n wd := by
  have hle := row_le (wd := wd) hi
  have hli : i * wd ≤ n * wd := by omega
  apply List.ext_getElem
  · rw [List.length_append, List.length_append, List.length_take, List.length_drop, tabF_len, tabF_len, List.length_map, List.length_range]; omega
  · intro j h1 h2
    have hj : j < n * wd := by simpa [tabF] using h2
    have hR : (tabF (putRow F i R) n wd)[j] = putRow F i R (j / wd) (j % wd) := by simp [tabF]
    rw [hR]
    have hw : 0 < wd := by
      rcases Nat.eq_zero_or_pos wd with h0 | h0
      · rw [h0, Nat.mul_zero] at hj; omega
      · exact h0
    have ht : ((tabF F n wd).take (i * wd)).length = i * wd := by rw [List.length_take, tabF_len]; omega
    by_cases q1 : j < i * wd
    · rw [List.getElem_append_left (by rw [ht]; exact q1), List.getElem_take, putRow_other]
      · simp [tabF]
      · intro e
        have := Nat.div_mul_le_self j wd
        rw [e] at this; omega
    · by_cases q2 : j < i * wd + wd
      · obtain ⟨k, rfl⟩ : ∃ k, j = i * wd + k := ⟨j - i * wd, by omega⟩
        have hk : k < wd := by omega
        rw [List.getElem_append_right (by rw [ht]; omega), List.getElem_append_left (by rw [List.length_map, List.length_range, ht]; omega), div_row hk, mod_row hk, putRow_at]
        simp only [List.getElem_map, List.getElem_range, ht]
        congr 1
        omega
      · have e1 : j / wd ≠ i := fun e => by
          have := Nat.lt_div_mul_add (a := j) hw
          rw [e] at this; omega
        rw [putRow_other _ _ _ e1, List.getElem_append_right (by rw [ht]; omega), List.getElem_append_right (by rw [List.length_map, List.length_range, ht]; omega), List.getElem_drop]
        simp only [List.length_map, List.length_range, ht, show i * wd + wd + (j - i * wd - wd) = j by omega]
        simp [tabF]
/-- The table as far as some states go. -/
def part (l Q : List Tx) (i k : Nat) : Int := match (paths l)[i]? with | some p => if p ∈ Q then nxt l p k else 0 | none => 0
theorem part_in {l Q : List Tx} {i k : Nat} {p : Tx} (h : (paths l)[i]? = some p) (hq : p ∈ Q) : part l Q i k = nxt l p k := by simp [part, h, hq]
theorem part_out {l Q : List Tx} {i k : Nat} {p : Tx} (h : (paths l)[i]? = some p) (hq : p ∉ Q) : part l Q i k = 0 := by simp [part, h, hq]
/-- The whole table. -/
def whole (l : List Tx) (n wd : Nat) : List Int := tabF (fun i k => match (paths l)[i]? with | some p => nxt l p k | none => 0) n wd
theorem part_nil (l : List Tx) (n wd : Nat) : tabF (part l []) n wd = List.replicate (n * wd) 0 := by
  apply List.ext_getElem
  · simp [tabF]
  · intro j h1 h2
    simp only [tabF, List.getElem_map, List.getElem_range, List.getElem_replicate, part]
    split <;> simp
theorem part_all (l : List Tx) (wd : Nat) : tabF (part l (ord (paths l))) (paths l).length wd = whole l (paths l).length wd := by
  refine tabF_congr fun i k hi _ => ?_
  have e := List.getElem?_eq_getElem hi
  rw [part_in e (ord_all (paths_wf l) _ (List.getElem_mem hi))]
  simp only [e]
theorem part_snoc {l Q : List Tx} {i : Nat} {p : Tx} (h : (paths l)[i]? = some p) (n wd : Nat) (R : Nat → Int) (hn : n ≤ (paths l).length) (hR : ∀ k, k < wd → R k = nxt l p k) : tabF (putRow (part l Q) i R) n wd = tabF (part l (Q ++ [p])) n wd := by
  refine tabF_congr fun i' k hi hk => ?_
  by_cases e : i' = i
  · subst e
    rw [putRow_at, part_in h (by simp), hR k hk]
  · rw [putRow_other _ _ _ e]
    have e2 := List.getElem?_eq_getElem (show i' < (paths l).length by omega)
    have hne : (paths l)[i'] ≠ p := fun q => by
      obtain ⟨hi3, e3⟩ := List.getElem?_eq_some_iff.1 h
      have h1 := place_at (paths_wf l).nodup (show i' < (paths l).length by omega)
      have h2 := place_at (paths_wf l).nodup hi3
      rw [q, ← e3, h2] at h1
      omega
    by_cases hq : (paths l)[i'] ∈ Q
    · rw [part_in e2 hq, part_in e2 (List.mem_append_left _ hq)]
    · rw [part_out e2 hq, part_out e2 (by simp [hq, hne])]
theorem part_base {l Q : List Tx} {i : Nat} {p : Tx} (h : (paths l)[i]? = some p) (hq : p ∉ Q) (n wd : Nat) (R : Nat → Int) (hR : ∀ k, R k = 0) : tabF (putRow (part l Q) i R) n wd = tabF (part l Q) n wd := by
  refine tabF_congr fun i' k _ _ => ?_
  by_cases e : i' = i
  · subst e
    rw [putRow_at, part_out h hq, hR]
  · rw [putRow_other _ _ _ e]
/-! The order in which rows are filled. -/
theorem ord_new {ps : List Tx} (hw : Wf ps) {k : Nat} (h : k < (ord ps).length) : (ord ps)[k] ∉ (ord ps).take k := fun hm => by
  obtain ⟨j, hj, e⟩ := List.getElem_of_mem hm
  rw [List.getElem_take] at e
  rw [List.length_take] at hj
  have hn := (inv_bq hw ps.length).nodup
  change (ord ps).Nodup at hn
  exact List.pairwise_iff_getElem.1 hn j k (by omega) h (by omega) e
theorem ord_fall {ps : List Tx} (hw : Wf ps) {k : Nat} (h : k < (ord ps).length) (hn : (ord ps)[k] ≠ []) : fallT ps (ord ps)[k] ∈ (ord ps).take k := by
  have hl := fallT_lt ps hn
  have hm := ord_all hw _ (fallT_mem hw (ord ps)[k])
  obtain ⟨j, hj, e⟩ := List.getElem_of_mem hm
  have hs := (inv_bq hw ps.length).sorted
  change (ord ps).Pairwise _ at hs
  have hjk : j < k := by
    rcases Nat.lt_or_ge j k with h1 | h1
    · exact h1
    · exfalso
      rcases Nat.eq_or_lt_of_le h1 with h2 | h2
      · subst h2; rw [← e] at hl; omega
      · have := List.pairwise_iff_getElem.1 hs k j h hj h2
        rw [e] at this; omega
  rw [← e]
  exact List.mem_take_iff_getElem.2 ⟨j, by omega, rfl⟩
theorem ord_sub {ps : List Tx} (hw : Wf ps) : ∀ p ∈ ord ps, p ∈ ps := (inv_bq hw ps.length).sub
/-! Kids, along a row. -/
theorem kid_stands {l : List Tx} {p : Tx} {c : UInt8} (h : p ++ [c] ∈ paths l) : Cls.stands l c = true := by
  rcases (paths_mem l _).1 h with e | ⟨x, hx, r, e⟩
  · simp at e
  · exact (Cls.stands_iff l c).2 ⟨x, hx, by rw [← e]; simp⟩
theorem kids_rise (l : List Tx) (p : Tx) {a b : Nat} (hb : b < (rkids (paths l) p).length) (h : a < b) : Cls.cls (Cls.stands l) (rkids (paths l) p)[a] < Cls.cls (Cls.stands l) (rkids (paths l) p)[b] := by
  have hr : (rkids (paths l) p).Pairwise fun a b => a.toNat < b.toNat := Cls.upTo_rise (fun c => decide (0 ≤ place (paths l) (p ++ [c]))) 256 (Nat.le_refl _)
  have h1 := List.pairwise_iff_getElem.1 hr a b (by omega) hb h
  exact Cls.cls_lt (kid_stands ((mem_rkids (paths l) p _).1 (List.getElem_mem _))) (kid_stands ((mem_rkids (paths l) p _).1 (List.getElem_mem _))) h1
/-- How far a row's kids have been gone through at class k. -/
def Along (l : List Tx) (p : Tx) (j k : Nat) : Prop := j ≤ (rkids (paths l) p).length ∧ (∀ i (h : i < (rkids (paths l) p).length), i < j → Cls.cls (Cls.stands l) (rkids (paths l) p)[i] < k) ∧ ∀ i (h : i < (rkids (paths l) p).length), j ≤ i → k ≤ Cls.cls (Cls.stands l) (rkids (paths l) p)[i]
theorem Along.start (l : List Tx) (p : Tx) : Along l p 0 0 := ⟨Nat.zero_le _, fun _ _ h => by omega, fun _ _ _ => Nat.zero_le _⟩
/-- The row, as far as class k. -/
def mid (l : List Tx) (p : Tx) (k : Nat) : Nat → Int := fun k' => if k' < k then nxt l p k' else bas l p k'
theorem mid_zero (l : List Tx) (p : Tx) : mid l p 0 = bas l p := by funext k'; simp [mid]
theorem Along.hit {l : List Tx} {p : Tx} {j k : Nat} (h : Along l p j k) (hj : j < (rkids (paths l) p).length) (e : Cls.cls (Cls.stands l) (rkids (paths l) p)[j] = k) : Along l p (j + 1) (k + 1) ∧ (fun k' => if k' = k then place (paths l) (p ++ [(rkids (paths l) p)[j]]) else mid l p k k') = mid l p (k + 1) := by
  refine ⟨⟨by omega, fun i hi hij => ?_, fun i hi hij => ?_⟩, ?_⟩
  · rcases Nat.eq_or_lt_of_le (show i ≤ j by omega) with q | q
    · subst q; omega
    · have := h.2.1 i hi q; omega
  · have := kids_rise l p hi (show j < i by omega)
    omega
  · funext k'
    have hm := nxt_kid l ((mem_rkids (paths l) p _).1 (List.getElem_mem hj))
    rw [e] at hm
    by_cases q : k' = k
    · subst q
      rw [if_pos rfl, mid, if_pos (by omega), hm]
    · rw [if_neg q]
      unfold mid
      by_cases q2 : k' < k
      · rw [if_pos q2, if_pos (by omega)]
      · rw [if_neg q2, if_neg (by omega)]
theorem Along.skip {l : List Tx} {p : Tx} {j k : Nat} (h : Along l p j k) (hj : j < (rkids (paths l) p).length) (e : Cls.cls (Cls.stands l) (rkids (paths l) p)[j] ≠ k) : Along l p j (k + 1) ∧ mid l p k = mid l p (k + 1) := by
  have hk : ∀ i (hi : i < (rkids (paths l) p).length), j ≤ i → k < Cls.cls (Cls.stands l) (rkids (paths l) p)[i] := fun i hi hij => by
    have h0 := h.2.2 j hj (Nat.le_refl _)
    rcases Nat.eq_or_lt_of_le hij with q | q
    · subst q; omega
    · have := kids_rise l p hi q; omega
  refine ⟨⟨h.1, fun i hi hij => by have := h.2.1 i hi hij; omega, fun i hi hij => hk i hi hij⟩, ?_⟩
  have hn : nxt l p k = bas l p k := nxt_fall l fun c hc ec => by
    obtain ⟨i, hi, ei⟩ := List.getElem_of_mem ((mem_rkids (paths l) p c).2 hc)
    rcases Nat.lt_or_ge i j with q | q
    · have := h.2.1 i hi q; rw [ei] at this; omega
    · have := hk i hi q; rw [ei] at this; omega
  funext k'
  unfold mid
  by_cases q : k' = k
  · subst q
    rw [if_neg (by omega), if_pos (by omega), hn]
  · by_cases q2 : k' < k
    · rw [if_pos q2, if_pos (by omega)]
    · rw [if_neg q2, if_neg (by omega)]
theorem Along.done {l : List Tx} {p : Tx} {j k : Nat} (h : Along l p j k) (hj : (rkids (paths l) p).length ≤ j) : ∀ k', mid l p k k' = nxt l p k' := fun k' => by
  unfold mid
  by_cases q : k' < k
  · rw [if_pos q]
  · rw [if_neg q, nxt_fall l fun c hc ec => ?_]
    obtain ⟨i, hi, ei⟩ := List.getElem_of_mem ((mem_rkids (paths l) p c).2 hc)
    have := h.2.1 i hi (by omega)
    rw [ei] at this; omega
theorem mid_full (l : List Tx) (p : Tx) (wd : Nat) : ∀ k', k' < wd → mid l p wd k' = nxt l p k' := fun _ h => if_pos h
end Go.Proofs.YtcbhjhhajeeimaaGreat.Dfa
/- A table in memory: the struct, and its numbers. -/
namespace Go.Proofs.YtcbhjhhajeeimaaGreat.Dfa
open Go.RowKit Go.Maps Go.Proofs.YtcbhjhhajeeimaaGreat.Tri Go.Proofs.YtcbhjhhajeeimaaGreat.Lnk Go.Proofs.YtcbhjhhajeeimaaGreat.Reg
set_option maxRecDepth 100000

theorem fold_put (off : Nat) : ∀ (l : List Value) (k : Nat) (a : Array Value), ((l.zipIdx k).foldl (fun cs (x : Value × Nat) => cs.setIfInBounds (off + x.2) x.1) a).size = a.size ∧ ∀ i, i < a.size → ((l.zipIdx k).foldl (fun cs (x : Value × Nat) => cs.setIfInBounds (off + x.2) x.1) a)[i]? = if off + k ≤ i ∧ i < off + k + l.length then l[i - (off + k)]? else a[i]?
  | [], k, a => ⟨rfl, fun i _ => by rw [if_neg (by simp)]; rfl⟩
  | v :: l, k, a => by
    obtain ⟨h1, h2⟩ := fold_put off l (k + 1) (a.setIfInBounds (off + k) v)
    rw [List.zipIdx_cons, List.foldl_cons]
    refine ⟨by rw [h1, Array.size_setIfInBounds], fun i hi => ?_⟩
    rw [h2 i (by rw [Array.size_setIfInBounds]; exact hi)]
    by_cases q : i = off + k
    · subst q
      rw [if_neg (by omega), if_pos (by simp), Array.getElem?_setIfInBounds_self]
      simp [hi]
    · rw [Array.getElem?_setIfInBounds_ne (by omega)]
      by_cases q2 : off + k ≤ i ∧ i < off + k + (v :: l).length
      · rw [if_pos q2, if_pos (by rw [List.length_cons] at q2; omega), show i - (off + k) = (i - (off + (k + 1))) + 1 by omega, List.getElem?_cons_succ]
      · rw [if_neg q2, if_neg (by rw [List.length_cons] at q2; omega)]
theorem zero73 : (Tryz.prog.info? 113).map (fun i => (i.zero, i.size)) = some (some (.agg ((#[Value.pointer none, Value.pointer none] ++ Array.replicate 256 (Value.int .i64 0)) ++ #[Value.int .i64 0, Value.slice none 0 0])), 260) := by kernel_rfl
theorem places73 : (match Tryz.prog.underlying 113 with | some (.struct fs) => fs.toList.mapM (fun f => (Tryz.prog.info? f.type).map fun i => (f.offset, i.size)) | _ => none) = some [(0, 1), (1, 1), (2, 256), (258, 1), (259, 1)] := by kernel_rfl
theorem zcell (i : Nat) (h : i < 260) : ((#[Value.pointer none, Value.pointer none] ++ Array.replicate 256 (Value.int .i64 0)) ++ #[Value.int .i64 0, Value.slice none 0 0])[i]? = some (if i < 2 then .pointer none else if i < 259 then .int .i64 0 else .slice none 0 0) := by
  by_cases h1 : i < 258
  · rw [Array.getElem?_append_left (by simp; omega)]
    by_cases h2 : i < 2
    · rw [Array.getElem?_append_left (by simpa using h2), if_pos h2]
      rcases (show i = 0 ∨ i = 1 by omega) with rfl | rfl <;> rfl
    · rw [Array.getElem?_append_right (by simp; omega), if_neg h2, if_pos (by omega), Array.getElem?_replicate, if_pos (by simp; omega)]
  · rw [Array.getElem?_append_right (by simp; omega)]
    rcases (show i = 258 ∨ i = 259 by omega) with rfl | rfl <;> simp
/-- What a table's cells say. -/
structure Cells (cells : Array Value) (a b : Option Addr) (cs : Array Value) (wd : Int) (v : Value) : Prop where
  size : cells.size = 260
  c0 : cells[0]? = some (.pointer a)
  c1 : cells[1]? = some (.pointer b)
  row : ∀ i, i < 256 → cells[2 + i]? = cs[i]?
  c2 : cells[258]? = some (.int .i64 wd)
  c3 : cells[259]? = some v
theorem built73 (a b : Option Addr) (cs : Array Value) (wd : Int) (hs : cs.size = 256) : ∃ cells, Tryz.prog.built 113 [(0, .pointer a), (1, .pointer b), (2, .agg cs), (3, .int .i64 wd)] = some cells ∧ Cells cells a b cs wd (.slice none 0 0) := by
  have hz := zero73
  have hp := places73
  have hc := zcell
  have hzs : ((#[Value.pointer none, Value.pointer none] ++ Array.replicate 256 (Value.int .i64 0)) ++ #[Value.int .i64 0, Value.slice none 0 0]).size = 260 := by simp
  generalize (#[Value.pointer none, Value.pointer none] ++ Array.replicate 256 (Value.int .i64 0)) ++ #[Value.int .i64 0, Value.slice none 0 0] = z at *
  unfold Program.built
  cases hi : Tryz.prog.info? 113 with
  | none => rw [hi] at hz; cases hz
  | some it =>
    rw [hi] at hz
    have hz2 : it.zero = some (.agg z) := (Prod.mk.inj (Option.some.inj hz)).1
    cases hu : Tryz.prog.underlying 113 with
    | none => rw [hu] at hp; cases hp
    | some d =>
      rw [hu] at hp
      cases d with
      | struct fs =>
        simp only at hp ⊢
        rw [hz2, hp]
        obtain ⟨f1, f2⟩ := fold_put 2 cs.toList 0 (((z.setIfInBounds 0 (.pointer a)).setIfInBounds 1 (.pointer b)))
        have e2 : cs.zipIdx.foldl (fun cs (x : Value × Nat) => cs.setIfInBounds (2 + x.2) x.1) ((z.setIfInBounds 0 (.pointer a)).setIfInBounds 1 (.pointer b)) = (cs.toList.zipIdx 0).foldl (fun cs (x : Value × Nat) => cs.setIfInBounds (2 + x.2) x.1) ((z.setIfInBounds 0 (.pointer a)).setIfInBounds 1 (.pointer b)) := by
          rw [← Array.foldl_toList, Array.toList_zipIdx]
        refine ⟨((cs.toList.zipIdx 0).foldl (fun cs (x : Value × Nat) => cs.setIfInBounds (2 + x.2) x.1) ((z.setIfInBounds 0 (.pointer a)).setIfInBounds 1 (.pointer b))).setIfInBounds 258 (.int .i64 wd), ?_, ?_⟩
        · have q : (cs.zipIdx.foldl (fun cs (x : Value × Nat) => cs.setIfInBounds (2 + x.2) x.1) ((z.setIfInBounds 0 (.pointer a)).setIfInBounds 1 (.pointer b))).size = 260 := by rw [e2, f1]; simpa using hzs
          rw [← e2]
          generalize hF : cs.zipIdx.foldl (fun cs (x : Value × Nat) => cs.setIfInBounds (2 + x.2) x.1) ((z.setIfInBounds 0 (.pointer a)).setIfInBounds 1 (.pointer b)) = F at q
          simp only [Array.size_zipIdx, hs] at hF
          simp [Instr.fill, Value.cells, hzs, hs]
          simp [hF, q]
        · have hl : cs.toList.length = 256 := by simpa using hs
          have g : ∀ i, i < 260 → ((cs.toList.zipIdx 0).foldl (fun cs (x : Value × Nat) => cs.setIfInBounds (2 + x.2) x.1) ((z.setIfInBounds 0 (.pointer a)).setIfInBounds 1 (.pointer b)))[i]? = _ := fun i hi => f2 i (by simpa [hzs] using hi)
          have hsz : ((cs.toList.zipIdx 0).foldl (fun cs (x : Value × Nat) => cs.setIfInBounds (2 + x.2) x.1) ((z.setIfInBounds 0 (.pointer a)).setIfInBounds 1 (.pointer b))).size = 260 := by rw [f1]; simpa using hzs
          refine ⟨by rw [Array.size_setIfInBounds]; exact hsz, ?_, ?_, fun i hi => ?_, ?_, ?_⟩
          · rw [Array.getElem?_setIfInBounds_ne (by omega), g 0 (by omega), if_neg (by omega), Array.getElem?_setIfInBounds_ne (by omega), Array.getElem?_setIfInBounds_self]
            simp [hzs]
          · rw [Array.getElem?_setIfInBounds_ne (by omega), g 1 (by omega), if_neg (by omega), Array.getElem?_setIfInBounds_self]
            simp [hzs]
          · rw [Array.getElem?_setIfInBounds_ne (by omega), g (2 + i) (by omega), if_pos (by omega), show 2 + i - (2 + 0) = i by omega, Array.getElem?_toList]
          · rw [Array.getElem?_setIfInBounds_self]
            simp [hsz]
          · rw [Array.getElem?_setIfInBounds_ne (by omega), g 259 (by omega), if_neg (by omega), Array.getElem?_setIfInBounds_ne (by omega), Array.getElem?_setIfInBounds_ne (by omega), hc 259 (by omega)]
            rfl
      | _ => cases hp
/-- A table's struct in memory. -/
def Bd (w : World) (t : Nat) (a b : Option Addr) (cs : Array Value) (wd : Int) (v : Value) : Prop := ∃ cells, w.heap[t]? = some (.cells cells 113 (0, 0)) ∧ Cells cells a b cs wd v
theorem Bd.lt {w : World} {t : Nat} {a b : Option Addr} {cs : Array Value} {wd : Int} {v : Value} (h : Bd w t a b cs wd v) : t < w.heap.size := by
  obtain ⟨_, h, _⟩ := h
  exact txt_lt h
theorem Bd.same {w w' : World} {t : Nat} {a b : Option Addr} {cs : Array Value} {wd : Int} {v : Value} (h : Bd w t a b cs wd v) (e : w'.heap[t]? = w.heap[t]?) : Bd w' t a b cs wd v := by
  obtain ⟨cells, h1, h2⟩ := h
  exact ⟨cells, e.trans h1, h2⟩
theorem Bd.keep {w w' : World} {t : Nat} {a b : Option Addr} {cs : Array Value} {wd : Int} {v : Value} (h : Bd w t a b cs wd v) (hb : Below w.heap.size w w') : Bd w' t a b cs wd v := h.same (hb.block t h.lt)
theorem Bd.cells {w : World} {t : Nat} {a b : Option Addr} {cs : Array Value} {wd : Int} {v : Value} (h : Bd w t a b cs wd v) : w.cell? ⟨t, 0, none⟩ = some (.pointer a) ∧ w.cell? ⟨t, 1, none⟩ = some (.pointer b) ∧ w.cell? ⟨t, 258, none⟩ = some (.int .i64 wd) ∧ w.cell? ⟨t, 259, none⟩ = some v := by
  obtain ⟨cells, h1, h2⟩ := h
  exact ⟨(cell_of_row w t 0 _ _ _ h1).trans h2.c0, (cell_of_row w t 1 _ _ _ h1).trans h2.c1, (cell_of_row w t 258 _ _ _ h1).trans h2.c2, (cell_of_row w t 259 _ _ _ h1).trans h2.c3⟩
theorem Bd.at {w : World} {t : Nat} {a b : Option Addr} {f : UInt8 → Bool} {wd : Int} {v : Value} (h : Bd w t a b (Cls.cc f) wd v) (c : UInt8) : w.cell? ⟨t, 2 + c.toNat, none⟩ = some (.int .i64 (Cls.cls f c : Int)) := by
  obtain ⟨cells, h1, h2⟩ := h
  rw [cell_of_row w t _ _ _ _ h1, h2.row _ c.toNat_lt]
  exact Cls.cc_at f c
theorem Bd.free {w : World} {t : Nat} {a b : Option Addr} {cs : Array Value} {wd : Int} {v : Value} (h : Bd w t a b cs wd v) (i : Nat) : w.frozen? ⟨t, i, none⟩ = false := by
  obtain ⟨cells, h1, _⟩ := h
  exact frozen_of_row w t i cells 113 h1
theorem Bd.put {w : World} {t : Nat} {a b : Option Addr} {cs : Array Value} {wd : Int} {v : Value} (h : Bd w t a b cs wd v) (u : Value) : Bd (w.setCell ⟨t, 259, none⟩ u) t a b cs wd u := by
  obtain ⟨cells, h1, h2⟩ := h
  refine ⟨cells.setIfInBounds 259 u, heap_setCell_same w t 259 cells 113 u h1, ?_, ?_, ?_, fun i hi => ?_, ?_, ?_⟩
  · rw [Array.size_setIfInBounds]; exact h2.size
  · rw [Array.getElem?_setIfInBounds_ne (by omega)]; exact h2.c0
  · rw [Array.getElem?_setIfInBounds_ne (by omega)]; exact h2.c1
  · rw [Array.getElem?_setIfInBounds_ne (by omega)]; exact h2.row i hi
  · rw [Array.getElem?_setIfInBounds_ne (by omega)]; exact h2.c2
  · rw [Array.getElem?_setIfInBounds_self]; simp [h2.size]
/-- The class field as a whole. -/
theorem Bd.load {w : World} {t : Nat} {a b : Option Addr} {cs : Array Value} {wd : Int} {v : Value} (h : Bd w t a b cs wd v) (hs : cs.size = 256) : (loadVar 106 ⟨t, 2, none⟩).run Tryz.prog w = .ok (.agg cs) w := by
  obtain ⟨cells, h1, h2⟩ := h
  have hl : (loadCells ⟨t, 2, none⟩ cs.toList.length).run Tryz.prog w = .ok cs.toList.toArray w :=
    run_loadCells_list w ⟨t, 2, none⟩ cs.toList (fun j x hv => by
      have hadd : (⟨t, 2, none⟩ : Addr).add j = ⟨t, 2 + j, none⟩ := by unfold Addr.add; split <;> simp_all
      have hj : j < 256 := by have := (List.getElem?_eq_some_iff.1 hv).1; rw [Array.length_toList] at this; omega
      rw [hadd, cell_of_row w t _ _ _ _ h1, h2.row j hj]
      simpa using hv)
  have hi := Cls.size27
  cases hq : Tryz.prog.info? 106 with
  | none => rw [hq] at hi; cases hi
  | some i =>
    rw [hq] at hi
    have hsz : i.size = cs.size := by rw [hs]; exact Option.some.inj hi
    have hagg : (isAgg 106).run Tryz.prog w = .ok true w := by
      unfold isAgg
      rw [Sem.run_bind, run_underlying Cls.und27 w]
      rfl
    simp only [Array.length_toList, Array.toArray_toList] at hl
    simp [loadVar, Sem.run_bind, hagg, sizeOf, typeInfo, hq, hsz, hl]
end Go.Proofs.YtcbhjhhajeeimaaGreat.Dfa
/- The contracts of States, Width, Path, row and Next. -/
namespace Go.Proofs.YtcbhjhhajeeimaaGreat.Dfa
open Go.RowKit Go.Maps Go.Proofs.YtcbhjhhajeeimaaGreat.Tri Go.Proofs.YtcbhjhhajeeimaaGreat.Lnk Go.Proofs.YtcbhjhhajeeimaaGreat.Reg
set_option maxRecDepth 100000

theorem states_any (w : World) (t tt : Nat) (ps l : List Tx) (s : Nat) (htr : Tr w s tt ps l) (h0 : w.cell? ⟨t, 0, none⟩ = some (.pointer (some ⟨tt, 0, none⟩))) : Calls Tryz.prog 51 #[.pointer (some ⟨t, 0, none⟩)] w fun e w' => e = .returned (.int .i64 (ps.length : Int)) ∧ w = w' := by
  have HN := Lib.hid (nodes_any w s tt ps l htr)
  clear htr
  go_enter Tryz.func51, Tryz.ntmps51
  go_wp2_with (go_at_call 47; (with_reducible refine HN.out.mono ?_); rintro e w0 ⟨rfl, rfl⟩)
  go_ret
  exact ⟨rfl, rfl⟩
theorem states_none (w : World) : Calls Tryz.prog 51 #[.pointer none] w fun e w' => e = .returned (.int .i64 0) ∧ w = w' := by
  go_enter Tryz.func51, Tryz.ntmps51
  go_wp2
  go_ret
  exact ⟨rfl, rfl⟩
theorem und71 : Tryz.prog.underlying 111 = some (.slice 3) := by kernel_rfl
theorem size3 : ∀ w, (Go.sizeOf 3).run Tryz.prog w = .ok 1 w := fun w => by
  obtain ⟨i0, hi, hz0, hz1, hz2⟩ := info_parts info3
  simp [Go.sizeOf, typeInfo, hi, hz1]
theorem mul_next (i wd : Nat) : (((i : Int) + 1) * (wd : Int)) = ((i * wd + wd : Nat) : Int) := by
  rw [Int.natCast_add, Int.natCast_mul, Int.add_mul, Int.one_mul]
theorem mul_wrap {i wd : Nat} (h : i * wd ≤ 1000000000) : IntKind.i64.wrap ((i : Int) * (wd : Int)) = ((i * wd : Nat) : Int) := by
  rw [← Int.natCast_mul]
  exact IntWalk.i64_in _ (by omega)
theorem next_wrap {i wd : Nat} (h : i * wd + wd ≤ 1000000000) : IntKind.i64.wrap (((i : Int) + 1) * (wd : Int)) = ((i * wd + wd : Nat) : Int) := by
  rw [mul_next]
  exact IntWalk.i64_in _ (by omega)
set_option maxHeartbeats 2000000 in
theorem row_in (w : World) (t : Nat) (n g wd : Nat) (i : Nat) (hi : i < n) (hw : 0 < wd) (hb : n * wd ≤ 1000000)
    (hs : Calls Tryz.prog 51 #[.pointer (some ⟨t, 0, none⟩)] w fun e w' => e = .returned (.int .i64 (n : Int)) ∧ w = w') (h1 : w.cell? ⟨t, 258, none⟩ = some (.int .i64 (wd : Int))) (h2 : w.cell? ⟨t, 259, none⟩ = some (.slice (some ⟨g, 0, none⟩) (n * wd) (n * wd))) :
    Calls Tryz.prog 70 #[.pointer (some ⟨t, 0, none⟩), .int .i64 (i : Int)] w fun e w' => e = .returned (.slice (some ⟨g, i * wd, none⟩) wd (n * wd - i * wd)) ∧ ∃ q, w' = w.drewN q := by
  have HS := Lib.hid hs
  have hl : (i : Int) < (n : Int) := by omega
  have hl2 : ¬ ((n : Int) ≤ (i : Int)) := by omega
  have hle := row_le (wd := wd) hi
  have hin : i ≤ n * wd := Nat.le_trans (Nat.le_of_lt hi) (Nat.le_mul_of_pos_right n hw)
  have e1 := mul_wrap (i := i) (wd := wd) (by omega)
  have e3 : IntKind.i64.wrap ((i : Int) + 1) = (i : Int) + 1 := IntWalk.i64_in _ (by omega)
  have e2 := next_wrap (i := i) (wd := wd) (by omega)
  have hsl : ∀ W, (Instr.slice 111 (.slice (some ⟨g, 0, none⟩) (n * wd) (n * wd)) (some (.int .i64 ((i * wd : Nat) : Int))) (some (.int .i64 (((i * wd : Nat) : Int) + (wd : Int)))) none).run Tryz.prog W = .ok (.slice (some ⟨g, i * wd, none⟩) wd (n * wd - i * wd)) W := fun W => by
    have h := Lib.run_slice_window (P := Tryz.prog) W 111 3 und71 size3 g 0 (n * wd) (n * wd) (i * wd) (i * wd + wd) (by omega) hle
    rw [Nat.zero_add, show i * wd + wd - i * wd = wd by omega, Int.natCast_add] at h
    exact h
  clear hs hle hb
  generalize n * wd = NN at *
  generalize i * wd = M at *
  go_enter Tryz.func70, Tryz.ntmps70
  go_wp2_with (go_at_call 51; (with_reducible refine HS.out.mono ?_); rintro e w0 ⟨rfl, rfl⟩)
  go_quiet (fail)
  go_wp2
  go_ret
  exact ⟨rfl, nq, rfl⟩
theorem row_out (w : World) (t : Option Addr) (n : Nat) (i : Int) (hi : ¬ (0 ≤ i ∧ i < n))
    (hs : Calls Tryz.prog 51 #[.pointer t] w fun e w' => e = .returned (.int .i64 (n : Int)) ∧ w = w') :
    Calls Tryz.prog 70 #[.pointer t, .int .i64 i] w fun e w' => e = .returned (.slice none 0 0) ∧ w = w' := by
  have HS := Lib.hid hs
  clear hs
  by_cases h : i < 0
  · clear hi
    go_enter Tryz.func70, Tryz.ntmps70
    go_wp2
    go_ret
    exact ⟨rfl, rfl⟩
  · have h2 : (n : Int) ≤ i := by omega
    have h3 : 0 ≤ i := by omega
    clear hi h
    go_enter Tryz.func70, Tryz.ntmps70
    go_wp2_with (go_at_call 51; (with_reducible refine HS.out.mono ?_); rintro e w0 ⟨rfl, rfl⟩)
    go_ret
    exact ⟨rfl, rfl⟩
end Go.Proofs.YtcbhjhhajeeimaaGreat.Dfa
/- The contract of fill. -/
namespace Go.Proofs.YtcbhjhhajeeimaaGreat.Dfa
open Go.RowKit Go.Maps Go.Proofs.YtcbhjhhajeeimaaGreat.Tri Go.Proofs.YtcbhjhhajeeimaaGreat.Lnk Go.Proofs.YtcbhjhhajeeimaaGreat.Reg
set_option maxRecDepth 100000

/-- A call that hands out numbers in a row of its own. -/
def GivesOwn (w : World) (l : List Int) (e : Ending) (w' : World) : Prop := ∃ v, e = .returned v ∧ w'.ownsRow w.heap.size 3 1 v l.length (Lnk.ivals l) ∧ Below w.heap.size w w'
set_option maxHeartbeats 2000000 in
theorem iclone_own (l : List Int) (ad : Addr) (cap : Nat) (w : World) (hl : l.length ≤ 1000000) (hb : Is w w.heap.size (some ad) l) :
    Calls Tryz.prog 91 #[.slice (some ad) l.length cap] w (GivesOwn w l) := by
  have q32 := Lnk.eql_nil32
  have HB := Lib.hid (hb.keep ((Below.refl _ w).alloc (Nat.le_refl _) (.cells #[] 3)))
  clear hb
  go_enter Tryz.func91, Tryz.ntmps91
  go_wp2_with (at_builtin; refine app_isl rfl _ _ rfl w.heap.size _ 0 [] rfl (World.ownsRow_made w #[] 0 (Nat.le_refl _) (Nat.zero_le _) rfl) (some ad) l cap w.heap.size rfl HB.out (fun e => by cases e) (by omega) (by simp) ?_; intro v' w1 hown hgrow)
  rw [List.nil_append, Nat.zero_add] at hown
  go_ret
  exact ⟨_, rfl, hown, ((Below.refl _ w).alloc (Nat.le_refl _) _).grown hgrow (by simp) (fun k hk => own_ge (World.ownsRow_made (base := w.heap.size) (e := 3) (size := 1) w #[] 0 (Nat.le_refl _) (Nat.zero_le _) rfl) hk)⟩
set_option maxHeartbeats 1000000 in
theorem order_own (w : World) (s t : Nat) (ps l : List Tx) (h : Li w s t ps l) : Calls Tryz.prog 69 #[.pointer (some ⟨t, 0, none⟩)] w (GivesOwn w (ordN ps)) := by
  obtain ⟨hw, hl, hn, h0, g, cap, vo, h1, h2, h3⟩ := h
  obtain ⟨a, c, rfl, hi, hnil⟩ := own_is h3
  have hpos : 0 < (ordN ps).length := by rw [ordN_len hw]; exact hw.pos
  have HN := Lib.hid hpos
  obtain ⟨b, off, rfl, _⟩ := hi hpos
  have HC := Lib.hid (iclone_own (ordN ps) _ c w (by rw [ordN_len hw]; omega) hi)
  obtain ⟨c0, c1⟩ := h1.cells
  have ht := h1.lt
  have e : ((ord ps).map (place ps)).length = (ordN ps).length := rfl
  rw [e] at c1
  generalize ordN ps = o at *
  clear h1 h2 h3 hw hl e hi hpos
  go_enter Tryz.func69, Tryz.ntmps69
  go_wp2_with (go_at_call 91; (with_reducible refine HC.out.mono ?_); rintro e w1 ⟨v1, rfl, ho1, hb1⟩)
  go_ret
  exact ⟨_, rfl, ho1, hb1⟩
/-- All blocks but one stay. -/
def Km (g : Nat) (w w' : World) : Prop := w.heap.size ≤ w'.heap.size ∧ ∀ b, b < w.heap.size → b ≠ g → w'.heap[b]? = w.heap[b]?
theorem Km.refl (g : Nat) (w : World) : Km g w w := ⟨Nat.le_refl _, fun _ _ _ => rfl⟩
theorem Km.trans {g : Nat} {a b c : World} (h : Km g a b) (k : Km g b c) : Km g a c :=
  ⟨Nat.le_trans h.1 k.1, fun i hi hg => (k.2 i (Nat.lt_of_lt_of_le hi h.1) hg).trans (h.2 i hi hg)⟩
theorem Km.of_below {g : Nat} {w w' : World} (h : Below w.heap.size w w') : Km g w w' := ⟨h.size, fun b hb _ => h.block b hb⟩
theorem Km.set (w : World) (g i : Nat) (v : Value) : Km g w (w.setCell ⟨g, i, none⟩ v) := ⟨by simp, fun b _ hb => Below.heap_setCell w ⟨g, i, none⟩ v b hb⟩
theorem Km.row (w : World) (g : Nat) (cs : Array Value) : Km g w (w.setRow g cs) := ⟨by simp, fun b _ hb => setRow_other w g b cs hb⟩
theorem Km.own {g : Nat} {w w' : World} (h : Km g w w') {base e size n : Nat} {v : Value} {xs : List Value} (ho : w.ownsRow base e size v n xs) (hg : g < base) : w'.ownsRow base e size v n xs :=
  own_far_block ho fun k hk => by
    obtain ⟨h1, h2, _⟩ := own_block_lt ho hk
    exact h.2 k h2 (by omega)
theorem Km.txt {g : Nat} {w w' : World} (h : Km g w w') {cs : Array Value} (hg : w.heap[g]? = some (.cells cs 3 (0, 0))) {s : Nat} {a : Option Addr} {l : List UInt8} (ht : Txt w s a l) : Txt w' s a l := fun h0 => by
  obtain ⟨b, cs', e, hs, hh, hc⟩ := ht h0
  refine ⟨b, cs', e, hs, (h.2 b (txt_lt hh) fun q => ?_).trans hh, hc⟩
  subst q
  rw [hg] at hh
  simp at hh
/-- The table while it is filled. -/
def Fl (w0 : World) (t g : Nat) (a b : Option Addr) (cs : Array Value) (n wd : Nat) (F : Nat → Nat → Int) (w : World) : Prop :=
  Below w0.heap.size w0 w ∧ w0.heap.size ≤ g ∧ Bd w t a b cs (wd : Int) (.slice (some ⟨g, 0, none⟩) (n * wd) (n * wd)) ∧ w.heap[g]? = some (.cells (Cls.icells (tabF F n wd)) 3 (0, 0))
theorem Fl.keep {w0 w w' : World} {t g : Nat} {a b : Option Addr} {cs : Array Value} {n wd : Nat} {F : Nat → Nat → Int} (h : Fl w0 t g a b cs n wd F w) (hb : Below w.heap.size w w') : Fl w0 t g a b cs n wd F w' :=
  ⟨h.1.trans (hb.mono h.1.size), h.2.1, h.2.2.1.keep hb, (hb.block g (txt_lt h.2.2.2)).trans h.2.2.2⟩
theorem Fl.cell {w0 w : World} {t g : Nat} {a b : Option Addr} {cs : Array Value} {n wd : Nat} {F : Nat → Nat → Int} (h : Fl w0 t g a b cs n wd F w) {i k : Nat} (hi : i < n) (hk : k < wd) : w.cell? ⟨g, i * wd + k, none⟩ = some (.int .i64 (F i k)) := by
  rw [cell_of_row w g _ _ _ _ h.2.2.2]
  have e := tabF_at F hi hk
  obtain ⟨h1, h2⟩ := List.getElem?_eq_some_iff.1 e
  rw [Cls.icells_at _ _ h1, h2]
theorem Fl.ne {w0 w : World} {t g : Nat} {a b : Option Addr} {cs : Array Value} {n wd : Nat} {F : Nat → Nat → Int} (h : Fl w0 t g a b cs n wd F w) : t ≠ g := fun e => by
  subst e
  obtain ⟨cells, h1, _⟩ := h.2.2.1
  rw [h.2.2.2] at h1
  simp at h1
theorem Fl.free {w0 w : World} {t g : Nat} {a b : Option Addr} {cs : Array Value} {n wd : Nat} {F : Nat → Nat → Int} (h : Fl w0 t g a b cs n wd F w) (i : Nat) : w.frozen? ⟨g, i, none⟩ = false := frozen_of_row w g i _ 3 h.2.2.2
theorem Fl.set {w0 w : World} {t g : Nat} {a b : Option Addr} {cs : Array Value} {n wd : Nat} {F : Nat → Nat → Int} {i : Nat} {R : Nat → Int} (h : Fl w0 t g a b cs n wd (putRow F i R) w) {k : Nat} (hk : k < wd) (x : Int) : Fl w0 t g a b cs n wd (putRow F i fun k' => if k' = k then x else R k') (w.setCell ⟨g, i * wd + k, none⟩ (.int .i64 x)) := by
  refine ⟨h.1.setCell (p := ⟨g, i * wd + k, none⟩) h.2.1 _, h.2.1, h.2.2.1.same (Below.heap_setCell w ⟨g, i * wd + k, none⟩ _ t h.ne), ?_⟩
  rw [heap_setCell_same w g (i * wd + k) _ 3 _ h.2.2.2, Cls.icells_set, tabF_set F R x hk]
theorem Fl.copy {w0 w : World} {t g : Nat} {a b : Option Addr} {cs : Array Value} {n wd : Nat} {F : Nat → Nat → Int} (h : Fl w0 t g a b cs n wd F w) {i : Nat} (hi : i < n) (R : Nat → Int) : Fl w0 t g a b cs n wd (putRow F i R) (w.setRow g ((Cls.icells (tabF F n wd)).toList.take (i * wd) ++ (Cls.ivals ((List.range wd).map R) ++ (Cls.icells (tabF F n wd)).toList.drop (i * wd + wd))).toArray) := by
  refine ⟨below_setRow h.1 h.2.1 _, h.2.1, h.2.2.1.same (setRow_other w g t _ h.ne), ?_⟩
  rw [setRow_heap w g _ _ 3 _ h.2.2.2, ← tabF_splice F R hi]
  simp [Cls.icells, Cls.ivals, List.map_append, List.map_take, List.map_drop]
theorem Fl.congr {w0 w : World} {t g : Nat} {a b : Option Addr} {cs : Array Value} {n wd : Nat} {F G : Nat → Nat → Int} (h : Fl w0 t g a b cs n wd F w) (e : tabF F n wd = tabF G n wd) : Fl w0 t g a b cs n wd G w :=
  ⟨h.1, h.2.1, h.2.2.1, by rw [← e]; exact h.2.2.2⟩
/-- 'kids[1:]': where it begins plays no part behind its end. -/
theorem size5 : ∀ w, (Go.sizeOf 5).run Tryz.prog w = .ok 1 w := fun w => by
  have hsz : (Tryz.prog.info? 5).map (·.size) = some 1 := by kernel_rfl
  cases hq : Tryz.prog.info? 5 with
  | none => rw [hq] at hsz; cases hsz
  | some i =>
    rw [hq] at hsz
    have hz : i.size = 1 := Option.some.inj hsz
    simp [Go.sizeOf, typeInfo, hq, hz]
theorem run_cut1 (b o n c : Nat) (h : 1 ≤ n) (hc : n ≤ c) : ∃ A, (∀ W, (Instr.slice 23 (.slice (some ⟨b, o, none⟩) n c) (some (.int .i64 1)) none none).run Tryz.prog W = .ok (.slice (some A) (n - 1) (c - 1)) W) ∧ (1 < n → A = ⟨b, o + 1, none⟩) := by
  have ht : Tryz.prog.underlying 23 = some (.slice 5) := by kernel_rfl
  have ht' : Tryz.prog.underlying 23 = some (.slice (Tryz.prog.elem 23)) := by simp [Program.elem, ht]
  have he : Tryz.prog.elem 23 = 5 := by simp [Program.elem, ht]
  refine ⟨if c = 1 then ⟨b, o, none⟩ else ⟨b, o + 1, none⟩, fun W => ?_, fun h1 => if_neg (by omega)⟩
  rw [run_slice_l W 23 _ _ _ ht' .i64 _ (by omega) (by omega), he, size5]
  by_cases h0 : c = 1
  · subst h0
    simp [Result.andThen, sliced]
  · simp [Result.andThen, sliced, Addr.add, h0]
/-- What is left of the kids. -/
def Cut (b m j : Nat) (v : Value) : Prop := ∃ A c, v = .slice A (m - j) c ∧ m - j ≤ c ∧ (j < m → A = some ⟨b, j, none⟩)
end Go.Proofs.YtcbhjhhajeeimaaGreat.Dfa
/- The contract of fill. -/
namespace Go.Proofs.YtcbhjhhajeeimaaGreat.Dfa
open Go.RowKit Go.Maps Go.Proofs.YtcbhjhhajeeimaaGreat.Tri Go.Proofs.YtcbhjhhajeeimaaGreat.Lnk Go.Proofs.YtcbhjhhajeeimaaGreat.Reg
set_option maxRecDepth 100000

/-- A copy of a row of the table into another one, or of nothing. -/
theorem copy_row {w0 w : World} {t g : Nat} {pa pb : Option Addr} {cs : Array Value} {n wd : Nat} {F : Nat → Nat → Int} (hf : Fl w0 t g pa pb cs n wd F w) {ops : Array Oper} {rest : List Oper} {o : Oper} {a : Act} {Q : Exit → Act → World → Prop} (hgd : o.guard = none) (d s : Operand)
    (ho : o.op = .call { callee := .builtin .copy, args := #[d, s], argTypes := #[111, 111] }) {i : Nat} (hi : i < n) (dCap : Nat) (hd : a.eval d = .slice (some ⟨g, i * wd, none⟩) wd dCap) (A : Option Addr) (m c : Nat) (hs : a.eval s = .slice A m c) (R : Nat → Int)
    (hsrc : (m = 0 ∧ ∀ k, k < wd → F i k = R k) ∨ (m = wd ∧ ∃ j, j < n ∧ A = some ⟨g, j * wd, none⟩ ∧ ∀ k, k < wd → F j k = R k))
    (h : ∀ w', Fl w0 t g pa pb cs n wd (putRow F i R) w' → Km g w w' → wpList Tryz.prog ops Q rest (a.put o.dst (goInt m)) w') : wpList Tryz.prog ops Q (o :: rest) a w := by
  have hsz : (Tryz.prog.info? 3).map (·.size) = some 1 := by kernel_rfl
  rcases hsrc with ⟨rfl, hR⟩ | ⟨rfl, j, hj, rfl, hR⟩
  · refine wpList_copy_nothing hgd d s 111 111 ho 3 und71 hsz _ _ wd dCap 0 c hd hs (by simp) (h w (hf.congr (tabF_congr fun i' k _ hk => ?_)) (Km.refl g w))
    by_cases e : i' = i
    · subst e; rw [putRow_at, hR k hk]
    · rw [putRow_other _ _ _ e]
  · have hl : (Cls.ivals ((List.range m).map R)).length = m := by simp [Cls.ivals]
    have hle := row_le (wd := m) hi
    have hcz : (Cls.icells (tabF F n m)).size = n * m := by rw [Cls.icells_size, tabF_len]
    refine wpList_copy_own hgd d s 111 111 ho 3 und71 hsz g (i * m) m dCap ⟨g, j * m, none⟩ m c hd hs _ 3 hf.2.2.2 (Cls.ivals ((List.range m).map R)) (by rw [hl]; simp) ?_ (by rw [hl, hcz]; exact hle) ?_ ?_
    · intro k v hv
      have hk : k < m := by rw [← hl]; exact (List.getElem?_eq_some_iff.1 hv).1
      have ea : (⟨g, j * m, none⟩ : Addr).add k = ⟨g, j * m + k, none⟩ := by unfold Addr.add; split <;> simp_all
      rw [ea, hf.cell hj hk, hR k hk]
      simpa [Cls.ivals, hk] using hv
    · intro v hv
      obtain ⟨x, _, rfl⟩ := List.mem_map.1 hv
      rfl
    · rw [hl]
      exact h _ (hf.copy hi R) (Km.row w g _)
set_option maxHeartbeats 8000000 in
theorem dfill_any (w0 w : World) (st tt sx x t g : Nat) (l : List Tx) (wd : Nat) (hwd : wd = Cls.cnt (Cls.stands l) + 1) (hn : (paths l).length ≤ 160) (htr : Tr w0 st tt (paths l) l) (hli : Li w0 sx x (paths l) l)
    (h : Fl w0 t g (some ⟨tt, 0, none⟩) (some ⟨x, 0, none⟩) (Cls.cc (Cls.stands l)) (paths l).length wd (part l []) w) :
    Calls Tryz.prog 52 #[.pointer (some ⟨t, 0, none⟩)] w fun e w' => (∃ v, e = .returned v) ∧ Fl w0 t g (some ⟨tt, 0, none⟩) (some ⟨x, 0, none⟩) (Cls.cc (Cls.stands l)) (paths l).length wd (part l (ord (paths l))) w' := by
  have HW := Lib.hid htr.2.1
  have HFL := Lib.hid h
  have HT : Hid (∀ X, Below w0.heap.size w0 X → Tr X st tt (paths l) l) := Lib.hid fun X hX => htr.keep hX
  have HL : Hid (∀ X, Below w0.heap.size w0 X → Li X sx x (paths l) l) := Lib.hid fun X hX => hli.keep hX
  have HO := Lib.hid (order_own w sx x (paths l) l (hli.keep h.1))
  obtain ⟨c0, c1, c2, c3⟩ := h.2.2.1.cells
  have hlen := ordN_len HW.out
  have HWD := Lib.hid hwd
  have hwp : 0 < wd := by omega
  have hwl : wd ≤ 257 := by have := Cls.cnt_le (Cls.stands l); omega
  clear htr hli h hwd
  go_enter Tryz.func52, Tryz.ntmps52
  go_wp2
  go_step3
  go_wp2
  go_step3
  go_wp2_with (go_at_call 69; (with_reducible refine HO.out.mono ?_); rintro e w1 ⟨v1, rfl, ho1, hb1⟩; obtain ⟨a1, k1, rfl, _, _⟩ := own_is ho1)
  have HF1 := Lib.hid (HFL.out.keep hb1)
  have HO1 := Lib.hid ho1
  have hgw : g < w.heap.size := txt_lt HFL.out.2.2.2
  clear c0 c1 c2 c3 ho1 hb1 HO HFL
  generalize w.heap.size = ws at *
  go_loopw [13] (fun i wr => ∃ k : Nat, k ≤ (ordN (paths l)).length ∧ i = .int .i64 k ∧ Fl w0 t g (some ⟨tt, 0, none⟩) (some ⟨x, 0, none⟩) (Cls.cc (Cls.stands l)) (paths l).length wd (part l ((ord (paths l)).take k)) wr ∧ wr.ownsRow ws 3 1 (.slice a1 (ordN (paths l)).length k1) (ordN (paths l)).length (ivals (ordN (paths l)))) (fun i _ => (ordN (paths l)).length - (intOf i).toNat)
  case atStart => exact ⟨0, by omega, rfl, by rw [List.take_zero]; exact HF1.out, HO1.out⟩
  case round =>
    obtain ⟨k, hk, rfl, hfl, ho⟩ := hrel
    by_cases hlt : k < (ordN (paths l)).length
    · have hlt2 : (k : Int) < ((ordN (paths l)).length : Int) := by omega
      obtain ⟨a2, k2, e2, hi2, _⟩ := own_is ho
      cases e2
      obtain ⟨b2, o2, rfl, hb2, hc2⟩ := hi2 (by omega)
      have hst := hc2 k hlt
      have hkk : k < (ord (paths l)).length := by rw [ord_len HW.out]; omega
      have hpm := ord_sub HW.out _ (List.getElem_mem hkk)
      obtain ⟨i, hi, ei, ei2, _⟩ := place_mem hpm
      have hsi : (ordN (paths l))[k] = (i : Int) := by simp only [ordN, List.getElem_map]; exact ei
      rw [hsi] at hst
      have HNEW := Lib.hid (ord_new HW.out hkk)
      have HFALL := Lib.hid (ord_fall HW.out hkk)
      have HTK : Hid ((ord (paths l)).take (k + 1) = (ord (paths l)).take k ++ [(ord (paths l))[k]]) := Lib.hid (List.take_succ_eq_append_getElem hkk)
      have HPM := Lib.hid hpm
      have HEI := Lib.hid ei
      have HEI2 := Lib.hid ei2
      have HFK := Lib.hid hfl
      have HOK := Lib.hid ho
      obtain ⟨c0, c1, c2, c3⟩ := hfl.2.2.1.cells
      clear hfl ho hi2 hc2 hsi hpm ei ei2
      generalize (ord (paths l))[k] = p at *
      generalize (ord (paths l)).take k = Q at *
      have HPI : Hid ((paths l)[i]? = some p) := Lib.hid (by rw [List.getElem?_eq_getElem hi, HEI2.out])
      have HBW : Hid (Below wr.heap.size wr wr) := Lib.hid (Below.refl _ _)
      have HLD : Hid (∀ X, Below wr.heap.size wr X → X.cell? ⟨t, 0, none⟩ = some (.pointer (some ⟨tt, 0, none⟩))) := Lib.hid fun X hX => (HFK.out.keep hX).2.2.1.cells.1
      have HRW : Hid (∀ (j : Nat) X, j < (paths l).length → Below w0.heap.size w0 X → Bd X t (some ⟨tt, 0, none⟩) (some ⟨x, 0, none⟩) (Cls.cc (Cls.stands l)) (wd : Int) (.slice (some ⟨g, 0, none⟩) ((paths l).length * wd) ((paths l).length * wd)) → Calls Tryz.prog 70 #[.pointer (some ⟨t, 0, none⟩), .int .i64 (j : Int)] X fun e w' => e = .returned (.slice (some ⟨g, j * wd, none⟩) wd ((paths l).length * wd - j * wd)) ∧ ∃ q, w' = X.drewN q) := Lib.hid fun j X hj hX hB => by
        obtain ⟨d0, d1, d2, d3⟩ := hB.cells
        exact row_in X t (paths l).length g wd j hj (by omega) (by have := Nat.mul_le_mul hn hwl; omega) (states_any X t tt (paths l) l st (HT.out X hX) d0) d2 d3
      have HROW : Hid (∀ X, Below wr.heap.size wr X → Calls Tryz.prog 70 #[.pointer (some ⟨t, 0, none⟩), .int .i64 (i : Int)] X fun e w' => e = .returned (.slice (some ⟨g, i * wd, none⟩) wd ((paths l).length * wd - i * wd)) ∧ ∃ q, w' = X.drewN q) := Lib.hid fun X hX => HRW.out i X hi (HFK.out.keep hX).1 (HFK.out.keep hX).2.2.1
      have HKC : Hid (∀ X, Below wr.heap.size wr X → Calls Tryz.prog 65 #[.pointer (some ⟨tt, 0, none⟩), .int .i64 (i : Int)] X (GivesText X (rkids (paths l) p))) := Lib.hid fun X hX => by
        have := kids_any X st tt (paths l) l (HT.out _ (HFK.out.keep hX).1) (place (paths l) p) (wf_nat (place_ge _ _) (by have := place_lt (paths l) p; omega))
        rwa [kids_eq HPM.out, HEI.out] at this
      have HSRC : ∃ (fv : Int) (A2 : Option Addr) (n2 c2 : Nat), Hid (∀ X, Below wr.heap.size wr X → Calls Tryz.prog 71 #[.pointer (some ⟨x, 0, none⟩), .int .i64 (i : Int)] X fun e w' => e = .returned (.int .i64 fv) ∧ Below X.heap.size X w') ∧ Hid (∀ X, Below wr.heap.size wr X → Calls Tryz.prog 70 #[.pointer (some ⟨t, 0, none⟩), .int .i64 fv] X fun e w' => e = .returned (.slice A2 n2 c2) ∧ ∃ q, w' = X.drewN q) ∧ Hid ((n2 = 0 ∧ ∀ k, k < wd → part l Q i k = bas l p k) ∨ (n2 = wd ∧ ∃ j, j < (paths l).length ∧ A2 = some ⟨g, j * wd, none⟩ ∧ ∀ k, k < wd → part l Q j k = bas l p k)) := by
        have hfa : ∀ X, Below wr.heap.size wr X → Calls Tryz.prog 71 #[.pointer (some ⟨x, 0, none⟩), .int .i64 (i : Int)] X fun e w' => e = .returned (.int .i64 (failOf (paths l) p)) ∧ Below X.heap.size X w' := fun X hX => by
          have := fail_any X sx x (paths l) l (HL.out X (HFK.out.keep hX).1) (i : Int)
          rwa [lkAt_in l hi, HEI2.out] at this
        by_cases hp0 : p = []
        · refine ⟨-1, none, 0, 0, Lib.hid fun X hX => ?_, Lib.hid fun X hX => ?_, Lib.hid (Or.inl ⟨rfl, fun k _ => ?_⟩)⟩
          · have := hfa X hX
            rw [hp0] at this
            exact this
          · obtain ⟨d0, d1, d2, d3⟩ := (HFK.out.keep hX).2.2.1.cells
            refine (row_out X _ (paths l).length (-1) (by omega) (states_any X t tt (paths l) l st (HT.out X (HFK.out.keep hX).1) d0)).mono ?_
            rintro e w' ⟨rfl, rfl⟩
            exact ⟨rfl, 0, rfl⟩
          · rw [part_out HPI.out HNEW.out, bas, if_pos hp0]
        · obtain ⟨j, hj, ej, ej2, _⟩ := place_mem (Spa.fallT_mem HW.out p)
          refine ⟨(j : Int), some ⟨g, j * wd, none⟩, wd, (paths l).length * wd - j * wd, Lib.hid fun X hX => ?_, Lib.hid fun X hX => HRW.out j X hj (HFK.out.keep hX).1 (HFK.out.keep hX).2.2.1, Lib.hid (Or.inr ⟨rfl, j, hj, rfl, fun k _ => ?_⟩)⟩
          · have := hfa X hX
            rwa [Spa.fail_fall HW.out hp0, ej] at this
          · rw [part_in (p := Spa.fallT (paths l) p) (by rw [List.getElem?_eq_getElem hj, ej2]) (HFALL.out hp0), bas, if_neg hp0]
      obtain ⟨fv, A2, n2, q2, HFAIL, HROW2, HS2⟩ := HSRC
      go_wp2
      refine wp_region_held_drew (S := fun w' => Below wr.drew.heap.size wr.drew w') (by kernel_rfl) (Below.refl _ _) (fun hH0 => ?_)
      have B0 := Lib.hid (below_drews HBW.out 1)
      change Hid (Below _ _ wr.drew) at B0
      generalize wr.drew = x0 at *
      refine held_take (i := 0) (d := 17) (oi := _) (v := ?_) rfl rfl (by kernel_rfl) (by kernel_rfl) (by kernel_rfl) (fun _ _ _ h => h) (Or.inl ⟨by rfl, ?_⟩) (by assumption) ?_
      rotate_left
      · (intro w hSw; clear hSw; go_simp; (try with_reducible rfl))
      simp only [Act.put, List.setIfInBounds_toArray, List.set_cons_zero, List.set_cons_succ]
      refine held_take (i := 1) (d := 18) (oi := _) (v := ?_) rfl rfl (by kernel_rfl) (by kernel_rfl) (by kernel_rfl) (fun _ _ _ h => h) (Or.inl ⟨by rfl, ?_⟩) (by assumption) ?_
      rotate_left
      · (intro w hSw; clear hSw; go_simp; (try with_reducible rfl))
      simp only [Act.put, List.setIfInBounds_toArray, List.set_cons_zero, List.set_cons_succ]
      refine held_take (i := 3) (d := 20) (oi := _) (v := ?_) rfl rfl (by kernel_rfl) (by kernel_rfl) (by kernel_rfl) (fun _ _ _ h => h) (Or.inl ⟨by rfl, ?_⟩) (by assumption) ?_
      rotate_left
      · (intro w hSw; clear hSw; go_simp; (try with_reducible rfl))
      simp only [Act.put, List.setIfInBounds_toArray, List.set_cons_zero, List.set_cons_succ]
      refine held_take (i := 4) (d := 21) (oi := _) (v := ?_) rfl rfl (by kernel_rfl) (by kernel_rfl) (by kernel_rfl) (fun _ _ _ h => h) (Or.inl ⟨by rfl, ?_⟩) (by assumption) ?_
      rotate_left
      · (intro w hSw; clear hSw; go_simp; (try with_reducible rfl))
      simp only [Act.put, List.setIfInBounds_toArray, List.set_cons_zero, List.set_cons_succ]
      refine held_take (i := 5) (d := 22) (oi := _) (v := ?_) rfl rfl (by kernel_rfl) (by kernel_rfl) (by kernel_rfl) (fun _ _ _ h => h) (Or.inl ⟨by rfl, ?_⟩) (by assumption) ?_
      rotate_left
      · (intro w hSw; clear hSw; go_simp; (try with_reducible rfl))
      simp only [Act.put, List.setIfInBounds_toArray, List.set_cons_zero, List.set_cons_succ]
      refine held_take (i := 6) (d := 23) (oi := _) (v := ?_) rfl rfl (by kernel_rfl) (by kernel_rfl) (by kernel_rfl) (fun _ _ _ h => h) (Or.inl ⟨by rfl, ?_⟩) (by assumption) ?_
      rotate_left
      · (intro w hSw; have hld := HLD.out w (B0.out.trans (hSw.mono B0.out.size)); clear hSw; go_simp; (try with_reducible rfl))
      simp only [Act.put, List.setIfInBounds_toArray, List.set_cons_zero, List.set_cons_succ]
      refine held_take (i := 7) (d := 24) (oi := _) (v := ?_) rfl rfl (by kernel_rfl) (by kernel_rfl) (by kernel_rfl) (fun _ _ _ h => h) (Or.inl ⟨by rfl, ?_⟩) (by assumption) ?_
      rotate_left
      · (intro w hSw; clear hSw; go_simp; (try with_reducible rfl))
      simp only [Act.put, List.setIfInBounds_toArray, List.set_cons_zero, List.set_cons_succ]
      refine wpAnyH_ready (rs := [2]) (by kernel_rfl) (by simp) ?_
      refine AllReadyH.cons rfl (fun K hK => ?_) AllReadyH.nil
      go_simp
      go_wp2_with (go_at_call 70; (with_reducible refine (HROW.out _ B0.out).mono ?_); rintro e x' ⟨rfl, q, rfl⟩)
      have hb : Below x0.heap.size x0 (x0.drewN q) := below_drews (Below.refl _ _) q
      generalize x0.drewN q = x1 at *
      refine hK.out _ _ hb (fun _ => ?_)
      have B1 := Lib.hid (B0.out.trans (hb.mono B0.out.size))
      refine wpAnyH_more (S' := fun w' => Below x1.heap.size x1 w') (fun w' h => hb.trans (h.mono hb.size)) _ _ _ _ ?_
      have hH1 : Below x1.heap.size x1 x1 := Below.refl _ _
      clear hK K hH0 hb B0
      refine wpAnyH_ready (rs := [8]) (by kernel_rfl) (by simp) ?_
      refine AllReadyH.cons rfl (fun K hK => ?_) AllReadyH.nil
      go_simp
      go_wp2_with (go_at_call 65; (with_reducible refine (HKC.out _ B1.out).mono ?_); rintro e x2 ⟨ak, ck, rfl, htx, hkc, hkn, hb⟩)
      refine hK.out _ _ hb (fun _ => ?_)
      have B2 := Lib.hid (B1.out.trans (hb.mono B1.out.size))
      refine wpAnyH_more (S' := fun w' => Below x2.heap.size x2 w') (fun w' h => hb.trans (h.mono hb.size)) _ _ _ _ ?_
      have hH2 : Below x2.heap.size x2 x2 := Below.refl _ _
      clear hK K hH1 hb B1
      have HTX := Lib.hid htx
      have HKCC := Lib.hid hkc
      clear htx hkc hkn
      refine held_take (i := 9) (d := 4) (oi := _) (v := ?_) rfl rfl (by kernel_rfl) (by kernel_rfl) (by kernel_rfl) (fun _ _ _ h => h) (Or.inl ⟨by rfl, ?_⟩) (by assumption) ?_
      rotate_left
      · (intro w hSw; clear hSw; go_simp; (try with_reducible rfl))
      simp only [Act.put, List.setIfInBounds_toArray, List.set_cons_zero, List.set_cons_succ]
      refine held_take (i := 10) (d := 5) (oi := _) (v := ?_) rfl rfl (by kernel_rfl) (by kernel_rfl) (by kernel_rfl) (fun _ _ _ h => h) (Or.inl ⟨by rfl, ?_⟩) (by assumption) ?_
      rotate_left
      · (intro w hSw; clear hSw; go_simp; (try with_reducible rfl))
      simp only [Act.put, List.setIfInBounds_toArray, List.set_cons_zero, List.set_cons_succ]
      refine wpAnyH_done (by kernel_rfl) ?_ _
      have HK0 : Hid (Below wr.heap.size wr x2) := B2
      have HF2 := Lib.hid (HFK.out.keep HK0.out)
      obtain ⟨d0, d1, d2, d3⟩ := HF2.out.2.2.1.cells
      have hsz2 := HK0.out.size
      clear c0 c1 c2 c3 HROW HKC hH2
      generalize hks : rkids (paths l) p = ks0 at *
      have HKS := Lib.hid hks
      clear hks
      go_wp2_with (first
        | (go_at_call 71; (with_reducible refine (HFAIL.out _ HK0.out).mono ?_); rintro e x3 ⟨rfl, hb3⟩; have HB3 := Lib.hid (HK0.out.trans (hb3.mono hsz2)); have HF3 := Lib.hid (HF2.out.keep hb3); have HB23 := Lib.hid hb3; clear hb3)
        | (go_at_call 70; (with_reducible refine (HROW2.out _ HB3.out).mono ?_); rintro e x4 ⟨rfl, q4, rfl⟩; have HF4 := Lib.hid (HF3.out.keep (below_drews (Below.refl _ _) q4)); have HB24 := Lib.hid (below_drews HB23.out q4))
        | ((with_reducible refine copy_row HF4.out rfl (.tmp 26) (.tmp 34) rfl hi _ rfl _ _ _ rfl (bas l p) HS2.out ?_); intro x5 hf5 hk5; have HF5 := Lib.hid hf5; have HK5 := Lib.hid ((Km.of_below (g := g) HB24.out).trans hk5); clear hf5 hk5))
      have HF6 : Hid (Fl w0 t g (some ⟨tt, 0, none⟩) (some ⟨x, 0, none⟩) (Cls.cc (Cls.stands l)) (paths l).length wd (putRow (part l Q) i (mid l p 0)) x5) := Lib.hid (by rw [mid_zero]; exact HF5.out)
      have HKB : ∃ kb, Hid (∀ X, Km g x2 X → ∀ j (h : j < ks0.length), X.cell? ⟨kb, j, none⟩ = some (.int .u8 (ks0[j].toNat : Int))) ∧ Cut kb ks0.length 0 (.slice ak ks0.length ck) := by
        rcases Nat.eq_zero_or_pos ks0.length with h0 | h0
        · exact ⟨0, Lib.hid fun X _ j h => by omega, ak, ck, rfl, by have := HKCC.out; omega, fun h => by omega⟩
        · obtain ⟨kb, kcs, e, _, hh, hc⟩ := HTX.out h0
          refine ⟨kb, Lib.hid fun X hX j h => ?_, ak, ck, rfl, by have := HKCC.out; omega, fun _ => e⟩
          have hg : kb ≠ g := fun q => by
            subst q
            rw [HF2.out.2.2.2] at hh
            simp at hh
          rw [cell_of_row X kb j kcs 5 (0, 0) ((hX.2 kb (txt_lt hh) hg).trans hh)]
          exact hc j h
      obtain ⟨kb, HKB, hcut0⟩ := HKB
      have HCUT := Lib.hid hcut0
      clear hcut0 d0 d1 d2 d3 HF2 HF3 HF4 HF5 HB3 HB23 HB24 HROW2 HFAIL HS2 HFALL HTX HKCC HLD
      go_loopw [5, 38] (fun kv iv wi => ∃ k' j : Nat, k' ≤ wd ∧ iv = .int .i64 (k' : Int) ∧ Cut kb ks0.length j kv ∧ Along l p j k' ∧ Fl w0 t g (some ⟨tt, 0, none⟩) (some ⟨x, 0, none⟩) (Cls.cc (Cls.stands l)) (paths l).length wd (putRow (part l Q) i (mid l p k')) wi ∧ Km g x2 wi) (fun _ iv _ => wd - (intOf iv).toNat)
      case atStart => exact ⟨0, 0, by omega, rfl, HCUT.out, Along.start l p, HF6.out, HK5.out⟩
      case round =>
        obtain ⟨k', j, hk', rfl, hcut, hal, hfi, hki⟩ := hrel
        obtain ⟨A, cA, rfl, hcA, hA⟩ := hcut
        have HAL := Lib.hid hal
        have HFI := Lib.hid hfi
        have HKI := Lib.hid hki
        have hjm : j ≤ ks0.length := by have := HKS.out; subst this; exact HAL.out.1
        clear hal hfi hki
        by_cases hkw : k' < wd
        · have hkw2 : (k' : Int) < (wd : Int) := by omega
          by_cases hjl : j < ks0.length
          · have hz : (((ks0.length - j : Nat) : Int) == 0) = false := beq_eq_false_iff_ne.2 (by omega)
            obtain rfl := hA hjl
            have hkc := HKB.out wr HKI.out j hjl
            have hpz : 0 < ks0.length - j := by omega
            have hcl := HFI.out.2.2.1.at ks0[j]
            have hct := (ks0[j]).toNat_lt
            have hct2 : ((ks0[j]).toNat : Int) < 256 := by omega
            have hcz := hcl
            by_cases hce : Cls.cls (Cls.stands l) ks0[j] = k'
            · have hbq : ((Cls.cls (Cls.stands l) ks0[j] : Int) == (k' : Int)) = true := beq_iff_eq.2 (by omega)
              have HCE := Lib.hid hce
              clear hce
              clear hcz
              go_wp2
              go_quiet (fail)
              go_wp2
              clear hcl
              have hbd : Below wr.heap.size wr (wr.drewN nq).drew := below_drews (Below.refl _ _) (nq + 1)
              have HF7 := Lib.hid (HFI.out.keep hbd)
              have HK7 := Lib.hid (HKI.out.trans (Km.of_below (g := g) hbd))
              have e0 := HF7.out.2.2.1.cells.1
              have ek := HKB.out _ HK7.out j hjl
              clear hbd
              refine wp_region_held_drew (S := fun w' => w'.cell? ⟨t, 0, none⟩ = some (.pointer (some ⟨tt, 0, none⟩)) ∧ w'.cell? ⟨kb, j, none⟩ = some (.int .u8 (ks0[j].toNat : Int))) (by kernel_rfl) ⟨e0, ek⟩ (fun hH0 => ?_)
              generalize (wr.drewN nq).drew = w7 at *
              have hqp : p ++ [ks0[j]] ∈ paths l := by
                have e := HKS.out; subst e
                exact (mem_rkids (paths l) p _).1 (List.getElem_mem hjl)
              obtain ⟨m, hm, em, em2, _⟩ := place_mem hqp
              have HSTEP : Hid (Calls Tryz.prog 66 #[.pointer (some ⟨tt, 0, none⟩), .int .i64 (i : Int), .int .u8 (ks0[j].toNat : Int)] w7 fun e w' => e = .returned (.int .i64 (m : Int)) ∧ w7 = w') := Lib.hid (by
                have := step_any w7 st tt (paths l) l (HT.out _ HF7.out.1) (i : Int) (wf_nat (by omega) (by omega)) ks0[j]
                rwa [← HEI.out, step_eq HPM.out, em, HEI.out] at this)
              have HEM := Lib.hid em
              clear em em2 hqp
              refine held_take (i := 0) (d := 56) (oi := _) (v := ?_) rfl rfl (by kernel_rfl) (by kernel_rfl) (by kernel_rfl) (fun _ _ _ h => h) (Or.inl ⟨by rfl, ?_⟩) (by assumption) ?_
              rotate_left
              · (intro w hSw; skip; clear hSw; go_simp; (try with_reducible rfl))
              simp only [Act.put, List.setIfInBounds_toArray, List.set_cons_zero, List.set_cons_succ]
              refine held_take (i := 1) (d := 57) (oi := _) (v := ?_) rfl rfl (by kernel_rfl) (by kernel_rfl) (by kernel_rfl) (fun _ _ _ h => h) (Or.inl ⟨by rfl, ?_⟩) (by assumption) ?_
              rotate_left
              · (intro w hSw; skip; clear hSw; go_simp; (try with_reducible rfl))
              simp only [Act.put, List.setIfInBounds_toArray, List.set_cons_zero, List.set_cons_succ]
              refine held_take (i := 2) (d := 58) (oi := _) (v := ?_) rfl rfl (by kernel_rfl) (by kernel_rfl) (by kernel_rfl) (fun _ _ _ h => h) (Or.inl ⟨by rfl, ?_⟩) (by assumption) ?_
              rotate_left
              · (intro w hSw; skip; clear hSw; go_simp; (try with_reducible rfl))
              simp only [Act.put, List.setIfInBounds_toArray, List.set_cons_zero, List.set_cons_succ]
              refine held_take (i := 3) (d := 59) (oi := _) (v := ?_) rfl rfl (by kernel_rfl) (by kernel_rfl) (by kernel_rfl) (fun _ _ _ h => h) (Or.inl ⟨by rfl, ?_⟩) (by assumption) ?_
              rotate_left
              · (intro w hSw; skip; clear hSw; go_simp; (try with_reducible rfl))
              simp only [Act.put, List.setIfInBounds_toArray, List.set_cons_zero, List.set_cons_succ]
              refine held_take (i := 4) (d := 60) (oi := _) (v := ?_) rfl rfl (by kernel_rfl) (by kernel_rfl) (by kernel_rfl) (fun _ _ _ h => h) (Or.inl ⟨by rfl, ?_⟩) (by assumption) ?_
              rotate_left
              · (intro w hSw; skip; clear hSw; go_simp; (try with_reducible rfl))
              simp only [Act.put, List.setIfInBounds_toArray, List.set_cons_zero, List.set_cons_succ]
              refine held_take (i := 5) (d := 61) (oi := _) (v := ?_) rfl rfl (by kernel_rfl) (by kernel_rfl) (by kernel_rfl) (fun _ _ _ h => h) (Or.inl ⟨by rfl, ?_⟩) (by assumption) ?_
              rotate_left
              · (intro w hSw; have hld := hSw.1; clear hSw; go_simp; (try with_reducible rfl))
              simp only [Act.put, List.setIfInBounds_toArray, List.set_cons_zero, List.set_cons_succ]
              refine held_take (i := 6) (d := 62) (oi := _) (v := ?_) rfl rfl (by kernel_rfl) (by kernel_rfl) (by kernel_rfl) (fun _ _ _ h => h) (Or.inl ⟨by rfl, ?_⟩) (by assumption) ?_
              rotate_left
              · (intro w hSw; skip; clear hSw; go_simp; (try with_reducible rfl))
              simp only [Act.put, List.setIfInBounds_toArray, List.set_cons_zero, List.set_cons_succ]
              refine held_take (i := 7) (d := 63) (oi := _) (v := ?_) rfl rfl (by kernel_rfl) (by kernel_rfl) (by kernel_rfl) (fun _ _ _ h => h) (Or.inl ⟨by rfl, ?_⟩) (by assumption) ?_
              rotate_left
              · (intro w hSw; skip; clear hSw; go_simp; (try with_reducible rfl))
              simp only [Act.put, List.setIfInBounds_toArray, List.set_cons_zero, List.set_cons_succ]
              refine held_take (i := 8) (d := 64) (oi := _) (v := ?_) rfl rfl (by kernel_rfl) (by kernel_rfl) (by kernel_rfl) (fun _ _ _ h => h) (Or.inl ⟨by rfl, ?_⟩) (by assumption) ?_
              rotate_left
              · (intro w hSw; skip; clear hSw; go_simp; (try with_reducible rfl))
              simp only [Act.put, List.setIfInBounds_toArray, List.set_cons_zero, List.set_cons_succ]
              refine held_take (i := 9) (d := 65) (oi := _) (v := ?_) rfl rfl (by kernel_rfl) (by kernel_rfl) (by kernel_rfl) (fun _ _ _ h => h) (Or.inl ⟨by rfl, ?_⟩) (by assumption) ?_
              rotate_left
              · (intro w hSw; have hld := hSw.2; clear hSw; go_simp; (try with_reducible rfl))
              simp only [Act.put, List.setIfInBounds_toArray, List.set_cons_zero, List.set_cons_succ]
              refine wpAnyH_ready (rs := [10]) (by kernel_rfl) (by simp) ?_
              refine AllReadyH.cons rfl (fun K hK => ?_) AllReadyH.nil
              go_simp
              go_wp2_with (go_at_call 66; (with_reducible refine HSTEP.out.mono ?_); rintro e x' ⟨rfl, rfl⟩)
              refine hK.out _ _ hH0 (fun _ => ?_)
              clear hK K
              refine held_take (i := 11) (d := 67) (oi := _) (v := ?_) rfl rfl (by kernel_rfl) (by kernel_rfl) (by kernel_rfl) (fun _ _ _ h => h) (Or.inl ⟨by rfl, ?_⟩) (by assumption) ?_
              rotate_left
              · (intro w hSw; skip; clear hSw; go_simp; (try with_reducible rfl))
              simp only [Act.put, List.setIfInBounds_toArray, List.set_cons_zero, List.set_cons_succ]
              refine wpAnyH_ready (rs := [12]) (by kernel_rfl) (by simp) ?_
              refine AllReadyH.cons rfl (fun K hK => ?_) AllReadyH.nil
              have eg := HF7.out.cell hi hkw
              have ef := HF7.out.free (i * wd + k')
              have egl : g < w7.heap.size := txt_lt HF7.out.2.2.2
              have HF8 := Lib.hid (HF7.out.set hkw (m : Int))
              have HK8 := Lib.hid (HK7.out.trans (Km.set w7 g (i * wd + k') (.int .i64 (m : Int))))
              go_simp
              have hH8 : (w7.setCell ⟨g, i * wd + k', none⟩ (.int .i64 (m : Int))).cell? ⟨t, 0, none⟩ = some (.pointer (some ⟨tt, 0, none⟩)) ∧ (w7.setCell ⟨g, i * wd + k', none⟩ (.int .i64 (m : Int))).cell? ⟨kb, j, none⟩ = some (.int .u8 (ks0[j].toNat : Int)) := ⟨HF8.out.2.2.1.cells.1, HKB.out _ HK8.out j hjl⟩
              refine hK.out _ _ hH8 (fun _ => ?_)
              clear hK K hH8 hH0 eg ef egl e0 ek HF7 HK7
              refine wpAnyH_done (by kernel_rfl) ?_ _
              have HHIT : Hid (Along l p (j + 1) (k' + 1) ∧ (fun k'' => if k'' = k' then (m : Int) else mid l p k' k'') = mid l p (k' + 1)) := Lib.hid (by
                have e := HKS.out; subst e
                have h := HAL.out.hit hjl HCE.out
                rw [HEM.out] at h
                exact h)
              generalize w7.setCell ⟨g, i * wd + k', none⟩ (.int .i64 (m : Int)) = w8 at *
              obtain ⟨A8, hcut8, hA8⟩ := run_cut1 kb j (ks0.length - j) cA (by omega) hcA
              go_wp2
              refine ⟨⟨k' + 1, j + 1, by omega, by go_num, ⟨some A8, cA - 1, ?_, by omega, fun h => by rw [hA8 (by omega)]⟩, HHIT.out.1, ?_, HK8.out⟩, by simp [intOf]; omega⟩
              · rw [Nat.sub_sub]
              · rw [← HHIT.out.2]; exact HF8.out
            · have hbq : ((Cls.cls (Cls.stands l) ks0[j] : Int) == (k' : Int)) = false := beq_eq_false_iff_ne.2 (by omega)
              have HCE := Lib.hid hce
              clear hce hcz
              have HSK : Hid (Along l p j (k' + 1) ∧ mid l p k' = mid l p (k' + 1)) := Lib.hid (by
                have e := HKS.out; subst e
                exact HAL.out.skip hjl HCE.out)
              go_wp2
              go_quiet (fail)
              go_wp2
              have hbd : Below wr.heap.size wr (wr.drewN nq) := below_drews (Below.refl _ _) nq
              exact ⟨⟨k' + 1, j, by omega, by go_num, ⟨_, cA, rfl, hcA, fun _ => rfl⟩, HSK.out.1, by rw [← HSK.out.2]; exact HFI.out.keep hbd, HKI.out.trans (Km.of_below (g := g) hbd)⟩, by simp [intOf]; omega⟩
          · have hje : ks0.length - j = 0 := by omega
            have hz : (((ks0.length - j : Nat) : Int) == 0) = true := by rw [hje]; rfl
            have HDN : Hid (∀ k'', mid l p k' k'' = nxt l p k'') := Lib.hid (by
              have e := HKS.out; subst e
              exact HAL.out.done (by omega))
            have HF9 : Hid (Fl w0 t g (some ⟨tt, 0, none⟩) (some ⟨x, 0, none⟩) (Cls.cc (Cls.stands l)) (paths l).length wd (part l ((ord (paths l)).take (k + 1))) wr) := Lib.hid (by
              rw [HTK.out]
              exact HFI.out.congr (part_snoc HPI.out _ wd _ (Nat.le_refl _) fun k'' _ => HDN.out k''))
            have HO9 := Lib.hid (((Km.of_below (g := g) HK0.out).trans HKI.out).own HOK.out hgw)
            clear hje hA
            go_wp2
            exact ⟨⟨k + 1, by omega, by go_num, HF9.out, HO9.out⟩, by simp [intOf]; omega⟩
        · have hke : k' = wd := by omega
          have hkw2 : ¬ (k' : Int) < (wd : Int) := by omega
          have HF9 : Hid (Fl w0 t g (some ⟨tt, 0, none⟩) (some ⟨x, 0, none⟩) (Cls.cc (Cls.stands l)) (paths l).length wd (part l ((ord (paths l)).take (k + 1))) wr) := Lib.hid (by
            rw [HTK.out]
            exact HFI.out.congr (part_snoc HPI.out _ wd _ (Nat.le_refl _) fun k'' h => by rw [hke]; exact mid_full l p wd k'' h))
          have HO9 := Lib.hid (((Km.of_below (g := g) HK0.out).trans HKI.out).own HOK.out hgw)
          clear hke hA
          go_wp2
          exact ⟨⟨k + 1, by omega, by go_num, HF9.out, HO9.out⟩, by simp [intOf]; omega⟩
    · have hke : k = (ordN (paths l)).length := by omega
      have HQ : Hid (part l ((ord (paths l)).take k) = part l (ord (paths l))) := Lib.hid (by rw [List.take_of_length_le (by rw [ord_len HW.out]; omega)])
      have HF9 := Lib.hid hfl
      clear hke hfl
      have hlt2 : ¬ (k : Int) < ((ordN (paths l)).length : Int) := by omega
      go_wp2
      go_end0
      exact ⟨⟨_, rfl⟩, by rw [← HQ.out]; exact HF9.out⟩
end Go.Proofs.YtcbhjhhajeeimaaGreat.Dfa
/- The contract of New. -/
namespace Go.Proofs.YtcbhjhhajeeimaaGreat.Dfa
open Go.RowKit Go.Maps Go.Proofs.YtcbhjhhajeeimaaGreat.Tri Go.Proofs.YtcbhjhhajeeimaaGreat.Lnk Go.Proofs.YtcbhjhhajeeimaaGreat.Reg
set_option maxRecDepth 100000

theorem exec_build {P : Program} {o : Oper} {a : Act} {ty : TypeId} {parts : Array (Nat × Operand)} (ho : o.op = .build ty parts) {cells : Array Value} (h : P.built ty (parts.map fun (i, x) => (i, a.eval x)).toList = some cells) (w : World) :
    (execOp a.eval o).run P w = .ok (.value (.agg cells)) w := by
  unfold execOp
  simp only [ho, Sem.run_bind, run_build w ty _ cells h, Result.andThen_ok]
  rfl
theorem exec_build4 {P : Program} {o : Oper} {a : Act} {ty : TypeId} (x0 x1 x2 x3 : Operand) (ho : o.op = .build ty #[(0, x0), (1, x1), (2, x2), (3, x3)]) {v0 v1 v2 v3 : Value} (h0 : a.eval x0 = v0) (h1 : a.eval x1 = v1) (h2 : a.eval x2 = v2) (h3 : a.eval x3 = v3) {cells : Array Value} (h : P.built ty [(0, v0), (1, v1), (2, v2), (3, v3)] = some cells) (w : World) :
    (execOp a.eval o).run P w = .ok (.value (.agg cells)) w :=
  exec_build ho (by simpa [h0, h1, h2, h3] using h) w
theorem made_ints (n : Nat) : (madeCells (Value.int .i64 0).cells (n * 1)) = Cls.icells (List.replicate n 0) := by
  apply Array.ext_getElem?
  intro j
  by_cases hj : j < n
  · simp only [madeCells, Cls.icells, Cls.ivals, List.map_replicate, List.toArray_replicate, Array.getElem?_map, Array.getElem?_replicate, if_pos hj]
    rw [Array.getElem?_range]
    have : j % 1 = 0 := Nat.mod_one j
    simp [Value.cells, hj, this]
  · simp [madeCells, Cls.icells, Cls.ivals, hj]
theorem wp_make_ints {w : World} {o : Oper} {a : Act} {K : Act → World → Prop} {Q : Exit → Act → World → Prop} (l c : Operand) (hop : o.op = .makeSlice 111 l c) (n : Nat) (hl : a.eval l = .int .i64 (n : Int)) (hc : a.eval c = .int .i64 (n : Int)) (hn : n ≤ 1000000)
    (hK : ∀ w', w'.heap[w.heap.size]? = some (.cells (Cls.icells (List.replicate n 0)) 3 (0, 0)) → Below w.heap.size w w' → K (a.put o.dst (.slice (some ⟨w.heap.size, 0, none⟩) n n)) w') : o.wp Tryz.prog a w K Q := by
  obtain ⟨i0, hi, hz0, hz1, hz2⟩ := info_parts info3
  obtain ⟨w', hrun, r1, r2⟩ := run_make_full (P := Tryz.prog) w w.heap.size 111 3 i0 (.int .i64 0) 1 und71 hi hz0 hz1 .i64 .i64 n (by rw [hz2]; omega) (by unfold maxLen; omega) (Nat.le_refl _)
  have hg : w'.heap[w.heap.size]? = some (.cells (Cls.icells (List.replicate n 0)) 3 (0, 0)) := by
    rcases r1.2 with ⟨e, _⟩ | ⟨g, cap, cur, e, _, hh, _, _, hs, ht⟩
    · cases e
    · injection e with e1 e2 e3
      have eg : w.heap.size = g := by simpa using e1
      subst eg
      subst e3
      rw [hh]
      have : cur = Cls.icells (List.replicate n 0) := by
        rw [← made_ints]
        apply Array.toList_inj.1
        rw [← ht]
        exact (List.take_of_length_le (by rw [Array.length_toList, hs]; exact Nat.le_refl _)).symm
      rw [this]
  unfold Oper.wp
  simp [execOp, hop, hl, hc, hrun, Result.andThen]
  exact hK _ hg ((Below.refl _ w).grown r2 (Nat.le_refl _) (fun k hk => by cases hk))
/-- The error of too many states. -/
def GivesNone (w : World) (e : Ending) (w' : World) : Prop := e = .returned (.tuple #[.pointer none, .int .i64 14]) ∧ Below w.heap.size w w'
set_option maxHeartbeats 4000000 in
theorem dnew_over (w : World) (xs : List TxV) (a : Option Addr) (cap : Nat) (hts : Ts w a xs) (hl : xs.length ≤ 1000000) (hz : tot (xs.map TxV.text) ≤ 100000000) (hn : 160 < (paths (xs.map TxV.text)).length) :
    Calls Tryz.prog 35 #[.slice a xs.length cap] w (GivesNone w) := by
  have HB := Lib.hid (build_any w xs a cap hts hl hz)
  clear hts
  generalize xs.map TxV.text = l at *
  have hn2 : (160 : Int) < ((paths l).length : Int) := by omega
  go_enter Tryz.func35, Tryz.ntmps35
  go_wp2_with (first
   | (go_at_call 44; (with_reducible refine HB.out.mono ?_); rintro e w1 ⟨tt, rfl, htr, hb1⟩; have HT1 := Lib.hid htr; have HB1 := Lib.hid hb1; have HN := Lib.hid (nodes_any w1 _ tt _ l htr); clear htr hb1)
   | (go_at_call 47; (with_reducible refine HN.out.mono ?_); rintro e w0 ⟨rfl, rfl⟩))
  refine bodyPost_ret (v := .tuple #[.pointer none, .int .i64 14]) (by simp [results, Tryz.results35, go_sem]) rfl ?_
  exact ⟨rfl, HB1.out⟩
/-- A table of texts in memory. -/
def Dt (w : World) (s t : Nat) (l : List Tx) : Prop :=
  ∃ st tt sx x g, Tr w st tt (paths l) l ∧ Li w sx x (paths l) l ∧ s ≤ t ∧ (paths l).length ≤ 160 ∧ (∀ p ∈ paths l, p.length ≤ 1000000) ∧ Bd w t (some ⟨tt, 0, none⟩) (some ⟨x, 0, none⟩) (Cls.cc (Cls.stands l)) ((Cls.cnt (Cls.stands l) + 1 : Nat) : Int) (.slice (some ⟨g, 0, none⟩) ((paths l).length * (Cls.cnt (Cls.stands l) + 1)) ((paths l).length * (Cls.cnt (Cls.stands l) + 1))) ∧
    w.heap[g]? = some (.cells (Cls.icells (whole l (paths l).length (Cls.cnt (Cls.stands l) + 1))) 3 (0, 0))
theorem Dt.keep {w w' : World} {s t : Nat} {l : List Tx} (h : Dt w s t l) (hb : Below w.heap.size w w') : Dt w' s t l := by
  obtain ⟨st, tt, sx, x, g, h1, h2, h3, h4, h0, h5, h6⟩ := h
  exact ⟨st, tt, sx, x, g, h1.keep hb, h2.keep hb, h3, h4, h0, h5.keep hb, (hb.block g (txt_lt h6)).trans h6⟩
def GivesDt (w : World) (l : List Tx) (e : Ending) (w' : World) : Prop := ∃ t, e = .returned (.tuple #[.pointer (some ⟨t, 0, none⟩), .int .i64 0]) ∧ Dt w' w.heap.size t l ∧ Below w.heap.size w w'
set_option maxHeartbeats 8000000 in
theorem dnew_any (w : World) (xs : List TxV) (a : Option Addr) (cap : Nat) (hts : Ts w a xs) (hl : xs.length ≤ 1000000) (hz : tot (xs.map TxV.text) ≤ 100000000) (hm : ∀ x ∈ xs, x.text.length ≤ 1000000) (hn : (paths (xs.map TxV.text)).length ≤ 160) :
    Calls Tryz.prog 35 #[.slice a xs.length cap] w (GivesDt w (xs.map TxV.text)) := by
  have HB := Lib.hid (build_any w xs a cap hts hl hz)
  have HOF : Hid (∀ X, Below w.heap.size w X → Calls Tryz.prog 48 #[.slice a xs.length cap] X fun e w' => e = .returned (.agg (Cls.cc (Cls.stands (xs.map TxV.text)))) ∧ Below X.heap.size X w') := Lib.hid fun X hX => Cls.of_any9 xs a cap X (hts.keep hX) (by omega) (fun x h => Nat.le_trans (hm x h) (by omega))
  have HDEEP : Hid (∀ p ∈ paths (xs.map TxV.text), p.length ≤ 1000000) := Lib.hid fun p hp => by
    rcases (paths_mem _ p).1 hp with rfl | ⟨x, hx, r, e⟩
    · simp
    · obtain ⟨y, hy, rfl⟩ := List.mem_map.1 hx
      have := hm y hy
      rw [← e, List.length_append] at this
      omega
  clear hts hm
  generalize xs.map TxV.text = l at *
  have hn2 : ¬ (160 : Int) < ((paths l).length : Int) := by omega
  have hz60 := Cls.zero29
  have HZ := Lib.hid (Cls.cc_size (fun _ => false))
  have HCS := Lib.hid (Cls.cc_size (Cls.stands l))
  have HCO := Lib.hid (Cls.cc_one (Cls.stands l))
  have HTAB := Lib.hid (Cls.table_any (Cls.stands l))
  have HLEN := Lib.hid (Cls.len_any (Cls.stands l))
  generalize Cls.cc (fun _ => false) = z at *
  generalize hcs : Cls.cc (Cls.stands l) = cs at *
  have HEC := Lib.hid hcs
  clear hcs
  go_enter Tryz.func35, Tryz.ntmps35
  go_wp2_with (first
   | (go_at_call 44; (with_reducible refine HB.out.mono ?_); rintro e w1 ⟨tt, rfl, htr, hb1⟩; have HT1 := Lib.hid htr; have HB1 := Lib.hid hb1; have HN := Lib.hid (nodes_any w1 _ tt _ l htr); clear htr hb1)
   | (go_at_call 47; (with_reducible refine HN.out.mono ?_); rintro e w0 ⟨rfl, rfl⟩)
   | (go_at_call 48; (with_reducible refine (HOF.out _ HB1.out).mono ?_); rintro e w2 ⟨rfl, hb2⟩; have HB2 := Lib.hid hb2; clear hb2; have HG := Lib.hid (heap_alloc_new w2 (.cells z 108)))
   | (with_reducible refine wpList_store_row rfl 108 (.tmp 5) (.tmp 13) rfl w2.heap.size cs rfl rfl 108 z HG.out (by rw [HCS.out]; exact Cls.size29) (by rw [HCS.out, HZ.out]) HCO.out ?_))
  have es : (w2.alloc (.cells z 108)).setRow w2.heap.size cs = w2.alloc (.cells cs 108) := World.setRow_alloc_new _ _ _ _
  rw [es]
  have HL3 : Hid ((w2.alloc (.cells cs 108)).heap[w2.heap.size]? = some (.cells cs 108 (0, 0))) := Lib.hid (heap_alloc_new w2 _)
  have HB3 : Hid (Below w1.heap.size w1 (w2.alloc (.cells cs 108))) := Lib.hid (HB2.out.alloc HB2.out.size _)
  clear es HG
  generalize hg3 : w2.heap.size = g3 at *
  clear hg3
  generalize w2.alloc (.cells cs 108) = w3 at *
  have HBW : Hid (Below w3.heap.size w3 w3) := Lib.hid (Below.refl _ _)
  have HR : Hid (∀ X, Below w3.heap.size w3 X → (loadVar 108 ⟨g3, 0, none⟩).run Tryz.prog X = .ok (.agg cs) X) := Lib.hid fun X hX => Cls.load29 HCS.out HL3.out hX
  have HLB : Hid (∀ X, Below w3.heap.size w3 X → Calls Tryz.prog 45 #[.pointer (some ⟨tt, 0, none⟩)] X (GivesLi X (paths l) l)) := Lib.hid fun X hX => lbuild_any X w.heap.size tt (paths l) l ((HT1.out.keep HB3.out).keep hX) (by omega)
  have HTB : Hid (∀ X, Below w3.heap.size w3 X → Calls Tryz.prog 49 #[.agg cs] X fun e w' => e = .returned (.agg cs) ∧ Below X.heap.size X w') := Lib.hid fun X _ => HTAB.out X
  have HLN : Hid (∀ X, Below w3.heap.size w3 X → Calls Tryz.prog 50 #[.agg cs] X fun e w' => e = .returned (.int .i64 ((Cls.cnt (Cls.stands l) : Int) + 1)) ∧ Below X.heap.size X w') := Lib.hid fun X _ => HLEN.out X
  clear HB HTAB HLEN HN HB2
  go_wp2
  refine wp_region_held_drew (S := fun w' => Below w3.drew.heap.size w3.drew w') (by kernel_rfl) (Below.refl _ _) (fun hH0 => ?_)
  have B0 := Lib.hid (below_drews HBW.out 1)
  change Hid (Below _ _ w3.drew) at B0
  generalize w3.drew = x0 at *
  refine held_take (i := 0) (d := 14) (oi := _) (v := ?_) rfl rfl (by kernel_rfl) (by kernel_rfl) (by kernel_rfl) (fun _ _ _ h => h) (Or.inl ⟨by rfl, ?_⟩) (by assumption) ?_
  rotate_left
  · (intro w hSw; clear hSw; go_simp; (try with_reducible rfl))
  simp only [Act.put, List.setIfInBounds_toArray, List.set_cons_zero, List.set_cons_succ]
  refine held_take (i := 1) (d := 15) (oi := _) (v := ?_) rfl rfl (by kernel_rfl) (by kernel_rfl) (by kernel_rfl) (fun _ _ _ h => h) (Or.inl ⟨by rfl, ?_⟩) (by assumption) ?_
  rotate_left
  · (intro w hSw; clear hSw; go_simp; (try with_reducible rfl))
  simp only [Act.put, List.setIfInBounds_toArray, List.set_cons_zero, List.set_cons_succ]
  refine held_take (i := 3) (d := 17) (oi := _) (v := _) rfl rfl (by kernel_rfl) (by kernel_rfl) (by kernel_rfl) (fun _ _ _ h => h) (Or.inl ⟨by rfl, fun w hSw => Cls.exec_load rfl rfl (HR.out w (B0.out.trans (hSw.mono B0.out.size)))⟩) (by assumption) ?_
  simp only [Act.put, List.setIfInBounds_toArray, List.set_cons_zero, List.set_cons_succ]
  refine held_take (i := 5) (d := 19) (oi := _) (v := _) rfl rfl (by kernel_rfl) (by kernel_rfl) (by kernel_rfl) (fun _ _ _ h => h) (Or.inl ⟨by rfl, fun w hSw => Cls.exec_load rfl rfl (HR.out w (B0.out.trans (hSw.mono B0.out.size)))⟩) (by assumption) ?_
  simp only [Act.put, List.setIfInBounds_toArray, List.set_cons_zero, List.set_cons_succ]
  refine wpAnyH_ready (rs := [2]) (by kernel_rfl) (by simp) ?_
  refine AllReadyH.cons rfl (fun K hK => ?_) AllReadyH.nil
  go_simp
  go_wp2_with (go_at_call 45; (with_reducible refine (HLB.out _ B0.out).mono ?_); rintro e x1 ⟨x, rfl, hlx, hb⟩)
  refine hK.out _ _ hb (fun _ => ?_)
  have B1 := Lib.hid (B0.out.trans (hb.mono B0.out.size))
  refine wpAnyH_more (S' := fun w' => Below x1.heap.size x1 w') (fun w' h => hb.trans (h.mono hb.size)) _ _ _ _ ?_
  have hH1 : Below x1.heap.size x1 x1 := Below.refl _ _
  clear hK K hH0 hb B0
  have HLX := Lib.hid hlx
  clear hlx
  refine wpAnyH_ready (rs := [4]) (by kernel_rfl) (by simp) ?_
  refine AllReadyH.cons rfl (fun K hK => ?_) AllReadyH.nil
  go_simp
  go_wp2_with (go_at_call 49; (with_reducible refine (HTB.out _ B1.out).mono ?_); rintro e x2 ⟨rfl, hb⟩)
  have HLX2 := Lib.hid (HLX.out.keep hb)
  refine hK.out _ _ hb (fun _ => ?_)
  have B2 := Lib.hid (B1.out.trans (hb.mono B1.out.size))
  refine wpAnyH_more (S' := fun w' => Below x2.heap.size x2 w') (fun w' h => hb.trans (h.mono hb.size)) _ _ _ _ ?_
  have hH2 : Below x2.heap.size x2 x2 := Below.refl _ _
  clear hK K hH1 hb B1
  refine wpAnyH_ready (rs := [6]) (by kernel_rfl) (by simp) ?_
  refine AllReadyH.cons rfl (fun K hK => ?_) AllReadyH.nil
  go_simp
  go_wp2_with (go_at_call 50; (with_reducible refine (HLN.out _ B2.out).mono ?_); rintro e x3 ⟨rfl, hb⟩)
  have HLX3 := Lib.hid (HLX2.out.keep hb)
  refine hK.out _ _ hb (fun _ => ?_)
  have B3 := Lib.hid (B2.out.trans (hb.mono B2.out.size))
  refine wpAnyH_more (S' := fun w' => Below x3.heap.size x3 w') (fun w' h => hb.trans (h.mono hb.size)) _ _ _ _ ?_
  have hH3 : Below x3.heap.size x3 x3 := Below.refl _ _
  clear hK K hH2 hb B2
  obtain ⟨cells, hbuilt, hcells⟩ := built73 (some ⟨tt, 0, none⟩) (some ⟨x, 0, none⟩) cs ((Cls.cnt (Cls.stands l) : Int) + 1) HCS.out
  have HCL := Lib.hid hcells
  refine held_take (i := 7) (d := 21) (oi := _) (v := .agg cells) rfl rfl (by kernel_rfl) (by kernel_rfl) (by kernel_rfl) (fun _ _ _ h => h) (Or.inl ⟨by rfl, fun w _ => exec_build4 (.tmp 14) (.tmp 16) (.tmp 18) (.tmp 20) rfl rfl rfl rfl rfl hbuilt w⟩) (by assumption) ?_
  simp only [Act.put, List.setIfInBounds_toArray, List.set_cons_zero, List.set_cons_succ]
  clear hbuilt hcells
  refine wpAnyH_ready (rs := [8]) (by kernel_rfl) (by simp) ?_
  refine AllReadyH.cons rfl (fun K hK => ?_) AllReadyH.nil
  go_simp
  have hb8 : Below x3.heap.size x3 (x3.alloc (.cells cells 113)) := (Below.refl _ _).alloc (Nat.le_refl _) _
  refine hK.out _ _ hb8 (fun _ => ?_)
  clear hK K
  refine held_take (i := 9) (d := 6) (oi := _) (v := ?_) rfl rfl (by kernel_rfl) (by kernel_rfl) (by kernel_rfl) (fun _ _ _ h => h) (Or.inl ⟨by rfl, ?_⟩) (by assumption) ?_
  rotate_left
  · (intro w hSw; clear hSw; go_simp; (try with_reducible rfl))
  simp only [Act.put, List.setIfInBounds_toArray, List.set_cons_zero, List.set_cons_succ]
  refine wpAnyH_done (by kernel_rfl) ?_ _
  have hbd : Below x3.heap.size x3 (x3.alloc (.cells cells 113)).drew := below_drews hb8 1
  have hBd : Bd (x3.alloc (.cells cells 113)).drew x3.heap.size (some ⟨tt, 0, none⟩) (some ⟨x, 0, none⟩) cs ((Cls.cnt (Cls.stands l) : Int) + 1) (.slice none 0 0) := ⟨cells, heap_alloc_new x3 _, HCL.out⟩
  have HT3 := Lib.hid ((HT1.out.keep HB3.out).keep B3.out)
  have HBB : Hid (Below w.heap.size w x3) := Lib.hid (HB1.out.trans ((HB3.out.trans (B3.out.mono HB3.out.size)).mono HB1.out.size))
  obtain ⟨wd, hwd⟩ : ∃ wd, wd = Cls.cnt (Cls.stands l) + 1 := ⟨_, rfl⟩
  have ewd : (Cls.cnt (Cls.stands l) : Int) + 1 = (wd : Int) := by omega
  rw [ewd] at hBd
  have hwl : wd ≤ 257 := by have := Cls.cnt_le (Cls.stands l); omega
  have hww := Nat.mul_le_mul hn hwl
  obtain ⟨q0, q1, q2, q3⟩ := hBd.cells
  have HBD := Lib.hid hBd
  have HBE := Lib.hid hbd
  have HWD := Lib.hid hwd
  have htl := hBd.lt
  have hfz := hBd.free 259
  clear hb8 hH3 B3 HLX HLX2 HB1 HB3 HR HLB HTB HLN HBW HL3 hbd hBd hwd ewd HT1 HCL HOF
  go_wp2
  refine wp_region_held_drew (S := fun w' => w'.cell? ⟨x3.heap.size, 258, none⟩ = some (.int .i64 (wd : Int))) (by kernel_rfl) q2 (fun hH0 => ?_)
  generalize (x3.alloc (.cells cells 113)).drew = w6 at *
  have HST : Hid (Calls Tryz.prog 51 #[.pointer (some ⟨x3.heap.size, 0, none⟩)] w6 fun e w' => e = .returned (.int .i64 ((paths l).length : Int)) ∧ w6 = w') := Lib.hid (states_any w6 _ tt (paths l) l _ (HT3.out.keep HBE.out) q0)
  have emul : IntKind.i64.wrap (((paths l).length : Int) * (wd : Int)) = (((paths l).length * wd : Nat) : Int) := mul_wrap (by omega)
  refine held_take (i := 0) (d := 23) (oi := _) (v := ?_) rfl rfl (by kernel_rfl) (by kernel_rfl) (by kernel_rfl) (fun _ _ _ h => h) (Or.inl ⟨by rfl, ?_⟩) (by assumption) ?_
  rotate_left
  · (intro w hSw; skip; clear hSw; go_simp; (try with_reducible rfl))
  simp only [Act.put, List.setIfInBounds_toArray, List.set_cons_zero, List.set_cons_succ]
  refine held_take (i := 1) (d := 24) (oi := _) (v := ?_) rfl rfl (by kernel_rfl) (by kernel_rfl) (by kernel_rfl) (fun _ _ _ h => h) (Or.inl ⟨by rfl, ?_⟩) (by assumption) ?_
  rotate_left
  · (intro w hSw; skip; clear hSw; go_simp; (try with_reducible rfl))
  simp only [Act.put, List.setIfInBounds_toArray, List.set_cons_zero, List.set_cons_succ]
  refine held_take (i := 3) (d := 26) (oi := _) (v := ?_) rfl rfl (by kernel_rfl) (by kernel_rfl) (by kernel_rfl) (fun _ _ _ h => h) (Or.inl ⟨by rfl, ?_⟩) (by assumption) ?_
  rotate_left
  · (intro w hSw; skip; clear hSw; go_simp; (try with_reducible rfl))
  simp only [Act.put, List.setIfInBounds_toArray, List.set_cons_zero, List.set_cons_succ]
  refine held_take (i := 4) (d := 27) (oi := _) (v := ?_) rfl rfl (by kernel_rfl) (by kernel_rfl) (by kernel_rfl) (fun _ _ _ h => h) (Or.inl ⟨by rfl, ?_⟩) (by assumption) ?_
  rotate_left
  · (intro w hSw; skip; clear hSw; go_simp; (try with_reducible rfl))
  simp only [Act.put, List.setIfInBounds_toArray, List.set_cons_zero, List.set_cons_succ]
  refine held_take (i := 5) (d := 28) (oi := _) (v := ?_) rfl rfl (by kernel_rfl) (by kernel_rfl) (by kernel_rfl) (fun _ _ _ h => h) (Or.inl ⟨by rfl, ?_⟩) (by assumption) ?_
  rotate_left
  · (intro w hSw; skip; clear hSw; go_simp; (try with_reducible rfl))
  simp only [Act.put, List.setIfInBounds_toArray, List.set_cons_zero, List.set_cons_succ]
  refine held_take (i := 6) (d := 29) (oi := _) (v := ?_) rfl rfl (by kernel_rfl) (by kernel_rfl) (by kernel_rfl) (fun _ _ _ h => h) (Or.inl ⟨by rfl, ?_⟩) (by assumption) ?_
  rotate_left
  · (intro w hSw; have hld := hSw; clear hSw; go_simp; (try with_reducible rfl))
  simp only [Act.put, List.setIfInBounds_toArray, List.set_cons_zero, List.set_cons_succ]
  refine wpAnyH_ready (rs := [2]) (by kernel_rfl) (by simp) ?_
  refine AllReadyH.cons rfl (fun K hK => ?_) AllReadyH.nil
  go_simp
  go_wp2_with (go_at_call 51; (with_reducible refine HST.out.mono ?_); rintro e x' ⟨rfl, rfl⟩)
  refine hK.out _ _ hH0 (fun _ => ?_)
  clear hK K
  refine held_take (i := 7) (d := 30) (oi := _) (v := ?_) rfl rfl (by kernel_rfl) (by kernel_rfl) (by kernel_rfl) (fun _ _ _ h => h) (Or.inl ⟨by rfl, ?_⟩) (by assumption) ?_
  rotate_left
  · (intro w hSw; skip; clear hSw; go_simp; (try with_reducible rfl))
  simp only [Act.put, List.setIfInBounds_toArray, List.set_cons_zero, List.set_cons_succ]
  refine wpAnyH_ready (rs := [8]) (by kernel_rfl) (by simp) ?_
  refine AllReadyH.cons rfl (fun K hK => ?_) AllReadyH.nil
  rw [if_pos (by rfl)]
  refine wp_make_ints (.tmp 30) (.tmp 30) rfl ((paths l).length * wd) (by rw [Int.natCast_mul]; rfl) (by rw [Int.natCast_mul]; rfl) (by omega) ?_
  intro w8 hg8 hb8
  have hBd8 := HBD.out.keep hb8
  have HG8 := Lib.hid hg8
  have HB8 := Lib.hid hb8
  have hne8 : x3.heap.size ≠ w6.heap.size := by omega
  obtain ⟨p0, p1, p2, p3⟩ := hBd8.cells
  have pf := hBd8.free 259
  have ptl := hBd8.lt
  have HBD8 := Lib.hid hBd8
  refine hK.out _ _ p2 (fun _ => ?_)
  clear hK K hg8 hb8 hBd8 q0 q1 q2 q3 hfz
  simp only [Act.put, List.setIfInBounds_toArray]
  refine held_take (i := 9) (d := 32) (oi := _) (v := ?_) rfl rfl (by kernel_rfl) (by kernel_rfl) (by kernel_rfl) (fun _ _ _ h => h) (Or.inl ⟨by rfl, ?_⟩) (by assumption) ?_
  rotate_left
  · (intro w hSw; skip; clear hSw; go_simp; (try with_reducible rfl))
  simp only [Act.put]
  refine held_take (i := 10) (d := 33) (oi := _) (v := ?_) rfl rfl (by kernel_rfl) (by kernel_rfl) (by kernel_rfl) (fun _ _ _ h => h) (Or.inl ⟨by rfl, ?_⟩) (by assumption) ?_
  rotate_left
  · (intro w hSw; skip; clear hSw; go_simp; (try with_reducible rfl))
  simp only [Act.put]
  refine wpAnyH_ready (rs := [11]) (by kernel_rfl) (by simp) ?_
  refine AllReadyH.cons rfl (fun K hK => ?_) AllReadyH.nil
  go_simp
  have hBd9 := HBD8.out.put (.slice (some ⟨w6.heap.size, 0, none⟩) ((paths l).length * wd) ((paths l).length * wd))
  refine hK.out _ _ hBd9.cells.2.2.1 (fun _ => ?_)
  clear hK K
  refine wpAnyH_done (by kernel_rfl) ?_ _
  have hb06 := HBE.out.trans (HB8.out.mono HBE.out.size)
  have HF9 : Hid (Fl x3 x3.heap.size w6.heap.size (some ⟨tt, 0, none⟩) (some ⟨x, 0, none⟩) cs (paths l).length wd (part l []) (w8.setCell ⟨x3.heap.size, 259, none⟩ (.slice (some ⟨w6.heap.size, 0, none⟩) ((paths l).length * wd) ((paths l).length * wd)))) := Lib.hid (by
    refine ⟨hb06.setCell (p := ⟨x3.heap.size, 259, none⟩) (Nat.le_refl _) _, HBE.out.size, hBd9, ?_⟩
    rw [part_nil]
    exact (Below.heap_setCell w8 ⟨x3.heap.size, 259, none⟩ _ w6.heap.size (fun e => hne8 e.symm)).trans HG8.out)
  have HFILL := Lib.hid (dfill_any x3 _ w.heap.size tt _ x x3.heap.size w6.heap.size l wd HWD.out hn HT3.out HLX3.out (by rw [HEC.out]; exact HF9.out))
  have htg : w.heap.size ≤ x3.heap.size := HBB.out.size
  clear p0 p1 p2 p3 pf ptl hBd9 hb06 HBD HBD8 HG8 HB8 HBE HST hH0
  generalize w8.setCell ⟨x3.heap.size, 259, none⟩ (.slice (some ⟨w6.heap.size, 0, none⟩) ((paths l).length * wd) ((paths l).length * wd)) = w9 at *
  go_wp2_with (go_at_call 52; (with_reducible refine HFILL.out.mono ?_); rintro e w10 ⟨⟨v, rfl⟩, hf10⟩; have HF10 := Lib.hid hf10; clear hf10)
  refine bodyPost_ret (v := .tuple #[.pointer (some ⟨x3.heap.size, 0, none⟩), .int .i64 0]) (by simp [results, Tryz.results35, go_sem]) rfl ?_
  have hf := HF10.out
  have e1 := HWD.out
  rw [e1] at hf
  refine ⟨_, rfl, ⟨w.heap.size, tt, _, x, w6.heap.size, HT3.out.keep hf.1, HLX3.out.keep hf.1, htg, hn, HDEEP.out, hf.2.2.1, ?_⟩, HBB.out.trans (hf.1.mono htg)⟩
  rw [← part_all]
  exact hf.2.2.2
end Go.Proofs.YtcbhjhhajeeimaaGreat.Dfa
/- The contracts of a table's States, Width, Path and Next; what a meter leaves of it. -/
namespace Go.Proofs.YtcbhjhhajeeimaaGreat.Dfa
open Go.RowKit Go.Maps Go.Proofs.YtcbhjhhajeeimaaGreat.Tri Go.Proofs.YtcbhjhhajeeimaaGreat.Lnk Go.Proofs.YtcbhjhhajeeimaaGreat.Reg
set_option maxRecDepth 100000

theorem Dt.lt {w : World} {s t : Nat} {l : List Tx} (h : Dt w s t l) : t < w.heap.size := by
  obtain ⟨st, tt, sx, x, g, h1, h2, h3, h4, h0, h5, h6⟩ := h
  exact h5.lt
theorem Dt.adds {w w' : World} {s t : Nat} {l : List Tx} {q : Option Addr} {a b c d : Int} (h : Dt w s t l) (hg : w.grownBy w' (Met.blk q)) (hM : Met.Mt w q a b c d) : Dt w' s t l := by
  obtain ⟨st, tt, sx, x, g, h1, h2, h3, h4, h0, ⟨cells, h5, h7⟩, h6⟩ := h
  exact ⟨st, tt, sx, x, g, Spa.tr_adds h1 hg hM, Spa.li_adds h2 hg hM, h3, h4, h0, ⟨cells, (hg.block t (txt_lt h5) (hM.not h5 (by decide))).trans h5, h7⟩, (hg.block g (txt_lt h6) (hM.not h6 (by decide))).trans h6⟩
theorem dstates_at (w : World) (s t : Nat) (l : List Tx) (h : Dt w s t l) : Calls Tryz.prog 51 #[.pointer (some ⟨t, 0, none⟩)] w fun e w' => e = .returned (.int .i64 ((paths l).length : Int)) ∧ w = w' := by
  obtain ⟨st, tt, sx, x, g, h1, h2, h3, h4, h0, h5, h6⟩ := h
  exact states_any w t tt (paths l) l st h1 h5.cells.1
theorem whole_at (l : List Tx) {i : Nat} (hi : i < (paths l).length) (c : UInt8) : (whole l (paths l).length (Cls.cnt (Cls.stands l) + 1))[i * (Cls.cnt (Cls.stands l) + 1) + Cls.cls (Cls.stands l) c]? = some (nextOf (paths l) (i : Int) c) := by
  have hk : Cls.cls (Cls.stands l) c < Cls.cnt (Cls.stands l) + 1 := by have := Cls.cls_le (Cls.stands l) c; omega
  have e := tabF_at (fun i k => match (paths l)[i]? with | some p => nxt l p k | none => 0) hi hk
  have e2 := List.getElem?_eq_getElem hi
  refine e.trans ?_
  simp only [e2]
  rw [nxt_byte, next_at hi]
end Go.Proofs.YtcbhjhhajeeimaaGreat.Dfa
/- Scan. -/
namespace Go.Proofs.YtcbhjhhajeeimaaGreat.Dfa
open Go.RowKit Go.Maps Go.Proofs.YtcbhjhhajeeimaaGreat.Tri Go.Proofs.YtcbhjhhajeeimaaGreat.Lnk Go.Proofs.YtcbhjhhajeeimaaGreat.Reg Go.Proofs.YtcbhjhhajeeimaaGreat.Prs
set_option maxRecDepth 100000
/-- A handle on a table keeps. -/
theorem td_far {w w' : World} {r : Option Nat} {t : Nat} {p : Option Addr} {cl nx : List Int} {wd : Int} (h : Met.Td w t p cl wd nx) (hg : w.grownBy w' r) (hr : ∀ g, r = some g → ∃ cs fr, w.heap[g]? = some (.cells cs 57 fr)) : Met.Td w' t p cl wd nx := by
  obtain ⟨g1, g2, g3, a, cap, h1, h2, h3, h4, h5⟩ := h
  refine ⟨g1, g2, g3, a, cap, h1.same (hg.block t h1.lt (Spa.ne52 hr h1 (by decide))), (hg.block g1 (txt_lt h2) (Spa.ne52 hr h2 (by decide))).trans h2, (hg.block g2 (txt_lt h3) (Spa.ne52 hr h3 (by decide))).trans h3, (hg.block g3 (txt_lt h4) (Spa.ne52 hr h4 (by decide))).trans h4, fun h0 => ?_⟩
  obtain ⟨b, cs, e, hh, hc⟩ := h5 h0
  exact ⟨b, cs, e, (hg.block b (txt_lt hh) (Spa.ne52 hr hh (by decide))).trans hh, hc⟩
/-- Two handles of one meter, and what it has counted. -/
def Sn (w : World) (p : Option Addr) (cl : List Int) (wd : Int) (nx : List Int) (line : Tx) (s1 tx tb : Nat) (a b e d : Int) (wr : World) : Prop :=
  Met.Tx wr s1 tx p line ∧ Met.Td wr tb p cl wd nx ∧ Met.Mt wr p a b e d ∧ w.grownBy wr (Met.blk p)
theorem Sn.keep {w wr w' : World} {p : Option Addr} {cl nx : List Int} {wd : Int} {line : Tx} {s1 tx tb : Nat} {a b e d : Int} (h : Sn w p cl wd nx line s1 tx tb a b e d wr) (hb : Below wr.heap.size wr w') : Sn w p cl wd nx line s1 tx tb a b e d w' :=
  ⟨h.1.keep hb, h.2.1.keep hb, h.2.2.1.keep hb, h.2.2.2.trans ((grown_of_below hb).but _)⟩
theorem Sn.adds {w wr w' : World} {p : Option Addr} {cl nx : List Int} {wd : Int} {line : Tx} {s1 tx tb : Nat} {a b e d a' b' e' d' : Int} (h : Sn w p cl wd nx line s1 tx tb a b e d wr) (hg : wr.grownBy w' (Met.blk p)) (hM : Met.Mt w' p a' b' e' d') : Sn w p cl wd nx line s1 tx tb a' b' e' d' w' :=
  ⟨h.1.adds hg h.2.2.1, h.2.1.adds hg h.2.2.1, hM, h.2.2.2.trans hg⟩
theorem Sn.far {w wr w' : World} {p : Option Addr} {cl nx : List Int} {wd : Int} {line : Tx} {s1 tx tb : Nat} {a b e d : Int} {v : Value} {n : Nat} {xs : List Value} (h : Sn w p cl wd nx line s1 tx tb a b e d wr) (ho : wr.ownsRow w.heap.size 57 2 v n xs) (hg : wr.grownBy w' v.ownBlock) : Sn w p cl wd nx line s1 tx tb a b e d w' := by
  have hr : ∀ g, v.ownBlock = some g → ∃ cs fr, wr.heap[g]? = some (.cells cs 57 fr) := fun g hg => by
    obtain ⟨_, _, cs, hh⟩ := own_block_lt ho hg
    exact ⟨cs, _, hh⟩
  exact ⟨Spa.tx_far h.1 hg hr, td_far h.2.1 hg hr, Spa.mt_far h.2.2.1 hg hr, h.2.2.2.andThen hg fun j hj => .inl (own_ge ho hj)⟩
set_option maxHeartbeats 8000000 in
theorem dscan_full (w : World) (s t : Nat) (l : List Tx) (hD : Dt w s t l) (p : Option Addr) (line : Tx) (al : Option Addr) (cl : Nat) (hb : Bs w w.heap.size al line) (hl : line.length ≤ 1000) (a b e d : Int) (hM : Met.Mt w p a b e d)
    (ha : 0 ≤ a ∧ a ≤ 1000000000) (hb' : 0 ≤ b ∧ b ≤ 1000000000) (hc : 0 ≤ e ∧ e ≤ 1000000000000) (hd : 0 ≤ d ∧ d ≤ 1000000000000) :
    Calls Tryz.prog 137 #[.pointer (some ⟨t, 0, none⟩), .pointer p, .slice al line.length cl] w (Spa.ScansC w p (Spa.scanOf l line) (a + (line.length : Int)) (b + (line.length : Int)) e d) := by
  have HS := Lib.hid (dstates_at w s t l hD)
  have HD := Lib.hid hD
  have HM := Lib.hid hM
  have HW := Lib.hid (paths_wf l)
  have hpos := HW.out.pos
  have hz : (((paths l).length : Int) == 0) = false := by rw [beq_eq_false_iff_ne]; omega
  obtain ⟨st, tt, sx, x, g, h1, h2, h3, h4, h0, h5, h6⟩ := hD
  have HLP : Hid (∀ y ∈ l, y ∈ paths l) := Lib.hid h1.2.2.1
  have HDEEP := Lib.hid h0
  obtain ⟨c0, c1, c2, c3⟩ := h5.cells
  have HB5 := Lib.hid h5
  have HG6 := Lib.hid h6
  have hwl := Cls.cnt_le (Cls.stands l)
  have HNX : Hid (∀ i (hi : i < (paths l).length) (c : UInt8), Met.dk (Cls.cls (Cls.stands l) c : Int) ((Cls.cnt (Cls.stands l) + 1 : Nat) : Int) (whole l (paths l).length (Cls.cnt (Cls.stands l) + 1)) (i : Int) = place (paths l) (Spa.stepT (paths l) c (paths l)[i])) := Lib.hid fun i hi c => by
    obtain ⟨q1, q2⟩ := List.getElem?_eq_some_iff.1 (whole_at l hi c)
    have hk := Cls.cls_le (Cls.stands l) c
    rw [Met.dk_in _ _ _ _ (by omega) (by omega) (by omega) _ q1 (by rw [Int.natCast_add (i * (Cls.cnt (Cls.stands l) + 1)), Int.natCast_mul]), q2, next_at hi]
  have hnl : (whole l (paths l).length (Cls.cnt (Cls.stands l) + 1)).length = (paths l).length * (Cls.cnt (Cls.stands l) + 1) := tabF_len _ _ _
  have hww := Nat.mul_le_mul h4 (show Cls.cnt (Cls.stands l) + 1 ≤ 257 by omega)
  rw [← hnl] at c3 hww
  have HNL : Hid ((whole l (paths l).length (Cls.cnt (Cls.stands l) + 1)).length ≤ 1000000) := Lib.hid (by omega)
  have HIS : Hid (Met.Is w w.heap.size (some ⟨g, 0, none⟩) (whole l (paths l).length (Cls.cnt (Cls.stands l) + 1))) := Lib.hid fun _ => ⟨g, 0, rfl, txt_lt h6, fun i hi => by rw [Nat.zero_add, cell_of_row w g _ _ _ _ h6, Cls.icells_at _ _ hi]⟩
  generalize whole l (paths l).length (Cls.cnt (Cls.stands l) + 1) = nx at *
  generalize hwd : Cls.cnt (Cls.stands l) + 1 = wd at *
  have HTX : Hid (∀ X, Below w.heap.size w X → Calls Tryz.prog 127 #[.pointer p, .slice al line.length cl] X (Met.GivesTx X p line)) := Lib.hid fun X hX => Met.text_any X p line al cl (by omega) ((hb.keep hX).more hX.size)
  have HTD : Hid (∀ X, Below w.heap.size w X → Calls Tryz.prog 138 #[.pointer p, .agg (Cls.cc (Cls.stands l)), .int .i64 (wd : Int), .slice (some ⟨g, 0, none⟩) nx.length nx.length] X (Met.GivesTd X p (Cls.tab (Cls.stands l)) (wd : Int) nx)) := Lib.hid fun X hX => Met.dense_any X p (Cls.tab (Cls.stands l)) (wd : Int) nx _ _ HNL.out (fun h0 => by obtain ⟨b, off, e, hlt, hc⟩ := HIS.out.keep hX h0; exact ⟨b, off, e, Nat.lt_of_lt_of_le hlt hX.size, hc⟩)
  have HR : Hid (∀ X, Below w.heap.size w X → (loadVar 106 ⟨t, 2, none⟩).run Tryz.prog X = .ok (.agg (Cls.cc (Cls.stands l))) X) := Lib.hid fun X hX => (HB5.out.keep hX).load (Cls.cc_size _)
  have HLDW : Hid (∀ X, Below w.heap.size w X → X.cell? ⟨t, 258, none⟩ = some (.int .i64 (wd : Int))) := Lib.hid fun X hX => (HB5.out.keep hX).cells.2.2.1
  have HLDN : Hid (∀ X, Below w.heap.size w X → X.cell? ⟨t, 259, none⟩ = some (.slice (some ⟨g, 0, none⟩) nx.length nx.length)) := Lib.hid fun X hX => by rw [hnl]; exact (HB5.out.keep hX).cells.2.2.2
  have HBW : Hid (Below w.heap.size w w) := Lib.hid (Below.refl _ _)
  clear h1 h2 h3 h4 h0 h5 h6 c0 c1 c2 c3 hM hnl hww
  go_enter Tryz.func137, Tryz.ntmps137
  go_wp2_with (go_at_call 51; (with_reducible refine HS.out.mono ?_); rintro e w2 ⟨rfl, rfl⟩)
  refine wp_region_held_drew (S := fun w' => Below w.drew.heap.size w.drew w') (by kernel_rfl) (Below.refl _ _) (fun hH0 => ?_)
  have B0 := Lib.hid (below_drews HBW.out 1)
  change Hid (Below _ _ w.drew) at B0
  generalize w.drew = x0 at *
  refine held_take (i := 0) (d := 17) (oi := _) (v := ?_) rfl rfl (by kernel_rfl) (by kernel_rfl) (by kernel_rfl) (fun _ _ _ h => h) (Or.inl ⟨by rfl, ?_⟩) (by assumption) ?_
  rotate_left
  · (intro w hSw; clear hSw; go_simp; (try with_reducible rfl))
  simp only [Act.put, List.setIfInBounds_toArray, List.set_cons_zero, List.set_cons_succ]
  refine held_take (i := 1) (d := 18) (oi := _) (v := ?_) rfl rfl (by kernel_rfl) (by kernel_rfl) (by kernel_rfl) (fun _ _ _ h => h) (Or.inl ⟨by rfl, ?_⟩) (by assumption) ?_
  rotate_left
  · (intro w hSw; clear hSw; go_simp; (try with_reducible rfl))
  simp only [Act.put, List.setIfInBounds_toArray, List.set_cons_zero, List.set_cons_succ]
  refine held_take (i := 3) (d := 20) (oi := _) (v := ?_) rfl rfl (by kernel_rfl) (by kernel_rfl) (by kernel_rfl) (fun _ _ _ h => h) (Or.inl ⟨by rfl, ?_⟩) (by assumption) ?_
  rotate_left
  · (intro w hSw; clear hSw; go_simp; (try with_reducible rfl))
  simp only [Act.put, List.setIfInBounds_toArray, List.set_cons_zero, List.set_cons_succ]
  refine held_take (i := 4) (d := 21) (oi := _) (v := ?_) rfl rfl (by kernel_rfl) (by kernel_rfl) (by kernel_rfl) (fun _ _ _ h => h) (Or.inl ⟨by rfl, ?_⟩) (by assumption) ?_
  rotate_left
  · (intro w hSw; clear hSw; go_simp; (try with_reducible rfl))
  simp only [Act.put, List.setIfInBounds_toArray, List.set_cons_zero, List.set_cons_succ]
  refine held_take (i := 5) (d := 22) (oi := _) (v := ?_) rfl rfl (by kernel_rfl) (by kernel_rfl) (by kernel_rfl) (fun _ _ _ h => h) (Or.inl ⟨by rfl, ?_⟩) (by assumption) ?_
  rotate_left
  · (intro w hSw; clear hSw; go_simp; (try with_reducible rfl))
  simp only [Act.put, List.setIfInBounds_toArray, List.set_cons_zero, List.set_cons_succ]
  refine held_take (i := 6) (d := 23) (oi := _) (v := ?_) rfl rfl (by kernel_rfl) (by kernel_rfl) (by kernel_rfl) (fun _ _ _ h => h) (Or.inl ⟨by rfl, ?_⟩) (by assumption) ?_
  rotate_left
  · (intro w hSw; clear hSw; go_simp; (try with_reducible rfl))
  simp only [Act.put, List.setIfInBounds_toArray, List.set_cons_zero, List.set_cons_succ]
  refine held_take (i := 7) (d := 24) (oi := _) (v := _) rfl rfl (by kernel_rfl) (by kernel_rfl) (by kernel_rfl) (fun _ _ _ h => h) (Or.inl ⟨by rfl, fun w hSw => Cls.exec_load rfl rfl (HR.out w (B0.out.trans (hSw.mono B0.out.size)))⟩) (by assumption) ?_
  simp only [Act.put, List.setIfInBounds_toArray, List.set_cons_zero, List.set_cons_succ]
  refine held_take (i := 8) (d := 25) (oi := _) (v := ?_) rfl rfl (by kernel_rfl) (by kernel_rfl) (by kernel_rfl) (fun _ _ _ h => h) (Or.inl ⟨by rfl, ?_⟩) (by assumption) ?_
  rotate_left
  · (intro w hSw; clear hSw; go_simp; (try with_reducible rfl))
  simp only [Act.put, List.setIfInBounds_toArray, List.set_cons_zero, List.set_cons_succ]
  refine held_take (i := 9) (d := 26) (oi := _) (v := ?_) rfl rfl (by kernel_rfl) (by kernel_rfl) (by kernel_rfl) (fun _ _ _ h => h) (Or.inl ⟨by rfl, ?_⟩) (by assumption) ?_
  rotate_left
  · (intro w hSw; clear hSw; go_simp; (try with_reducible rfl))
  simp only [Act.put, List.setIfInBounds_toArray, List.set_cons_zero, List.set_cons_succ]
  refine held_take (i := 10) (d := 27) (oi := _) (v := ?_) rfl rfl (by kernel_rfl) (by kernel_rfl) (by kernel_rfl) (fun _ _ _ h => h) (Or.inl ⟨by rfl, ?_⟩) (by assumption) ?_
  rotate_left
  · (intro w hSw; clear hSw; go_simp; (try with_reducible rfl))
  simp only [Act.put, List.setIfInBounds_toArray, List.set_cons_zero, List.set_cons_succ]
  refine held_take (i := 11) (d := 28) (oi := _) (v := ?_) rfl rfl (by kernel_rfl) (by kernel_rfl) (by kernel_rfl) (fun _ _ _ h => h) (Or.inl ⟨by rfl, ?_⟩) (by assumption) ?_
  rotate_left
  · (intro w hSw; have hld := HLDW.out w (B0.out.trans (hSw.mono B0.out.size)); clear hSw; go_simp; (try with_reducible rfl))
  simp only [Act.put, List.setIfInBounds_toArray, List.set_cons_zero, List.set_cons_succ]
  refine held_take (i := 12) (d := 29) (oi := _) (v := ?_) rfl rfl (by kernel_rfl) (by kernel_rfl) (by kernel_rfl) (fun _ _ _ h => h) (Or.inl ⟨by rfl, ?_⟩) (by assumption) ?_
  rotate_left
  · (intro w hSw; clear hSw; go_simp; (try with_reducible rfl))
  simp only [Act.put, List.setIfInBounds_toArray, List.set_cons_zero, List.set_cons_succ]
  refine held_take (i := 13) (d := 30) (oi := _) (v := ?_) rfl rfl (by kernel_rfl) (by kernel_rfl) (by kernel_rfl) (fun _ _ _ h => h) (Or.inl ⟨by rfl, ?_⟩) (by assumption) ?_
  rotate_left
  · (intro w hSw; clear hSw; go_simp; (try with_reducible rfl))
  simp only [Act.put, List.setIfInBounds_toArray, List.set_cons_zero, List.set_cons_succ]
  refine held_take (i := 14) (d := 31) (oi := _) (v := ?_) rfl rfl (by kernel_rfl) (by kernel_rfl) (by kernel_rfl) (fun _ _ _ h => h) (Or.inl ⟨by rfl, ?_⟩) (by assumption) ?_
  rotate_left
  · (intro w hSw; clear hSw; go_simp; (try with_reducible rfl))
  simp only [Act.put, List.setIfInBounds_toArray, List.set_cons_zero, List.set_cons_succ]
  refine held_take (i := 15) (d := 32) (oi := _) (v := ?_) rfl rfl (by kernel_rfl) (by kernel_rfl) (by kernel_rfl) (fun _ _ _ h => h) (Or.inl ⟨by rfl, ?_⟩) (by assumption) ?_
  rotate_left
  · (intro w hSw; have hld := HLDN.out w (B0.out.trans (hSw.mono B0.out.size)); clear hSw; go_simp; (try with_reducible rfl))
  simp only [Act.put, List.setIfInBounds_toArray, List.set_cons_zero, List.set_cons_succ]
  refine wpAnyH_ready (rs := [2]) (by kernel_rfl) (by simp) ?_
  refine AllReadyH.cons rfl (fun K hK => ?_) AllReadyH.nil
  go_simp
  go_wp2_with (go_at_call 127; (with_reducible refine (HTX.out _ B0.out).mono ?_); rintro e x1 ⟨tx, rfl, htx, hb⟩)
  refine hK.out _ _ hb (fun _ => ?_)
  have B1 := Lib.hid (B0.out.trans (hb.mono B0.out.size))
  refine wpAnyH_more (S' := fun w' => Below x1.heap.size x1 w') (fun w' h => hb.trans (h.mono hb.size)) _ _ _ _ ?_
  have hH1 : Below x1.heap.size x1 x1 := Below.refl _ _
  clear hK K hH0 hb B0
  have X1 := Lib.hid htx
  clear htx
  refine wpAnyH_ready (rs := [16]) (by kernel_rfl) (by simp) ?_
  refine AllReadyH.cons rfl (fun K hK => ?_) AllReadyH.nil
  go_simp
  go_wp2_with (go_at_call 138; (with_reducible refine (HTD.out _ B1.out).mono ?_); rintro e x2 ⟨tb, rfl, htd, hb⟩)
  have X3 := Lib.hid (X1.out.keep hb)
  refine hK.out _ _ hb (fun _ => ?_)
  have B2 := Lib.hid (B1.out.trans (hb.mono B1.out.size))
  refine wpAnyH_more (S' := fun w' => Below x2.heap.size x2 w') (fun w' h => hb.trans (h.mono hb.size)) _ _ _ _ ?_
  have hH2 : Below x2.heap.size x2 x2 := Below.refl _ _
  clear hK K hH1 hb B1
  have X2 := Lib.hid htd
  clear htd
  refine held_take (i := 17) (d := 7) (oi := _) (v := ?_) rfl rfl (by kernel_rfl) (by kernel_rfl) (by kernel_rfl) (fun _ _ _ h => h) (Or.inl ⟨by rfl, ?_⟩) (by assumption) ?_
  rotate_left
  · (intro w hSw; clear hSw; go_simp; (try with_reducible rfl))
  simp only [Act.put, List.setIfInBounds_toArray, List.set_cons_zero, List.set_cons_succ]
  refine held_take (i := 18) (d := 8) (oi := _) (v := ?_) rfl rfl (by kernel_rfl) (by kernel_rfl) (by kernel_rfl) (fun _ _ _ h => h) (Or.inl ⟨by rfl, ?_⟩) (by assumption) ?_
  rotate_left
  · (intro w hSw; clear hSw; go_simp; (try with_reducible rfl))
  simp only [Act.put, List.setIfInBounds_toArray, List.set_cons_zero, List.set_cons_succ]
  refine wpAnyH_done (by kernel_rfl) ?_ _
  have HS0 : Hid (Sn w p (Cls.tab (Cls.stands l)) (wd : Int) nx line x0.heap.size tx tb a b e d x2) := Lib.hid ⟨X3.out, X2.out, HM.out.keep B2.out, (grown_of_below B2.out).but _⟩
  have hsz0 := B2.out.size
  clear X1 X2 X3 HTX HTD HLDW HLDN HR HBW HS hH2
  generalize x0.heap.size = s1 at *
  have HLEN := Lib.hid (Met.len_some x2 s1 tx p line HS0.out.1)
  go_wp2_with (go_at_call 129; (with_reducible refine HLEN.out.mono ?_); rintro e w2 ⟨rfl, rfl⟩)
  go_loopw [9, 10, 36] (fun v st i wr => ∃ k : Nat, k ≤ line.length ∧ i = .int .i64 (k : Int) ∧ st = .int .i64 (place (paths l) (Spa.longT (paths l) (line.take k))) ∧ wr.ownsRow w.heap.size 57 2 v (Spa.hitsTo l line k).length (cellsOf (Spa.hitsTo l line k)) ∧ Sn w p (Cls.tab (Cls.stands l)) (wd : Int) nx line s1 tx tb (a + (k : Int)) (b + (k : Int)) e d wr) (fun _ _ i _ => line.length - (intOf i).toNat)
  case atStart => exact ⟨0, by omega, rfl, by rw [List.take_zero, Spa.longT, place_nil HW.out], World.ownsRow_nil _ _ _ _, by simpa using HS0.out⟩
  case round =>
    obtain ⟨k, hk, rfl, rfl, hown, hsc⟩ := hrel
    have HO := Lib.hid hown
    have HSC := Lib.hid hsc
    clear hown hsc
    have hhl := Spa.hits_len l line 1000 hl k
    by_cases hlt : k < line.length
    · have hlt2 : (k : Int) < (line.length : Int) := by omega
      have HST := Lib.hid (Spa.long_take HW.out line k hlt)
      have HQM := Lib.hid (Spa.longT_mem HW.out (line.take k))
      have hwr : IntKind.u8.wrap (line[k].toNat : Int) = (line[k].toNat : Int) := by
        have := line[k].toNat_lt
        simp [IntKind.wrap, IntKind.bits, IntKind.signed]; omega
      have hbk0 : 0 ≤ b + (k : Int) ∧ b + (k : Int) ≤ 1000000000000 := by omega
      have HAT := Lib.hid (Met.at_in wr s1 tx p line HSC.out.1 k hlt (by omega) (a + (k : Int)) (b + (k : Int)) e d HSC.out.2.2.1 (by omega) hbk0 hc hd)
      generalize line[k] = c at *
      generalize hqq : Spa.longT (paths l) (line.take k) = q at *
      have HDK : Hid (Met.dk (Cls.cls (Cls.stands l) c : Int) (wd : Int) nx (place (paths l) q) = place (paths l) (Spa.stepT (paths l) c q)) := Lib.hid (by
        obtain ⟨i, hi, ei, ei2, _⟩ := place_mem HQM.out
        have h := HNX.out i hi c
        rw [ei2] at h
        rw [ei]; exact h)
      have HCK : Hid ((Cls.tab (Cls.stands l))[c.toNat]? = some (Cls.cls (Cls.stands l) c : Int)) := Lib.hid (by
        have h : c.toNat < (Cls.tab (Cls.stands l)).length := by rw [Cls.tab_length]; exact c.toNat_lt
        rw [List.getElem?_eq_getElem h, Cls.tab_at, Cls.ofNat_toNat])
      go_wp2_with (go_at_call 131; (with_reducible refine HAT.out.mono ?_); rintro e w3 ⟨rfl, hM3, hg3⟩; have HG3 := Lib.hid hg3; have HS3 := Lib.hid (HSC.out.adds hg3 hM3); clear hM3 hg3; have HLOOK := Lib.hid (Met.lookd_some w3 tb p (Cls.tab (Cls.stands l)) (wd : Int) nx HNL.out HS3.out.2.1 (place (paths l) q) c _ HCK.out (a + (k : Int) + 1) (b + (k : Int)) e d HS3.out.2.2.1 (by omega) hbk0 hc hd))
      rw [HDK.out] at HLOOK
      go_wp2_with (go_at_call 135; (with_reducible refine HLOOK.out.mono ?_); rintro e w4 ⟨rfl, hM4, hg4⟩; have HG4 := Lib.hid hg4; have HS4 := Lib.hid (HS3.out.adds hg4 hM4); have hA4 := HD.out.adds HS4.out.2.2.2 HM.out; clear hM4 hg4; obtain ⟨st4, tt4, sx4, x4, g4, _, hL4, _, _, hdeep4, hB4, _⟩ := hA4; obtain ⟨c0, c1, c2, c3⟩ := hB4.cells; have HE4 := Lib.hid (Spa.ends_own w4 sx4 x4 (paths l) l hL4 (place (paths l) (Spa.stepT (paths l) c q)) (Spa.pathD_le hdeep4 _)); clear hB4 hL4 hdeep4 c0 c2 c3)
      have HES : Hid (endsOf l (pathD (paths l) (place (paths l) (Spa.stepT (paths l) c q))) = endsOf l (line.take (k + 1))) := Lib.hid (by rw [Spa.pathD_place (Spa.stepT_mem HW.out c q), ← HST.out, Spa.ends_long HLP.out])
      rw [HES.out] at HE4
      have ht1 : (line.take (k + 1)).length = k + 1 := by rw [List.length_take]; omega
      have HRS : Hid (∀ j (h : j < (endsOf l (line.take (k + 1))).length), (Spa.rowOf l (line.take (k + 1))).take (j + 1) = (Spa.rowOf l (line.take (k + 1))).take j ++ [⟨(k : Int) + 1 - (endsOf l (line.take (k + 1)))[j], (k : Int) + 1⟩]) := Lib.hid fun j h => by
        rw [Spa.row_snoc l _ j h, ht1]; rfl
      have HBD : Hid (∀ j (h : j < (endsOf l (line.take (k + 1))).length), 1 ≤ (endsOf l (line.take (k + 1)))[j] ∧ (endsOf l (line.take (k + 1)))[j] ≤ (k : Int) + 1) := Lib.hid fun j h => by
        have := Spa.ends_bound l (line.take (k + 1)) j h
        rw [ht1] at this; exact this
      have HRA := Lib.hid (Spa.row_all l (line.take (k + 1)))
      have hrl := Spa.row_len l (line.take (k + 1))
      have hel := ends_len l (line.take (k + 1))
      rw [ht1] at hrl hel
      have HHK : Hid (Spa.hitsTo l line (k + 1) = Spa.hitsTo l line k ++ Spa.rowOf l (line.take (k + 1))) := Lib.hid rfl
      clear HES ht1
      generalize endsOf l (line.take (k + 1)) = es at *
      generalize Spa.rowOf l (line.take (k + 1)) = R at *
      go_wp2_with (go_at_call 132; (with_reducible refine HE4.out.mono ?_); rintro e w5 ⟨v5, rfl, ho5, hb5⟩; obtain ⟨a5, c5, rfl⟩ := Spa.own_is' ho5; have HI5 := Lib.hid ho5; have HB5' := Lib.hid hb5; clear ho5 hb5)
      have HS5 := Lib.hid (HS4.out.keep HB5'.out)
      have HO5 := Lib.hid (own_keep (Spa.own_adds (Spa.own_adds HO.out HG3.out HSC.out.2.2.1 (by decide)) HG4.out HS3.out.2.2.1 (by decide)) HB5'.out)
      clear HG3 HG4 HS4 HS3 HE4 HLOOK HAT HB5' c1
      go_loopw [9, 53] (fun v i wi => ∃ j : Nat, j ≤ es.length ∧ i = .int .i64 (j : Int) ∧ wi.ownsRow w.heap.size 57 2 v (Spa.hitsTo l line k ++ R.take j).length (cellsOf (Spa.hitsTo l line k ++ R.take j)) ∧ wi.ownsRow w4.heap.size 3 1 (.slice a5 es.length c5) es.length (ivals es) ∧ Sn w p (Cls.tab (Cls.stands l)) (wd : Int) nx line s1 tx tb (a + (k : Int) + 1) (b + (k : Int) + 1) e d wi) (fun _ i _ => es.length - (intOf i).toNat)
      case atStart => exact ⟨0, by omega, rfl, by simpa using HO5.out, HI5.out, HS5.out⟩
      case round =>
        obtain ⟨j, hj, rfl, ho, hi, hs⟩ := hrel
        have HO6 := Lib.hid ho
        have HI6 := Lib.hid hi
        have HS6 := Lib.hid hs
        clear ho hi hs
        have hsz6 := HS6.out.2.2.2.size
        have hrt : (R.take j).length ≤ 1000 := by rw [List.length_take]; omega
        by_cases hj2 : j < es.length
        · have hj3 : (j : Int) < (es.length : Int) := by omega
          obtain ⟨b6, off6, e6, hcell⟩ := Spa.is_cell HI6.out j hj2
          obtain ⟨hx1, hx2⟩ := HBD.out j hj2
          have HN6 := Lib.hid (HRS.out j hj2)
          subst e6
          generalize es[j] = x at *
          go_wp2_with (at_builtin; refine app_ps rfl _ _ rfl w.heap.size _ _ (Spa.hitsTo l line k ++ R.take j) rfl (HO6.out.alloc _) (some ⟨wr.heap.size, 0, none⟩) [⟨(k : Int) + 1 - x, (k : Int) + 1⟩] 1 (wr.heap.size + 1) rfl (by have := Prs.ps_one wr ⟨(k : Int) + 1 - x, (k : Int) + 1⟩ (0, 0); rwa [World.size_alloc] at this) (fun e => by cases e) (by simp only [List.length_append, List.length_cons, List.length_nil]; omega) (by simp; omega) ?_; intro v7 w7 hown7 hg7)
          go_roundw
          case rel =>
            have ba : Below wr.heap.size wr (wr.alloc (.cells #[.int .i64 ((k : Int) + 1 - x), .int .i64 ((k : Int) + 1)] 57)) := (Below.refl _ _).alloc (Nat.le_refl _) _
            refine ⟨j + 1, by omega, by go_num, ?_, Spa.is_far (own_keep HI6.out ba) (HO6.out.alloc _) hg7, (HS6.out.keep ba).far (HO6.out.alloc _) hg7⟩
            rw [HN6.out, ← List.append_assoc, List.length_append (bs := [_])]
            exact hown7
          case measure => simp [intOf]; omega
        · have hje : j = es.length := by omega
          have hj3 : ¬ (j : Int) < (es.length : Int) := by omega
          have HQ : Hid (Spa.hitsTo l line k ++ R.take j = Spa.hitsTo l line (k + 1)) := Lib.hid (by rw [hje, HRA.out, HHK.out])
          clear hje
          go_wp2
          go_roundw
          case rel =>
            refine ⟨k + 1, by omega, by go_num, by rw [HST.out], by rw [← HQ.out]; exact HO6.out, ?_⟩
            have e1 : a + ((k + 1 : Nat) : Int) = a + (k : Int) + 1 := by omega
            have e2 : b + ((k + 1 : Nat) : Int) = b + (k : Int) + 1 := by omega
            rw [e1, e2]; exact HS6.out
          case measure => simp [intOf]; omega
    · have hke : k = line.length := by omega
      have hk3 : ¬ (k : Int) < (line.length : Int) := by omega
      have HQ : Hid (norm (Spa.hitsTo l line k) = Spa.scanOf l line) := Lib.hid (by rw [hke, Spa.scanOf])
      have HQ3 : Hid ((k : Int) = (line.length : Int)) := Lib.hid (by rw [hke])
      clear hke
      obtain ⟨a8, c8, rfl, hc8, hn8, hp8⟩ := own_ps HO.out rfl
      have HSO := Lib.hid (sort_all (Spa.hitsTo l line k) a8 c8 wr (by omega) hp8 hc8 hn8)
      clear hp8 hn8
      go_wp2_with (go_at_call 40; (with_reducible refine HSO.out.mono ?_); rintro e w9 ⟨a9, c9, rfl, hc9, hn9, hp9, hb9⟩; have HB9 := Lib.hid hb9; have HP9 := Lib.hid hp9; clear hb9 hp9)
      go_ret
      have hs := HSC.out.keep HB9.out
      refine ⟨a9, c9, by rw [← HQ.out]; rfl, by rw [← HQ.out]; exact HP9.out, hn9, ?_, hs.2.2.2, by rw [← HQ.out]; exact hc9⟩
      rw [← HQ3.out]; exact hs.2.2.1
theorem dscan_any (w : World) (s t : Nat) (l : List Tx) (hD : Dt w s t l) (p : Option Addr) (line : Tx) (al : Option Addr) (cl : Nat) (hb : Bs w w.heap.size al line) (hl : line.length ≤ 1000) (a b e d : Int) (hM : Met.Mt w p a b e d)
    (ha : 0 ≤ a ∧ a ≤ 1000000000) (hb' : 0 ≤ b ∧ b ≤ 1000000000) (hc : 0 ≤ e ∧ e ≤ 1000000000000) (hd : 0 ≤ d ∧ d ≤ 1000000000000) :
    Calls Tryz.prog 137 #[.pointer (some ⟨t, 0, none⟩), .pointer p, .slice al line.length cl] w (Spa.Scans w p (Spa.scanOf l line) (a + (line.length : Int)) (b + (line.length : Int)) e d) :=
  (dscan_full w s t l hD p line al cl hb hl a b e d hM ha hb' hc hd).mono fun _ _ h => h.less
end Go.Proofs.YtcbhjhhajeeimaaGreat.Dfa
/- Scans with a counter of one's own, with none, of no table; what the walks of layer 10 share. -/
namespace Go.Proofs.YtcbhjhhajeeimaaGreat.Dfa
open Go.RowKit Go.Maps Go.Proofs.YtcbhjhhajeeimaaGreat.Tri Go.Proofs.YtcbhjhhajeeimaaGreat.Lnk Go.Proofs.YtcbhjhhajeeimaaGreat.Reg Go.Proofs.YtcbhjhhajeeimaaGreat.Prs
set_option maxRecDepth 100000
theorem dscan_nil (w : World) (p : Option Addr) (a : Option Addr) (n cap : Nat) : Calls Tryz.prog 137 #[.pointer none, .pointer p, .slice a n cap] w fun e w' => e = .returned (.slice none 0 0) ∧ w = w' := by
  have HS := Lib.hid (states_none w)
  go_enter Tryz.func137, Tryz.ntmps137
  go_wp2_with (go_at_call 51; (with_reducible refine HS.out.mono ?_); rintro e w2 ⟨rfl, rfl⟩)
  go_ret
  exact ⟨rfl, rfl⟩
/-- A scan with a counter of one's own. -/
theorem dscan_new (w : World) (s t : Nat) (l : List Tx) (hD : Dt w s t l) (g : Nat) (line : Tx) (al : Option Addr) (cl : Nat) (hb : Bs w w.heap.size al line) (hl : line.length ≤ 1000) (a b : Nat) (hM : Met.Cnt w g (a : Int) (b : Int) 0 0) (ha : a ≤ 1000000) (hb' : b ≤ 1000000) :
    Calls Tryz.prog 137 #[.pointer (some ⟨t, 0, none⟩), .pointer (some ⟨g, 0, none⟩), .slice al line.length cl] w fun x w' => ∃ A cap, x = .returned (.slice A (Spa.scanOf l line).length cap) ∧ Ps w' w'.heap.size A (Spa.scanOf l line) ∧ (A = none → cap = 0) ∧ Met.Cnt w' g ((a + line.length : Nat) : Int) ((b + line.length : Nat) : Int) 0 0 ∧ w.grownBy w' (some g) := by
  refine (dscan_any w s t l hD (some ⟨g, 0, none⟩) line al cl hb hl (a : Int) (b : Int) 0 0 (.inr ⟨g, rfl, hM⟩) (by omega) (by omega) (by omega) (by omega)).mono ?_
  rintro x w' ⟨A, cap, e, hp, hn, hM', hg⟩
  refine ⟨A, cap, e, hp, hn, ?_, hg⟩
  have := Spa.Mt.cnt hM'
  rw [Int.natCast_add, Int.natCast_add]; exact this
/-- .. with none. -/
theorem dscan_free (w : World) (s t : Nat) (l : List Tx) (hD : Dt w s t l) (line : Tx) (al : Option Addr) (cl : Nat) (hb : Bs w w.heap.size al line) (hl : line.length ≤ 1000) :
    Calls Tryz.prog 137 #[.pointer (some ⟨t, 0, none⟩), .pointer none, .slice al line.length cl] w fun x w' => ∃ A cap, x = .returned (.slice A (Spa.scanOf l line).length cap) ∧ Ps w' w'.heap.size A (Spa.scanOf l line) ∧ (A = none → cap = 0) ∧ Below w.heap.size w w' := by
  refine (dscan_any w s t l hD none line al cl hb hl 0 0 0 0 (.inl rfl) (by omega) (by omega) (by omega) (by omega)).mono ?_
  rintro x w' ⟨A, cap, e, hp, hn, _, hg⟩
  exact ⟨A, cap, e, hp, hn, (Below.refl _ _).grown hg (Nat.le_refl _) (fun k e => by cases e)⟩
theorem ex_cnt : Cls.cnt (Cls.stands Spa.exl) = 3 := by decide +kernel
theorem ex_next1 : nextOf (paths Spa.exl) 0 115 = 3 := by decide
theorem ex_next2 : nextOf (paths Spa.exl) 5 120 = 0 := by decide
theorem ex_len : (paths Spa.exl).length = 6 := by decide
attribute [local go_sem ↓] Met.eql_counts
end Go.Proofs.YtcbhjhhajeeimaaGreat.Dfa
/- The document's Next; all beginnings of very many texts. -/
namespace Go.Proofs.YtcbhjhhajeeimaaGreat.Dfa
open Go.RowKit Go.Maps Go.Proofs.YtcbhjhhajeeimaaGreat.Tri Go.Proofs.YtcbhjhhajeeimaaGreat.Lnk Go.Proofs.YtcbhjhhajeeimaaGreat.Reg
set_option maxRecDepth 100000
set_option maxHeartbeats 2000000 in
theorem paths_more (w : World) (l : List Tx) (a : Option Addr) (cap : Nat) (hs : Ss w a l) (hl : l.length ≤ 2000000) (hz : tot l ≤ 100000000) :
    Calls Tryz.prog 28 #[.slice a l.length cap] w (GivesSs w (paths l)) := by
  have HS := Lib.hid hs
  clear hs
  go_enter Tryz.func28, Tryz.ntmps28
  go_wp2
  go_loopw [3, 4, 5] (fun v i _ wr => ∃ k : Nat, k ≤ l.length ∧ i = .int .i64 k ∧ wr.ownsRow w.heap.size 9 1 v (paths (l.take k)).length (svals (paths (l.take k))) ∧ Below w.heap.size w wr) (fun _ i _ _ => l.length - (intOf i).toNat)
  case atStart =>
    refine ⟨0, Nat.zero_le _, rfl, ?_, (Below.refl _ _).alloc (Nat.le_refl _) _⟩
    exact World.ownsRow_lit (base := w.heap.size) (e := 9) (size := 1) w #[.string (str [])] 1 (Nat.le_refl _) (by unfold maxLen; omega) rfl
  case round =>
    obtain ⟨k, hk, rfl, hown, hbel⟩ := hrel
    by_cases hlt : k < l.length
    · obtain ⟨b, off, rfl, hbl, hc⟩ := HS.out (by omega)
      have hkl : (k : Int) < (l.length : Int) := by omega
      have hplen := paths_len (l.take k)
      have htt := tot_take l k hlt
      have htl := tot_take_le l (k + 1)
      have HP := Lib.hid (paths_take l k hlt)
      have HCK := Lib.hid (hc k hlt)
      have HW := Lib.hid (paths_wf (l.take k))
      have hsz := str_size l[k]
      clear hc
      generalize l[k] = x at *
      generalize hps : paths (l.take k) = ps at *
      have hpz : ps.length + x.length ≤ 100000001 := by omega
      clear htt htl hplen hps
      go_wp2
      go_loopw [3, 5] (fun v i wr => ∃ j : Nat, j ≤ x.length ∧ i = .int .i64 ((j : Int) + 1) ∧ wr.ownsRow w.heap.size 9 1 v (growTo ps x j).length (svals (growTo ps x j)) ∧ Below w.heap.size w wr) (fun _ i _ => x.length + 1 - (intOf i).toNat)
      case atStart => exact ⟨0, Nat.zero_le _, rfl, hown, hbel⟩
      case round =>
        obtain ⟨j, hj, rfl, hown2, hbel2⟩ := hrel
        have hck := (hbel2.cell (p := ⟨b, off + k, none⟩) hbl).trans HCK.out
        by_cases hjx : j < x.length
        · have hjl : (j : Int) + 1 ≤ (x.length : Int) := by omega
          have hext := str_take x (j + 1)
          have hgl := growTo_len ps x j
          have hsz2 := hbel2.size
          obtain ⟨av, cv, rfl, hss, _, _⟩ := own_ss hown2
          have HPL := Lib.hid (place_any wr (growTo ps x j) av cv hss (by omega) (x.take (j + 1)))
          have HOLD := Lib.hid (growTo_old (ps := ps) (x := x) (k := j))
          have HNEW := Lib.hid (growTo_new (ps := ps) (x := x) (k := j))
          have HO := Lib.hid hown2
          have HB := Lib.hid hbel2
          clear hss hown2 hbel2 hown hbel
          by_cases hm : x.take (j + 1) ∈ growTo ps x j
          · have hy0 : ¬ place (growTo ps x j) (x.take (j + 1)) < 0 := by have := (place_nonneg (growTo ps x j) (x.take (j + 1))).2 hm; omega
            have HM := Lib.hid hm
            clear hm
            generalize place (growTo ps x j) (x.take (j + 1)) = y at *
            go_wp2_with (go_at_call 38; (with_reducible refine HPL.out.mono ?_); rintro e w1 ⟨rfl, rfl⟩)
            exact ⟨⟨j + 1, by omega, by go_num, by rw [HOLD.out HM.out]; exact HO.out, HB.out⟩, by simp [intOf]; omega⟩
          · have hy0 : place (growTo ps x j) (x.take (j + 1)) < 0 := by rw [place_not hm]; omega
            have HM := Lib.hid hm
            clear hm
            generalize place (growTo ps x j) (x.take (j + 1)) = y at *
            go_wp2_with (first
              | (go_at_call 38; (with_reducible refine HPL.out.mono ?_); rintro e w1 ⟨rfl, rfl⟩)
              | (at_builtin; refine app_ss rfl _ _ rfl w.heap.size _ _ _ (x.take (j + 1)) rfl (HO.out.alloc _) ⟨wr.heap.size, 0, none⟩ rfl (cell_new1 _ _ _) (by omega) (by simp; omega) ?_; intro v2 w2 hown3 hg3))
            refine ⟨⟨j + 1, by omega, by go_num, ?_, (HB.out.alloc hsz2 _).grown hg3 (by simp; omega) (fun q hq => own_ge HO.out hq)⟩, by simp [intOf]; omega⟩
            rw [HNEW.out HM.out, List.length_append]
            exact hown3
        · have hjl : ¬ (j : Int) + 1 ≤ (x.length : Int) := by omega
          obtain rfl : j = x.length := by omega
          have HO := Lib.hid hown2
          have HB := Lib.hid hbel2
          clear hown2 hbel2 hown hbel
          go_wp2
          exact ⟨⟨k + 1, by omega, by go_num, by rw [HP.out]; exact HO.out, HB.out⟩, by simp [intOf]; omega⟩
    · obtain rfl : k = l.length := by omega
      rw [List.take_length] at hown
      obtain ⟨av, cv, rfl, hss, _, _⟩ := own_ss hown
      have HSS := Lib.hid hss
      have HB := Lib.hid hbel
      clear hss hown hbel
      go_wp2
      go_ret
      exact ⟨av, cv, rfl, HSS.out, HB.out⟩
end Go.Proofs.YtcbhjhhajeeimaaGreat.Dfa
