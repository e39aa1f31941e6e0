/- Mathematics of the table: a row for each state, a place for each class. -/
import Derived.Test.YtnbfdjpmppflmaaDMath
namespace Go.Proofs.Ytnbfdjpmppflmaa.Dfa
open Go.Proofs.Ytnbfdjpmppflmaa.Tri Go.Proofs.Ytnbfdjpmppflmaa.Lnk Go.Proofs.Ytnbfdjpmppflmaa.Prs Go.Proofs.Ytnbfdjpmppflmaa.Spa
set_option maxRecDepth 100000

/-- A byte of a class. -/
def byteAt (l : List Tx) (k : Nat) : Option UInt8 := (Cls.ofCls (Cls.stands l) k).head?
theorem byteAt_some {l : List Tx} {k : Nat} {c : UInt8} (h : byteAt l k = some c) : Cls.cls (Cls.stands l) c = k := by
  unfold byteAt at h
  exact (Cls.mem_ofCls _ k c).1 (List.mem_of_mem_head? h)
theorem byteAt_none {l : List Tx} {k : Nat} (h : byteAt l k = none) (c : UInt8) : Cls.cls (Cls.stands l) c ≠ k := fun e => by
  unfold byteAt at h
  have hm := (Cls.mem_ofCls (Cls.stands l) k c).2 e
  rw [List.head?_eq_none_iff.1 h] at hm
  cases hm
/-- Where a state leads by a class. -/
def nxt (l : List Tx) (p : Tx) (k : Nat) : Int := match byteAt l k with | some c => place (paths l) (Spa.stepT (paths l) c p) | none => 0
theorem nxt_byte (l : List Tx) (p : Tx) (c : UInt8) : nxt l p (Cls.cls (Cls.stands l) c) = place (paths l) (Spa.stepT (paths l) c p) := by
  unfold nxt
  cases h : byteAt l (Cls.cls (Cls.stands l) c) with
  | none => exact absurd rfl (byteAt_none h c)
  | some d =>
    show place (paths l) (Spa.stepT (paths l) d p) = _
    rw [step_cls (byteAt_some h) p]
theorem nxt_kid (l : List Tx) {p : Tx} {c : UInt8} (h : p ++ [c] ∈ paths l) : nxt l p (Cls.cls (Cls.stands l) c) = place (paths l) (p ++ [c]) := by
  rw [nxt_byte, stepT_hit h]
/-- What a row has before its own kids are laid over it. -/
def bas (l : List Tx) (p : Tx) (k : Nat) : Int := if p = [] then 0 else nxt l (fallT (paths l) p) k
theorem nxt_fall (l : List Tx) {p : Tx} {k : Nat} (h : ∀ c, p ++ [c] ∈ paths l → Cls.cls (Cls.stands l) c ≠ k) : nxt l p k = bas l p k := by
  cases hb : byteAt l k with
  | none => simp [nxt, bas, hb]
  | some c =>
    have hc := byteAt_some hb
    have e : nxt l p k = place (paths l) (Spa.stepT (paths l) c p) := by simp [nxt, hb]
    have e2 : nxt l (fallT (paths l) p) k = place (paths l) (Spa.stepT (paths l) c (fallT (paths l) p)) := by simp [nxt, hb]
    rw [bas, e, e2, next_row (paths_wf l), if_neg (fun hm => h c hm hc)]
/-- The rows one behind the other. -/
def tabF (F : Nat → Nat → Int) (n wd : Nat) : List Int := (List.range (n * wd)).map fun j => F (j / wd) (j % wd)
theorem tabF_len (F : Nat → Nat → Int) (n wd : Nat) : (tabF F n wd).length = n * wd := by simp [tabF]
theorem row_lt {i k n wd : Nat} (hi : i < n) (hk : k < wd) : i * wd + k < n * wd := by
  have h : (i + 1) * wd ≤ n * wd := Nat.mul_le_mul_right wd (by omega)
  rw [Nat.add_mul, Nat.one_mul] at h
  omega
theorem row_le {i n wd : Nat} (hi : i < n) : i * wd + wd ≤ n * wd := by
  have h : (i + 1) * wd ≤ n * wd := Nat.mul_le_mul_right wd (by omega)
  rwa [Nat.add_mul, Nat.one_mul] at h
theorem div_row {i k wd : Nat} (hk : k < wd) : (i * wd + k) / wd = i := by
  rw [Nat.mul_comm, Nat.mul_add_div (by omega), Nat.div_eq_of_lt hk, Nat.add_zero]
theorem mod_row {i k wd : Nat} (hk : k < wd) : (i * wd + k) % wd = k := by
  rw [Nat.mul_comm, Nat.mul_add_mod, Nat.mod_eq_of_lt hk]
theorem tabF_at (F : Nat → Nat → Int) {n wd i k : Nat} (hi : i < n) (hk : k < wd) : (tabF F n wd)[i * wd + k]? = some (F i k) := by
  have h := row_lt hi hk
  unfold tabF
  rw [List.getElem?_map, List.getElem?_range h]
  simp [div_row hk, mod_row hk]
theorem tabF_congr {F G : Nat → Nat → Int} {n wd : Nat} (h : ∀ i k, i < n → k < wd → F i k = G i k) : tabF F n wd = tabF G n wd := by
  unfold tabF
  apply List.map_congr_left
  intro j hj
  rw [List.mem_range] at hj
  have hw : 0 < wd := by
    rcases Nat.eq_zero_or_pos wd with h0 | h0
    · rw [h0, Nat.mul_zero] at hj; omega
    · exact h0
  exact h _ _ ((Nat.div_lt_iff_lt_mul hw).2 hj) (Nat.mod_lt _ hw)
/-- A row in place of another one. -/
def putRow (F : Nat → Nat → Int) (i : Nat) (R : Nat → Int) : Nat → Nat → Int := fun i' k => if i' = i then R k else F i' k
theorem putRow_at (F : Nat → Nat → Int) (i : Nat) (R : Nat → Int) (k : Nat) : putRow F i R i k = R k := if_pos rfl
theorem putRow_other (F : Nat → Nat → Int) {i i' : Nat} (R : Nat → Int) (k : Nat) (h : i' ≠ i) : putRow F i R i' k = F i' k := if_neg h
theorem eq_row {j i k wd : Nat} (hk : k < wd) : j = i * wd + k ↔ j / wd = i ∧ j % wd = k := by
  constructor
  · rintro rfl
    exact ⟨div_row hk, mod_row hk⟩
  · rintro ⟨rfl, rfl⟩
    rw [Nat.mul_comm]
    exact (Nat.div_add_mod j wd).symm
theorem tabF_set (F : Nat → Nat → Int) {n wd i k : Nat} (R : Nat → Int) (x : Int) (hk : k < wd) : (tabF (putRow F i R) n wd).set (i * wd + k) x = tabF (putRow F i fun k' => if k' = k then x else R k') n wd := by
  apply List.ext_getElem
  · simp [tabF]
  · intro j h1 h2
    have hj : j < n * wd := by simpa [tabF] using h2
    rw [List.getElem_set]
    simp only [tabF, List.getElem_map, List.getElem_range]
    by_cases e : i * wd + k = j
    · obtain ⟨e1, e2⟩ := (eq_row hk).1 e.symm
      rw [if_pos e, e1, e2, putRow_at, if_pos rfl]
    · rw [if_neg e]
      by_cases e1 : j / wd = i
      · rw [e1, putRow_at, putRow_at, if_neg fun e2 => e ((eq_row hk).2 ⟨e1, e2⟩).symm]
      · rw [putRow_other _ _ _ e1, putRow_other _ _ _ e1]
/-- Row i, behind a copy of other numbers. -/
theorem tabF_splice (F : Nat → Nat → Int) {n wd i : Nat} (R : Nat → Int) (hi : i < n) : (tabF F n wd).take (i * wd) ++ ((List.range wd).map R ++ (tabF F n wd).drop (i * wd + wd)) = tabF (putRow F i R) n wd := by
  have hle := row_le (wd := wd) hi
  have hli : i * wd ≤ n * wd := by omega
  apply List.ext_getElem
  · rw [List.length_append, List.length_append, List.length_take, List.length_drop, tabF_len, tabF_len, List.length_map, List.length_range]; omega
  · intro j h1 h2
    have hj : j < n * wd := by simpa [tabF] using h2
    have hR : (tabF (putRow F i R) n wd)[j] = putRow F i R (j / wd) (j % wd) := by simp [tabF]
    rw [hR]
    have hw : 0 < wd := by
      rcases Nat.eq_zero_or_pos wd with h0 | h0
      · rw [h0, Nat.mul_zero] at hj; omega
      · exact h0
    have ht : ((tabF F n wd).take (i * wd)).length = i * wd := by rw [List.length_take, tabF_len]; omega
    by_cases q1 : j < i * wd
    · rw [List.getElem_append_left (by rw [ht]; exact q1), List.getElem_take, putRow_other]
      · simp [tabF]
      · intro e
        have := Nat.div_mul_le_self j wd
        rw [e] at this; omega
    · by_cases q2 : j < i * wd + wd
      · obtain ⟨k, rfl⟩ : ∃ k, j = i * wd + k := ⟨j - i * wd, by omega⟩
        have hk : k < wd := by omega
        rw [List.getElem_append_right (by rw [ht]; omega), List.getElem_append_left (by rw [List.length_map, List.length_range, ht]; omega), div_row hk, mod_row hk, putRow_at]
        simp only [List.getElem_map, List.getElem_range, ht]
        congr 1
        omega
      · have e1 : j / wd ≠ i := fun e => by
          have := Nat.lt_div_mul_add (a := j) hw
          rw [e] at this; omega
        rw [putRow_other _ _ _ e1, List.getElem_append_right (by rw [ht]; omega), List.getElem_append_right (by rw [List.length_map, List.length_range, ht]; omega), List.getElem_drop]
        simp only [List.length_map, List.length_range, ht, show i * wd + wd + (j - i * wd - wd) = j by omega]
        simp [tabF]
/-- The table as far as some states go. -/
def part (l Q : List Tx) (i k : Nat) : Int := match (paths l)[i]? with | some p => if p ∈ Q then nxt l p k else 0 | none => 0
theorem part_in {l Q : List Tx} {i k : Nat} {p : Tx} (h : (paths l)[i]? = some p) (hq : p ∈ Q) : part l Q i k = nxt l p k := by simp [part, h, hq]
theorem part_out {l Q : List Tx} {i k : Nat} {p : Tx} (h : (paths l)[i]? = some p) (hq : p ∉ Q) : part l Q i k = 0 := by simp [part, h, hq]
/-- The whole table. -/
def whole (l : List Tx) (n wd : Nat) : List Int := tabF (fun i k => match (paths l)[i]? with | some p => nxt l p k | none => 0) n wd
theorem part_nil (l : List Tx) (n wd : Nat) : tabF (part l []) n wd = List.replicate (n * wd) 0 := by
  apply List.ext_getElem
  · simp [tabF]
  · intro j h1 h2
    simp only [tabF, List.getElem_map, List.getElem_range, List.getElem_replicate, part]
    split <;> simp
theorem part_all (l : List Tx) (wd : Nat) : tabF (part l (ord (paths l))) (paths l).length wd = whole l (paths l).length wd := by
  refine tabF_congr fun i k hi _ => ?_
  have e := List.getElem?_eq_getElem hi
  rw [part_in e (ord_all (paths_wf l) _ (List.getElem_mem hi))]
  simp only [e]
theorem part_snoc {l Q : List Tx} {i : Nat} {p : Tx} (h : (paths l)[i]? = some p) (n wd : Nat) (R : Nat → Int) (hn : n ≤ (paths l).length) (hR : ∀ k, k < wd → R k = nxt l p k) : tabF (putRow (part l Q) i R) n wd = tabF (part l (Q ++ [p])) n wd := by
  refine tabF_congr fun i' k hi hk => ?_
  by_cases e : i' = i
  · subst e
    rw [putRow_at, part_in h (by simp), hR k hk]
  · rw [putRow_other _ _ _ e]
    have e2 := List.getElem?_eq_getElem (show i' < (paths l).length by omega)
    have hne : (paths l)[i'] ≠ p := fun q => by
      obtain ⟨hi3, e3⟩ := List.getElem?_eq_some_iff.1 h
      have h1 := place_at (paths_wf l).nodup (show i' < (paths l).length by omega)
      have h2 := place_at (paths_wf l).nodup hi3
      rw [q, ← e3, h2] at h1
      omega
    by_cases hq : (paths l)[i'] ∈ Q
    · rw [part_in e2 hq, part_in e2 (List.mem_append_left _ hq)]
    · rw [part_out e2 hq, part_out e2 (by simp [hq, hne])]
theorem part_base {l Q : List Tx} {i : Nat} {p : Tx} (h : (paths l)[i]? = some p) (hq : p ∉ Q) (n wd : Nat) (R : Nat → Int) (hR : ∀ k, R k = 0) : tabF (putRow (part l Q) i R) n wd = tabF (part l Q) n wd := by
  refine tabF_congr fun i' k _ _ => ?_
  by_cases e : i' = i
  · subst e
    rw [putRow_at, part_out h hq, hR]
  · rw [putRow_other _ _ _ e]
/-! The order in which rows are filled. -/
theorem ord_new {ps : List Tx} (hw : Wf ps) {k : Nat} (h : k < (ord ps).length) : (ord ps)[k] ∉ (ord ps).take k := fun hm => by
  obtain ⟨j, hj, e⟩ := List.getElem_of_mem hm
  rw [List.getElem_take] at e
  rw [List.length_take] at hj
  have hn := (inv_bq hw ps.length).nodup
  change (ord ps).Nodup at hn
  exact List.pairwise_iff_getElem.1 hn j k (by omega) h (by omega) e
theorem ord_fall {ps : List Tx} (hw : Wf ps) {k : Nat} (h : k < (ord ps).length) (hn : (ord ps)[k] ≠ []) : fallT ps (ord ps)[k] ∈ (ord ps).take k := by
  have hl := fallT_lt ps hn
  have hm := ord_all hw _ (fallT_mem hw (ord ps)[k])
  obtain ⟨j, hj, e⟩ := List.getElem_of_mem hm
  have hs := (inv_bq hw ps.length).sorted
  change (ord ps).Pairwise _ at hs
  have hjk : j < k := by
    rcases Nat.lt_or_ge j k with h1 | h1
    · exact h1
    · exfalso
      rcases Nat.eq_or_lt_of_le h1 with h2 | h2
      · subst h2; rw [← e] at hl; omega
      · have := List.pairwise_iff_getElem.1 hs k j h hj h2
        rw [e] at this; omega
  rw [← e]
  exact List.mem_take_iff_getElem.2 ⟨j, by omega, rfl⟩
theorem ord_sub {ps : List Tx} (hw : Wf ps) : ∀ p ∈ ord ps, p ∈ ps := (inv_bq hw ps.length).sub
/-! Kids, along a row. -/
theorem kid_stands {l : List Tx} {p : Tx} {c : UInt8} (h : p ++ [c] ∈ paths l) : Cls.stands l c = true := by
  rcases (paths_mem l _).1 h with e | ⟨x, hx, r, e⟩
  · simp at e
  · exact (Cls.stands_iff l c).2 ⟨x, hx, by rw [← e]; simp⟩
theorem kids_rise (l : List Tx) (p : Tx) {a b : Nat} (hb : b < (rkids (paths l) p).length) (h : a < b) : Cls.cls (Cls.stands l) (rkids (paths l) p)[a] < Cls.cls (Cls.stands l) (rkids (paths l) p)[b] := by
  have hr : (rkids (paths l) p).Pairwise fun a b => a.toNat < b.toNat := Cls.upTo_rise (fun c => decide (0 ≤ place (paths l) (p ++ [c]))) 256 (Nat.le_refl _)
  have h1 := List.pairwise_iff_getElem.1 hr a b (by omega) hb h
  exact Cls.cls_lt (kid_stands ((mem_rkids (paths l) p _).1 (List.getElem_mem _))) (kid_stands ((mem_rkids (paths l) p _).1 (List.getElem_mem _))) h1
/-- How far a row's kids have been gone through at class k. -/
def Along (l : List Tx) (p : Tx) (j k : Nat) : Prop := j ≤ (rkids (paths l) p).length ∧ (∀ i (h : i < (rkids (paths l) p).length), i < j → Cls.cls (Cls.stands l) (rkids (paths l) p)[i] < k) ∧ ∀ i (h : i < (rkids (paths l) p).length), j ≤ i → k ≤ Cls.cls (Cls.stands l) (rkids (paths l) p)[i]
theorem Along.start (l : List Tx) (p : Tx) : Along l p 0 0 := ⟨Nat.zero_le _, fun _ _ h => by omega, fun _ _ _ => Nat.zero_le _⟩
/-- The row, as far as class k. -/
def mid (l : List Tx) (p : Tx) (k : Nat) : Nat → Int := fun k' => if k' < k then nxt l p k' else bas l p k'
theorem mid_zero (l : List Tx) (p : Tx) : mid l p 0 = bas l p := by funext k'; simp [mid]
theorem Along.hit {l : List Tx} {p : Tx} {j k : Nat} (h : Along l p j k) (hj : j < (rkids (paths l) p).length) (e : Cls.cls (Cls.stands l) (rkids (paths l) p)[j] = k) : Along l p (j + 1) (k + 1) ∧ (fun k' => if k' = k then place (paths l) (p ++ [(rkids (paths l) p)[j]]) else mid l p k k') = mid l p (k + 1) := by
  refine ⟨⟨by omega, fun i hi hij => ?_, fun i hi hij => ?_⟩, ?_⟩
  · rcases Nat.eq_or_lt_of_le (show i ≤ j by omega) with q | q
    · subst q; omega
    · have := h.2.1 i hi q; omega
  · have := kids_rise l p hi (show j < i by omega)
    omega
  · funext k'
    have hm := nxt_kid l ((mem_rkids (paths l) p _).1 (List.getElem_mem hj))
    rw [e] at hm
    by_cases q : k' = k
    · subst q
      rw [if_pos rfl, mid, if_pos (by omega), hm]
    · rw [if_neg q]
      unfold mid
      by_cases q2 : k' < k
      · rw [if_pos q2, if_pos (by omega)]
      · rw [if_neg q2, if_neg (by omega)]
theorem Along.skip {l : List Tx} {p : Tx} {j k : Nat} (h : Along l p j k) (hj : j < (rkids (paths l) p).length) (e : Cls.cls (Cls.stands l) (rkids (paths l) p)[j] ≠ k) : Along l p j (k + 1) ∧ mid l p k = mid l p (k + 1) := by
  have hk : ∀ i (hi : i < (rkids (paths l) p).length), j ≤ i → k < Cls.cls (Cls.stands l) (rkids (paths l) p)[i] := fun i hi hij => by
    have h0 := h.2.2 j hj (Nat.le_refl _)
    rcases Nat.eq_or_lt_of_le hij with q | q
    · subst q; omega
    · have := kids_rise l p hi q; omega
  refine ⟨⟨h.1, fun i hi hij => by have := h.2.1 i hi hij; omega, fun i hi hij => hk i hi hij⟩, ?_⟩
  have hn : nxt l p k = bas l p k := nxt_fall l fun c hc ec => by
    obtain ⟨i, hi, ei⟩ := List.getElem_of_mem ((mem_rkids (paths l) p c).2 hc)
    rcases Nat.lt_or_ge i j with q | q
    · have := h.2.1 i hi q; rw [ei] at this; omega
    · have := hk i hi q; rw [ei] at this; omega
  funext k'
  unfold mid
  by_cases q : k' = k
  · subst q
    rw [if_neg (by omega), if_pos (by omega), hn]
  · by_cases q2 : k' < k
    · rw [if_pos q2, if_pos (by omega)]
    · rw [if_neg q2, if_neg (by omega)]
theorem Along.done {l : List Tx} {p : Tx} {j k : Nat} (h : Along l p j k) (hj : (rkids (paths l) p).length ≤ j) : ∀ k', mid l p k k' = nxt l p k' := fun k' => by
  unfold mid
  by_cases q : k' < k
  · rw [if_pos q]
  · rw [if_neg q, nxt_fall l fun c hc ec => ?_]
    obtain ⟨i, hi, ei⟩ := List.getElem_of_mem ((mem_rkids (paths l) p c).2 hc)
    have := h.2.1 i hi (by omega)
    rw [ei] at this; omega
theorem mid_full (l : List Tx) (p : Tx) (wd : Nat) : ∀ k', k' < wd → mid l p wd k' = nxt l p k' := fun _ h => if_pos h
end Go.Proofs.Ytnbfdjpmppflmaa.Dfa
