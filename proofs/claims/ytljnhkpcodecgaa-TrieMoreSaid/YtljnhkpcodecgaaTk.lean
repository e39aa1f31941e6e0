/- Mathematics of the statements: unlike texts, texts in another order, more texts. -/
import Derived.Test.YtljnhkpcodecgaaTj
import Derived.Deep.RegionHeld
namespace Go.Proofs.Ytljnhkpcodecgaa.Tri
open Go.RowKit Go.Maps

/-- Texts, each once. -/
def dd (l : List Tx) : List Tx := l.foldl addp []
theorem dd_snoc (l : List Tx) (x : Tx) : dd (l ++ [x]) = addp (dd l) x := by simp [dd, List.foldl_append]
theorem addp_mem (ps : List Tx) (q x : Tx) : x ∈ addp ps q ↔ x ∈ ps ∨ x = q := by
  unfold addp
  split
  · rename_i h; exact ⟨.inl, fun e => e.elim id (fun e => e ▸ h)⟩
  · simp
theorem addp_nodup {ps : List Tx} (h : ps.Nodup) (q : Tx) : (addp ps q).Nodup := by
  unfold addp
  split
  · exact h
  · rename_i hq
    rw [List.nodup_append]
    refine ⟨h, by simp, fun a ha b hb e => ?_⟩
    have : b = q := by simpa using hb
    exact hq (by rw [← this, ← e]; exact ha)
theorem fold_addp (l : List Tx) : ∀ ps : List Tx, ps.Nodup → (l.foldl addp ps).Nodup ∧ ∀ x, x ∈ l.foldl addp ps ↔ x ∈ ps ∨ x ∈ l := by
  induction l with
  | nil => exact fun ps h => ⟨h, fun x => by simp⟩
  | cons y l ih =>
    intro ps h
    obtain ⟨h1, h2⟩ := ih (addp ps y) (addp_nodup h y)
    refine ⟨h1, fun x => ?_⟩
    rw [List.foldl_cons, h2, addp_mem, List.mem_cons]
    constructor
    · rintro ((h | h) | h)
      · exact .inl h
      · exact .inr (.inl h)
      · exact .inr (.inr h)
    · rintro (h | h | h)
      · exact .inl (.inl h)
      · exact .inl (.inr h)
      · exact .inr h
theorem dd_nodup (l : List Tx) : (dd l).Nodup := (fold_addp l [] (by simp)).1
theorem dd_mem (l : List Tx) (x : Tx) : x ∈ dd l ↔ x ∈ l := by rw [dd, (fold_addp l [] (by simp)).2]; simp
theorem dd_len (l : List Tx) : (dd l).length ≤ l.length := List.Nodup.length_le_of_subset (dd_nodup l) (fun x h => (dd_mem l x).1 h)
theorem place_is {l : List Tx} {k : Nat} (h : k < l.length) : place l l[k] = (k : Int) ↔ l[k] ∉ l.take k := by
  constructor
  · intro e hm
    obtain ⟨j, hj, ej⟩ := List.getElem_of_mem hm
    have hj' : j < k := by rw [List.length_take] at hj; omega
    have ex : ∃ j, ∃ hj : j < k, l[j] = l[k] := ⟨j, hj', by rw [List.getElem_take] at ej; exact ej⟩
    obtain ⟨i, hi, e1, e2, e3⟩ := place_mem (List.getElem_mem h)
    have hik : i = k := by omega
    subst hik
    obtain ⟨j, hj, ej⟩ := ex
    have : l.idxOf l[i] ≤ j := by
      rcases Nat.lt_or_ge j (l.idxOf l[i]) with h1 | h1
      · have := List.not_of_lt_findIdx (p := (· == l[i])) (xs := l) (i := j) h1
        simp [ej] at this
      · exact h1
    omega
  · intro hn
    exact place_first h rfl fun j hj e => hn (by
      rw [← e]
      have : j < (l.take k).length := by rw [List.length_take]; omega
      have := List.getElem_mem this
      rwa [List.getElem_take] at this)
theorem dd_new {l : List Tx} {k : Nat} (h : k < l.length) (e : place l l[k] = (k : Int)) : (dd (l.take (k + 1))).length = (dd (l.take k)).length + 1 := by
  rw [List.take_succ_eq_append_getElem h, dd_snoc, addp, if_neg (fun hm => (place_is h).1 e ((dd_mem _ _).1 hm))]
  simp
theorem dd_old {l : List Tx} {k : Nat} (h : k < l.length) (e : place l l[k] ≠ (k : Int)) : (dd (l.take (k + 1))).length = (dd (l.take k)).length := by
  have hm : l[k] ∈ l.take k := Decidable.byContradiction fun hn => e ((place_is h).2 hn)
  rw [List.take_succ_eq_append_getElem h, dd_snoc, addp, if_pos ((dd_mem _ _).2 hm)]
/-- How many of the first k nodes have a text. -/
def hav (ps l : List Tx) (k : Nat) : Nat := ((ps.take k).filter fun p => decide (p ∈ l)).length
theorem hav_le (ps l : List Tx) (k : Nat) : hav ps l k ≤ k := Nat.le_trans (List.length_filter_le _ _) (List.length_take_le _ _)
theorem hav_yes {ps l : List Tx} {k : Nat} (h : k < ps.length) (e : 0 ≤ wordOf ps l (k : Int)) : hav ps l (k + 1) = hav ps l k + 1 := by
  rw [wordOf_at l h, place_nonneg] at e
  unfold hav
  rw [List.take_succ_eq_append_getElem h, List.filter_append, List.length_append]
  simp [e]
theorem hav_no {ps l : List Tx} {k : Nat} (h : k < ps.length) (e : ¬ 0 ≤ wordOf ps l (k : Int)) : hav ps l (k + 1) = hav ps l k := by
  rw [wordOf_at l h, place_nonneg] at e
  unfold hav
  rw [List.take_succ_eq_append_getElem h, List.filter_append, List.length_append]
  simp [e]
theorem hav_all {ps l : List Tx} (h : ps.Nodup) (hl : ∀ x ∈ l, x ∈ ps) : hav ps l ps.length = (dd l).length := by
  unfold hav
  rw [List.take_length]
  apply List.Perm.length_eq
  rw [List.perm_ext_iff_of_nodup (List.Nodup.sublist List.filter_sublist h) (dd_nodup l)]
  intro x
  rw [List.mem_filter, dd_mem]
  simp only [decide_eq_true_eq]
  exact ⟨fun h => h.2, fun h => ⟨hl x h, h⟩⟩
/-- The same texts, in another order: the same beginnings. -/
theorem paths_same {l o : List Tx} (h : ∀ x, x ∈ o ↔ x ∈ l) (p : Tx) : p ∈ paths o ↔ p ∈ paths l := by
  rw [paths_mem, paths_mem]
  exact or_congr Iff.rfl ⟨fun ⟨x, hx, r⟩ => ⟨x, (h x).1 hx, r⟩, fun ⟨x, hx, r⟩ => ⟨x, (h x).2 hx, r⟩⟩
theorem paths_same_len {l o : List Tx} (h : ∀ x, x ∈ o ↔ x ∈ l) : (paths o).length = (paths l).length :=
  List.Perm.length_eq ((List.perm_ext_iff_of_nodup (paths_wf o).nodup (paths_wf l).nodup).2 (paths_same h))
theorem kidsTo_congr {f g : UInt8 → Bool} (h : ∀ c, f c = g c) (k : Nat) : kidsTo f k = kidsTo g k := by
  obtain rfl : f = g := funext h
  rfl
theorem kids_same {ps po : List Tx} (h : ∀ p, p ∈ po ↔ p ∈ ps) {k j : Nat} (hk : k < ps.length) (hj : j < po.length) (e : po[j] = ps[k]) : kidsOf po (j : Int) = kidsOf ps (k : Int) := by
  unfold kidsOf
  apply kidsTo_congr
  intro c
  rw [stepOf_at hk, stepOf_at hj, e]
  exact decide_eq_decide.2 (by rw [place_nonneg, place_nonneg, h])
theorem kids_ref {ps : List Tx} {k : Nat} (hk : k < ps.length) : rkids ps ps[k] = kidsOf ps (k : Int) := by
  unfold rkids kidsOf
  apply kidsTo_congr
  intro c
  rw [stepOf_at hk]
theorem kids_out {ps : List Tx} {n : Int} (h : ¬ (0 ≤ n ∧ n < ps.length)) : kidsOf ps n = [] := by
  have : kidsOf ps n = kidsTo (fun _ => false) 256 := by
    unfold kidsOf
    apply kidsTo_congr
    intro c
    rw [stepOf, pathOf_none h]
    rfl
  rw [this]
  simp [kidsTo]
theorem out_all {ps : List Tx} (l : List Tx) {n : Int} (h : ¬ (0 ≤ n ∧ n < ps.length)) : pathD ps n = [] ∧ upOf ps n = -1 ∧ wordOf ps l n = -1 ∧ ∀ c, stepOf ps n c = -1 := by
  refine ⟨?_, ?_, ?_, fun c => ?_⟩
  · rw [pathD, pathOf_none h]; rfl
  · rw [upOf, pathOf_none h]
  · rw [wordOf, pathOf_none h]
  · rw [stepOf, pathOf_none h]
/-- More texts behind. -/
theorem more_up {ps z : List Tx} (h : Wf ps) {k : Nat} (hk : k < ps.length) : upOf (ps ++ z) (k : Int) = upOf ps (k : Int) := by
  rw [upOf_at hk, upOf_at (by rw [List.length_append]; omega), List.getElem_append_left hk]
  split
  · rfl
  · rename_i hn
    rw [place_left _ (h.closed_drop (List.getElem_mem hk) hn)]
theorem more_path {ps z : List Tx} {k : Nat} (hk : k < ps.length) : pathD (ps ++ z) (k : Int) = pathD ps (k : Int) := by
  rw [pathD_at hk, pathD_at (by rw [List.length_append]; omega), List.getElem_append_left hk]
theorem more_word {ps z l m : List Tx} {k : Nat} (hk : k < ps.length) : (0 ≤ wordOf ps l (k : Int) ∧ wordOf (ps ++ z) (l ++ m) (k : Int) = wordOf ps l (k : Int)) ∨
    (wordOf ps l (k : Int) < 0 ∧ (wordOf (ps ++ z) (l ++ m) (k : Int) < 0 ∨ (0 ≤ wordOf (ps ++ z) (l ++ m) (k : Int) ∧ (l.length : Int) ≤ wordOf (ps ++ z) (l ++ m) (k : Int)))) := by
  rw [wordOf_at l hk, wordOf_at (l ++ m) (by rw [List.length_append]; omega), List.getElem_append_left hk]
  by_cases hm : ps[k] ∈ l
  · exact .inl ⟨(place_nonneg _ _).2 hm, place_left _ hm⟩
  · refine .inr ⟨(place_neg _ _).2 hm, ?_⟩
    by_cases hm2 : ps[k] ∈ m
    · refine .inr ?_
      rw [place_right hm hm2]
      have := (place_nonneg _ _).2 hm2
      omega
    · refine .inl ?_
      rw [place_neg, List.mem_append]
      exact fun e => e.elim hm hm2
/-- Texts turned by so many, up to k of them. -/
def rot {α : Type} (xs : List α) (d : α) (turn k : Nat) : List α := (List.range k).map fun i => xs.getD ((i + turn) % xs.length) d
theorem rot_succ {α : Type} (xs : List α) (d : α) (turn k : Nat) (h : (k + turn) % xs.length < xs.length) : rot xs d turn (k + 1) = rot xs d turn k ++ [xs[(k + turn) % xs.length]] := by
  unfold rot
  rw [List.range_succ, List.map_append]
  simp [List.getD, h]
theorem rot_length {α : Type} (xs : List α) (d : α) (turn k : Nat) : (rot xs d turn k).length = k := by simp [rot]
theorem rot_mem {α : Type} (xs : List α) (d : α) (turn : Nat) (h : 0 < xs.length) (x : α) : x ∈ rot xs d turn xs.length ↔ x ∈ xs := by
  unfold rot
  rw [List.mem_map]
  constructor
  · rintro ⟨i, _, rfl⟩
    have := Nat.mod_lt (i + turn) h
    simp only [List.getD, List.getElem?_eq_getElem this, Option.getD_some]
    exact List.getElem_mem _
  · intro hx
    obtain ⟨j, hj, rfl⟩ := List.getElem_of_mem hx
    refine ⟨(j + (xs.length - turn % xs.length)) % xs.length, List.mem_range.2 (Nat.mod_lt _ h), ?_⟩
    have e : ((j + (xs.length - turn % xs.length)) % xs.length + turn) % xs.length = j := by
      have h1 := Nat.mod_lt turn h
      have h2 : (j + (xs.length - turn % xs.length)) + turn = j + xs.length * (1 + turn / xs.length) := by
        have := Nat.div_add_mod turn xs.length
        rw [Nat.mul_add, Nat.mul_one]
        omega
      rw [Nat.mod_add_mod, h2, Nat.add_mul_mod_self_left, Nat.mod_eq_of_lt hj]
    rw [e]
    simp [List.getD, hj]
/-- An operation that yields in every world that meets S, taken first; its slot is named. -/
theorem held_take {P : Program} {md : Region.Mode} {ops : Array Oper} {Q : Exit → Act → World → Prop} {S : World → Prop} {i d : Nat} {oi : Oper} {v : Value} {fuel : Nat} {listed : Array Bool} {a : Act} {w : World} (hi : ops[i]? = some oi) (hd : oi.dst = some d)
    (hs : Region.noSelect ops = true) (hf : Region.free md ops listed i = true) (hr : (Region.ready md ops listed).contains i = true)
    (hQ : ∀ c a w, Q (.panic c) (a.put (some d) v) w → Q (.panic c) a w) (hy : YieldsIf P ops S oi v a) (hS : S w)
    (h : wpAnyH P md ops Q S fuel (listed.setIfInBounds i true) (a.put (some d) v) w) : wpAnyH P md ops Q S (fuel + 1) listed a w :=
  wpAnyH_take hi hs hf hr (by rw [hd]; exact hQ) hy hS (by rw [hd]; exact h)
/-- What goes on under more goes on under less. -/
theorem wpAnyH_more {P : Program} {md : Region.Mode} {ops : Array Oper} {Q : Exit → Act → World → Prop} {S S' : World → Prop} (hS : ∀ w, S' w → S w) : ∀ (fuel : Nat) (listed : Array Bool) (a : Act) (w : World), wpAnyH P md ops Q S' fuel listed a w → wpAnyH P md ops Q S fuel listed a w
  | 0, _, _, _, h => h
  | fuel + 1, _, _, _, h => ⟨h.1, fun i hi => wpOp_mono (fun a' w' h' => ⟨hS w' h'.1, wpAnyH_more hS fuel _ a' w' h'.2⟩) (h.2 i hi)⟩
end Go.Proofs.Ytljnhkpcodecgaa.Tri
