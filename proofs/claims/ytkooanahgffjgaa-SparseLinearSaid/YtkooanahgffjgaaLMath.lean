/- Falls: the longest shorter end that is a beginning, the next one that is a text, the texts that are ends; the order by depth. -/
import Derived.Test.YtkooanahgffjgaaTc
import Derived.Test.YtkooanahgffjgaaTh
namespace Go.Proofs.Ytkooanahgffjgaa.Lnk
open Go.Proofs.Ytkooanahgffjgaa.Tri
set_option maxRecDepth 100000

/-- Where a beginning falls to. -/
def failOf (ps : List Tx) : Tx → Int
  | [] => -1
  | _ :: p => if p ∈ ps then place ps p else failOf ps p
/-- The next beginning, by falls, that is a text. -/
def outOf (ps l : List Tx) : Tx → Int
  | [] => -1
  | _ :: p => if p ≠ [] ∧ p ∈ l then place ps p else outOf ps l p
/-- The lengths of the ends that are texts. -/
def endsOf (l : List Tx) : Tx → List Int
  | [] => []
  | c :: p => if c :: p ∈ l then ((p.length : Int) + 1) :: endsOf l p else endsOf l p
/-- A text's own length. -/
def own (l : List Tx) (p : Tx) : Nat := if p ∈ l then p.length else 0
/-- Those of the shorter ends alone. -/
def tailE (l : List Tx) : Tx → List Int
  | [] => []
  | _ :: p => endsOf l p
theorem own_nil (l : List Tx) : own l [] = 0 := by unfold own; split <;> rfl
theorem own_pos {l : List Tx} {p : Tx} : 0 < own l p ↔ p ≠ [] ∧ p ∈ l := by
  unfold own
  split
  · rename_i h; rw [List.length_pos_iff]; exact ⟨fun e => ⟨e, h⟩, fun e => e.1⟩
  · rename_i h; exact ⟨fun e => absurd e (by omega), fun e => absurd e.2 h⟩
theorem own_le (l : List Tx) (p : Tx) : own l p ≤ p.length := by unfold own; split <;> omega
theorem ends_split (l : List Tx) (p : Tx) : endsOf l p = (if 0 < own l p then [(own l p : Int)] else []) ++ tailE l p := by
  cases p with
  | nil => simp [endsOf, tailE, own_nil]
  | cons c p =>
    unfold endsOf tailE own
    split
    · rename_i h; simp
    · rename_i h; simp
/-- A fall, one end at a time. -/
theorem fail_step {ps : List Tx} (hw : Wf ps) : ∀ z : Tx, z ≠ [] → ∃ u z', z = u ++ z' ∧ u ≠ [] ∧ z' ∈ ps ∧ z'.length < z.length ∧ failOf ps z = place ps z' ∧
    (∀ c, failOf ps (z ++ [c]) = if z' ++ [c] ∈ ps then place ps (z' ++ [c]) else failOf ps (z' ++ [c])) ∧
    (∀ l, (∀ x ∈ l, x ∈ ps) → outOf ps l z = if 0 < own l z' then place ps z' else outOf ps l z') ∧
    (∀ n, 0 < n → n < u.length → z.drop n ∉ ps)
  | [], h => absurd rfl h
  | x :: y, _ => by
    by_cases hy : y ∈ ps
    · refine ⟨[x], y, rfl, by simp, hy, by simp, by rw [failOf, if_pos hy], fun c => by rw [List.cons_append, failOf], fun l _ => ?_, fun n h0 h1 => by simp at h1; omega⟩
      rw [outOf]
      by_cases ho : y ≠ [] ∧ y ∈ l
      · rw [if_pos ho, if_pos (own_pos.2 ho)]
      · rw [if_neg ho, if_neg (fun e => ho (own_pos.1 e))]
    · have hn : y ≠ [] := fun e => hy (by rw [e]; exact hw.nil_mem)
      obtain ⟨u, z', e, hu, h1, h2, h3, h4, h5, h6⟩ := fail_step hw y hn
      refine ⟨x :: u, z', by rw [e]; rfl, by simp, h1, by simp; omega, by rw [failOf, if_neg hy, h3], fun c => ?_, fun l hl => ?_, fun n h0 h7 => ?_⟩
      · rw [List.cons_append, failOf, if_neg (fun e => hy (hw.closed e)), h4]
      · rw [outOf, if_neg (fun e => hy (hl _ e.2)), h5 l hl]
      · cases n with
        | zero => omega
        | succ n =>
          rw [List.drop_succ_cons]
          rcases Nat.eq_zero_or_pos n with h8 | h8
          · rw [h8, List.drop_zero]; exact hy
          · exact h6 n h8 (by simpa using h7)
theorem fail_nil (ps : List Tx) : failOf ps [] = -1 := rfl
theorem place_nil {ps : List Tx} (hw : Wf ps) : place ps [] = 0 := by
  rw [place_first (k := 0) hw.pos hw.at0 (fun j hj => by omega)]; rfl
theorem fail_one {ps : List Tx} (hw : Wf ps) (c : UInt8) : failOf ps [c] = 0 := by
  rw [failOf, if_pos hw.nil_mem, place_nil hw]
theorem fail_ge (ps : List Tx) : ∀ z, -1 ≤ failOf ps z
  | [] => by rw [fail_nil]; omega
  | _ :: p => by
    rw [failOf]; split
    · exact place_ge _ _
    · exact fail_ge ps p
theorem fail_lt (ps : List Tx) : ∀ z, failOf ps z < ps.length
  | [] => by rw [fail_nil]; omega
  | _ :: p => by
    rw [failOf]; split
    · exact place_lt _ _
    · exact fail_lt ps p
/-- The next text, and what ends in it. -/
theorem out_split {ps l : List Tx} (hl : ∀ x ∈ l, x ∈ ps) : ∀ p : Tx, (outOf ps l p = -1 ∧ tailE l p = []) ∨
    ∃ z, z ∈ l ∧ z ≠ [] ∧ z ∈ ps ∧ z.length < p.length ∧ outOf ps l p = place ps z ∧ tailE l p = endsOf l z ∧ (own l z : Int) = z.length
  | [] => .inl ⟨rfl, rfl⟩
  | x :: p => by
    rw [outOf]
    by_cases h : p ≠ [] ∧ p ∈ l
    · rw [if_pos h]
      exact .inr ⟨p, h.2, h.1, hl _ h.2, by simp, rfl, rfl, by rw [own, if_pos h.2]⟩
    · rw [if_neg h]
      have e : tailE l (x :: p) = tailE l p := by
        show endsOf l p = _
        rw [ends_split, if_neg (fun e => h (own_pos.1 e))]
        rfl
      rw [e]
      rcases out_split hl p with h1 | ⟨z, h1, h2, h3, h4, h5⟩
      · exact .inl h1
      · exact .inr ⟨z, h1, h2, h3, by simp; omega, h5⟩
theorem out_ge (ps l : List Tx) : ∀ z, -1 ≤ outOf ps l z
  | [] => by rw [outOf]; omega
  | _ :: p => by
    rw [outOf]; split
    · exact place_ge _ _
    · exact out_ge ps l p
theorem out_lt (ps l : List Tx) : ∀ z, outOf ps l z < ps.length
  | [] => by rw [outOf]; omega
  | _ :: p => by
    rw [outOf]; split
    · exact place_lt _ _
    · exact out_lt ps l p
/-- What is kept of a node. -/
structure Lk where
  fail : Int
  out : Int
  own : Nat
def lkOf (ps l : List Tx) (p : Tx) : Lk := ⟨failOf ps p, outOf ps l p, own l p⟩
/-- While the order grows: those in it have their links. -/
def lks (ps l Q : List Tx) : List Lk := ps.map fun p => if p ∈ Q then lkOf ps l p else ⟨0, 0, 0⟩
theorem lks_length (ps l Q : List Tx) : (lks ps l Q).length = ps.length := by simp [lks]
theorem lks_at (ps l Q : List Tx) (i : Nat) (h : i < ps.length) : (lks ps l Q)[i]'(by rw [lks_length]; exact h) = if ps[i] ∈ Q then lkOf ps l ps[i] else ⟨0, 0, 0⟩ := by simp [lks]
theorem lks_snoc {ps : List Tx} (hw : Wf ps) (l Q : List Tx) {i : Nat} (hi : i < ps.length) : lks ps l (Q ++ [ps[i]]) = (lks ps l Q).set i (lkOf ps l ps[i]) := by
  apply List.ext_getElem
  · simp [lks]
  · intro j h1 h2
    rw [lks_length] at h1
    rw [List.getElem_set, lks_at _ _ _ j h1, lks_at _ _ _ j h1]
    by_cases e : i = j
    · subst e; simp
    · have hne : ps[j] ≠ ps[i] := fun q => e (nd_inj hw.nodup q).symm
      simp [hne, e]
theorem lks_all {ps l Q : List Tx} (h : ∀ p ∈ ps, p ∈ Q) : lks ps l Q = ps.map (lkOf ps l) := by
  unfold lks
  apply List.map_congr_left
  intro p hp
  rw [if_pos (h p hp)]
theorem lks_root {ps : List Tx} (hw : Wf ps) (l : List Tx) : lks ps l [[]] = (List.replicate ps.length ⟨0, 0, 0⟩).set 0 ⟨-1, -1, 0⟩ := by
  apply List.ext_getElem
  · simp [lks]
  · intro j h1 h2
    rw [lks_length] at h1
    rw [List.getElem_set, lks_at _ _ _ j h1]
    by_cases e : 0 = j
    · subst e
      simp [hw.at0, lkOf, failOf, outOf, own_nil]
    · have hne : ps[j] ≠ [] := fun q => e ((hw.nil_iff h1).1 q).symm
      simp [hne, e]
/-- The beginnings to which a beginning's bytes lead. -/
def kidsT (ps : List Tx) (p : Tx) : List Tx := (rkids ps p).map fun c => p ++ [c]
theorem mem_kidsTo (f : UInt8 → Bool) (c : UInt8) : c ∈ kidsTo f 256 ↔ f c = true := by
  unfold kidsTo
  rw [List.mem_filter]
  refine ⟨fun h => h.2, fun h => ⟨List.mem_map.2 ⟨c.toNat, List.mem_range.2 c.toNat_lt, by simp⟩, h⟩⟩
theorem nodup_kidsTo (f : UInt8 → Bool) : (kidsTo f 256).Nodup := by
  unfold kidsTo
  apply List.Pairwise.filter
  rw [List.pairwise_map]
  refine List.Pairwise.imp_of_mem ?_ List.nodup_range
  intro a b ha hb hne e
  have h1 := List.mem_range.1 ha
  have h2 := List.mem_range.1 hb
  apply hne
  have e2 := congrArg UInt8.toNat e
  rw [UInt8.toNat_ofNat', UInt8.toNat_ofNat'] at e2
  omega
theorem mem_rkids (ps : List Tx) (p : Tx) (c : UInt8) : c ∈ rkids ps p ↔ p ++ [c] ∈ ps := by
  unfold rkids
  rw [mem_kidsTo, decide_eq_true_iff, place_nonneg]
theorem kids_eq {ps : List Tx} {p : Tx} (h : p ∈ ps) : kidsOf ps (place ps p) = rkids ps p := by
  obtain ⟨i, hi, e, e2, _⟩ := place_mem h
  unfold kidsOf rkids
  congr 1
  funext c
  rw [e, stepOf_at hi, e2]
theorem step_eq {ps : List Tx} {p : Tx} (h : p ∈ ps) (c : UInt8) : stepOf ps (place ps p) c = place ps (p ++ [c]) := by
  obtain ⟨i, hi, e, e2, _⟩ := place_mem h
  rw [e, stepOf_at hi, e2]
theorem mem_kidsT (ps : List Tx) (p q : Tx) : q ∈ kidsT ps p ↔ q ∈ ps ∧ ∃ c, q = p ++ [c] := by
  unfold kidsT
  rw [List.mem_map]
  constructor
  · rintro ⟨c, hc, rfl⟩; exact ⟨(mem_rkids _ _ _).1 hc, c, rfl⟩
  · rintro ⟨h, c, rfl⟩; exact ⟨c, (mem_rkids _ _ _).2 h, rfl⟩
theorem nodup_kidsT (ps : List Tx) (p : Tx) : (kidsT ps p).Nodup := by
  unfold kidsT
  rw [List.Nodup, List.pairwise_map]
  exact List.Pairwise.imp (fun hne e => hne (by simpa using e)) (nodup_kidsTo _)
/-- The order, when i nodes have been gone through. -/
def bq (ps : List Tx) : Nat → List Tx
  | 0 => [[]]
  | i + 1 => bq ps i ++ (match (bq ps i)[i]? with | some p => kidsT ps p | none => [])
theorem bq_succ {ps : List Tx} {i : Nat} (h : i < (bq ps i).length) : bq ps (i + 1) = bq ps i ++ kidsT ps (bq ps i)[i] := by
  rw [bq, List.getElem?_eq_getElem h]
theorem bq_stop {ps : List Tx} {i : Nat} (h : (bq ps i).length ≤ i) : bq ps (i + 1) = bq ps i := by
  rw [bq, List.getElem?_eq_none h, List.append_nil]
theorem bq_more (ps : List Tx) (i : Nat) : ∀ k, ∃ m, bq ps (i + k) = bq ps i ++ m
  | 0 => ⟨[], by simp⟩
  | k + 1 => by
    obtain ⟨m, e⟩ := bq_more ps i k
    rw [← Nat.add_assoc, bq, e, List.append_assoc]
    exact ⟨_, rfl⟩
theorem bq_const {ps : List Tx} {i : Nat} (h : (bq ps i).length ≤ i) : ∀ k, bq ps (i + k) = bq ps i
  | 0 => rfl
  | k + 1 => by
    have := bq_const h k
    rw [← Nat.add_assoc, bq_stop (by rw [this]; omega), this]
structure Inv (ps : List Tx) (i : Nat) (Q : List Tx) : Prop where
  nodup : Q.Nodup
  sub : ∀ p ∈ Q, p ∈ ps
  root : [] ∈ Q
  up : ∀ p ∈ Q, p = [] ∨ ∃ k, ∃ h : k < Q.length, k < i ∧ ∃ c, p = Q[k] ++ [c]
  down : ∀ k (h : k < Q.length), k < i → ∀ c, Q[k] ++ [c] ∈ ps → Q[k] ++ [c] ∈ Q
  sorted : Q.Pairwise fun a b => a.length ≤ b.length
theorem Inv.le {ps : List Tx} {i : Nat} {Q : List Tx} (h : Inv ps i Q) (hi : i < Q.length) : ∀ p ∈ Q, p.length ≤ Q[i].length + 1 := by
  intro p hp
  rcases h.up p hp with rfl | ⟨k, hk, hki, c, rfl⟩
  · simp
  · have := List.pairwise_iff_getElem.1 h.sorted k i hk hi hki
    simp; omega
theorem inv_bq {ps : List Tx} (hw : Wf ps) : ∀ i, Inv ps i (bq ps i)
  | 0 => by
    refine ⟨by simp [bq], fun p hp => ?_, by simp [bq], fun p hp => .inl (by simpa [bq] using hp), fun k _ hk => by omega, by simp [bq]⟩
    obtain rfl : p = [] := by simpa [bq] using hp
    exact hw.nil_mem
  | i + 1 => by
    have h := inv_bq hw i
    by_cases hi : i < (bq ps i).length
    · rw [bq_succ hi]
      have hle := h.le hi
      generalize bq ps i = Q at *
      have hnew : ∀ c, Q[i] ++ [c] ∉ Q := fun c hc => by
        rcases h.up _ hc with e | ⟨k, hk, hki, d, e⟩
        · simp at e
        · obtain ⟨e1, _⟩ := List.append_inj' e rfl
          have h1 := nd_inj h.nodup e1
          omega
      refine ⟨?_, ?_, ?_, ?_, ?_, ?_⟩
      · rw [List.nodup_append]
        refine ⟨h.nodup, nodup_kidsT _ _, fun a ha b hb e => ?_⟩
        obtain ⟨_, c, rfl⟩ := (mem_kidsT _ _ _).1 hb
        exact hnew c (e ▸ ha)
      · intro p hp
        rcases List.mem_append.1 hp with hp | hp
        · exact h.sub p hp
        · exact ((mem_kidsT _ _ _).1 hp).1
      · exact List.mem_append_left _ h.root
      · intro p hp
        rcases List.mem_append.1 hp with hp | hp
        · rcases h.up p hp with e | ⟨k, hk, hki, c, e⟩
          · exact .inl e
          · exact .inr ⟨k, by simp; omega, by omega, c, by rw [List.getElem_append_left hk]; exact e⟩
        · obtain ⟨_, c, e⟩ := (mem_kidsT _ _ _).1 hp
          exact .inr ⟨i, by simp; omega, by omega, c, by rw [List.getElem_append_left hi]; exact e⟩
      · intro k hk hki c hc
        by_cases hki2 : k < i
        · rw [List.getElem_append_left (by omega)] at hc ⊢
          exact List.mem_append_left _ (h.down k (by omega) hki2 c hc)
        · obtain rfl : k = i := by omega
          rw [List.getElem_append_left hi] at hc ⊢
          exact List.mem_append_right _ ((mem_kidsT _ _ _).2 ⟨hc, c, rfl⟩)
      · rw [List.pairwise_append]
        refine ⟨h.sorted, ?_, fun a ha b hb => ?_⟩
        · refine List.Pairwise.imp_of_mem (R := fun _ _ => True) ?_ (List.pairwise_iff_getElem.2 fun _ _ _ _ _ => trivial)
          intro a b ha hb _
          obtain ⟨_, c, rfl⟩ := (mem_kidsT _ _ _).1 ha
          obtain ⟨_, d, rfl⟩ := (mem_kidsT _ _ _).1 hb
          simp
        · obtain ⟨_, d, rfl⟩ := (mem_kidsT _ _ _).1 hb
          have := hle a ha
          simpa using this
    · rw [bq_stop (by omega)]
      refine ⟨h.nodup, h.sub, h.root, fun p hp => ?_, fun k hk _ => h.down k hk (by omega), h.sorted⟩
      rcases h.up p hp with e | ⟨k, hk, hki, r⟩
      · exact .inl e
      · exact .inr ⟨k, hk, by omega, r⟩
theorem nodup_len : ∀ (Q ps : List Tx), Q.Nodup → (∀ p ∈ Q, p ∈ ps) → Q.length ≤ ps.length
  | [], _, _, _ => by simp
  | p :: Q, ps, hd, hs => by
    rw [List.nodup_cons] at hd
    have h1 := nodup_len Q (ps.erase p) hd.2 fun q hq => by
      have hne : q ≠ p := fun e => hd.1 (e ▸ hq)
      exact (List.mem_erase_of_ne hne).2 (hs q (by simp [hq]))
    have h2 : p ∈ ps := hs p (by simp)
    rw [List.length_erase_of_mem h2] at h1
    have h3 : 0 < ps.length := List.length_pos_of_mem h2
    simp; omega
theorem bq_len {ps : List Tx} (hw : Wf ps) (i : Nat) : (bq ps i).length ≤ ps.length := nodup_len _ _ (inv_bq hw i).nodup (inv_bq hw i).sub
/-- All that is not deeper than the node at hand is in the order. -/
theorem Inv.shallow {ps : List Tx} (hw : Wf ps) {i : Nat} {Q : List Tx} (h : Inv ps i Q) (hi : i < Q.length) : ∀ (n : Nat) (p : Tx), p.length = n → n ≤ Q[i].length → p ∈ ps → p ∈ Q
  | 0, p, hn, _, _ => by
    obtain rfl : p = [] := List.eq_nil_of_length_eq_zero hn
    exact h.root
  | n + 1, p, hn, hle, hp => by
    have hne : p ≠ [] := fun e => by rw [e] at hn; simp at hn
    have hd := h.shallow hw hi n p.dropLast (by simp; omega) (by omega) (hw.closed_drop hp hne)
    obtain ⟨k, hk, e⟩ := List.getElem_of_mem hd
    have hki : k < i := by
      rcases Nat.lt_or_ge k i with h1 | h1
      · exact h1
      · exfalso
        have hl : Q[k].length = n := by rw [e]; simp; omega
        rcases Nat.eq_or_lt_of_le h1 with h2 | h2
        · subst h2; omega
        · have := List.pairwise_iff_getElem.1 h.sorted i k hi hk h2
          omega
    have e2 : Q[k] ++ [p.getLast hne] = p := by rw [e]; exact List.dropLast_concat_getLast hne
    have := h.down k hk hki (p.getLast hne) (by rw [e2]; exact hp)
    rwa [e2] at this
/-- When all have been gone through, all are in the order. -/
theorem Inv.all {ps : List Tx} (hw : Wf ps) {i : Nat} {Q : List Tx} (h : Inv ps i Q) (hi : Q.length ≤ i) : ∀ (n : Nat) (p : Tx), p.length = n → p ∈ ps → p ∈ Q
  | 0, p, hn, _ => by
    obtain rfl : p = [] := List.eq_nil_of_length_eq_zero hn
    exact h.root
  | n + 1, p, hn, hp => by
    have hne : p ≠ [] := fun e => by rw [e] at hn; simp at hn
    have hd := h.all hw hi n p.dropLast (by simp; omega) (hw.closed_drop hp hne)
    obtain ⟨k, hk, e⟩ := List.getElem_of_mem hd
    have e2 : Q[k] ++ [p.getLast hne] = p := by rw [e]; exact List.dropLast_concat_getLast hne
    have := h.down k hk (by omega) (p.getLast hne) (by rw [e2]; exact hp)
    rwa [e2] at this
/-- The whole order. -/
def ord (ps : List Tx) : List Tx := bq ps ps.length
theorem ord_all {ps : List Tx} (hw : Wf ps) : ∀ p ∈ ps, p ∈ ord ps := fun p hp => (inv_bq hw ps.length).all hw (bq_len hw _) _ p rfl hp
theorem ord_len {ps : List Tx} (hw : Wf ps) : (ord ps).length = ps.length :=
  Nat.le_antisymm (bq_len hw _) (nodup_len _ _ hw.nodup (ord_all hw))
theorem ord_of_end {ps : List Tx} {i : Nat} (h : (bq ps i).length ≤ i) (hi : i ≤ ps.length) : bq ps i = ord ps := by
  have := bq_const h (ps.length - i)
  rw [← this, ord]
  congr 1
  omega
/-- As many as there are nodes: that's the whole order. -/
theorem ord_of_full {ps : List Tx} (hw : Wf ps) {i q : Nat} (hi : i < (bq ps i).length) (h : (bq ps i ++ (kidsT ps (bq ps i)[i]).take q).length = ps.length) : bq ps i ++ (kidsT ps (bq ps i)[i]).take q = ord ps := by
  have hil : i + 1 ≤ ps.length := Nat.lt_of_lt_of_le hi (bq_len hw i)
  obtain ⟨m, e⟩ := bq_more ps (i + 1) (ps.length - (i + 1))
  rw [show i + 1 + (ps.length - (i + 1)) = ps.length by omega, bq_succ hi, ← List.take_append_drop q (kidsT ps (bq ps i)[i]), ← List.append_assoc, List.append_assoc] at e
  have hl := ord_len hw
  unfold ord at hl ⊢
  rw [e, List.length_append, h] at hl
  rw [e, List.eq_nil_of_length_eq_zero (l := List.drop q (kidsT ps (bq ps i)[i]) ++ m) (by omega), List.append_nil]
end Go.Proofs.Ytkooanahgffjgaa.Lnk
