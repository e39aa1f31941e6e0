/- Package by package: LMath LBase La Lb Lc Ld Le Lf Lg Lh. -/
import Derived.Test.YtcbhjhhajeeimaaGreatGB
import Derived.Test.YtcbhjhhajeeimaaGreatGT
import Derived.WalkMore
/- Falls: the longest shorter end that is a beginning, the next one that is a text, the texts that are ends; the order by depth. -/
namespace Go.Proofs.YtcbhjhhajeeimaaGreat.Lnk
open Go.Proofs.YtcbhjhhajeeimaaGreat.Tri
set_option maxRecDepth 100000

/-- Where a beginning falls to. -/
def failOf (ps : List Tx) : Tx → Int
  | [] => -1
  | _ :: p => if p ∈ ps then place ps p else failOf ps p
/-- The next beginning, by falls, that is a text. -/
def outOf (ps l : List Tx) : Tx → Int
  | [] => -1
  | _ :: p => if p ≠ [] ∧ p ∈ l then place ps p else outOf ps l p
/-- The lengths of the ends that are texts. -/
def endsOf (l : List Tx) : Tx → List Int
  | [] => []
  | c :: p => if c :: p ∈ l then ((p.length : Int) + 1) :: endsOf l p else endsOf l p
/-- A text's own length. -/
def own (l : List Tx) (p : Tx) : Nat := if p ∈ l then p.length else 0
/-- Those of the shorter ends alone. -/
def tailE (l : List Tx) : Tx → List Int
  | [] => []
  | _ :: p => endsOf l p
theorem own_nil (l : List Tx) : own l [] = 0 := by unfold own; split <;> rfl
theorem own_pos {l : List Tx} {p : Tx} : 0 < own l p ↔ p ≠ [] ∧ p ∈ l := by
  unfold own
  split
  · rename_i h; rw [List.length_pos_iff]; exact ⟨fun e => ⟨e, h⟩, fun e => e.1⟩
  · rename_i h; exact ⟨fun e => absurd e (by omega), fun e => absurd e.2 h⟩
theorem own_le (l : List Tx) (p : Tx) : own l p ≤ p.length := by unfold own; split <;> omega
theorem ends_split (l : List Tx) (p : Tx) : endsOf l p = (if 0 < own l p then [(own l p : Int)] else []) ++ tailE l p := by
  cases p with
  | nil => simp [endsOf, tailE, own_nil]
  | cons c p =>
    unfold endsOf tailE own
    split
    · rename_i h; simp
    · rename_i h; simp
/-- A fall, one end at a time. -/
theorem fail_step {ps : List Tx} (hw : Wf ps) : ∀ z : Tx, z ≠ [] → ∃ u z', z = u ++ z' ∧ u ≠ [] ∧ z' ∈ ps ∧ z'.length < z.length ∧ failOf ps z = place ps z' ∧
    (∀ c, failOf ps (z ++ [c]) = if z' ++ [c] ∈ ps then place ps (z' ++ [c]) else failOf ps (z' ++ [c])) ∧
    (∀ l, (∀ x ∈ l, x ∈ ps) → outOf ps l z = if 0 < own l z' then place ps z' else outOf ps l z') ∧
    (∀ n, 0 < n → n < u.length → z.drop n ∉ ps)
  | [], h => absurd rfl h
  | x :: y, _ => by
    by_cases hy : y ∈ ps
    · refine ⟨[x], y, rfl, by simp, hy, by simp, by rw [failOf, if_pos hy], fun c => by rw [List.cons_append, failOf], fun l _ => ?_, fun n h0 h1 => by simp at h1; omega⟩
      rw [outOf]
      by_cases ho : y ≠ [] ∧ y ∈ l
      · rw [if_pos ho, if_pos (own_pos.2 ho)]
      · rw [if_neg ho, if_neg (fun e => ho (own_pos.1 e))]
    · have hn : y ≠ [] := fun e => hy (by rw [e]; exact hw.nil_mem)
      obtain ⟨u, z', e, hu, h1, h2, h3, h4, h5, h6⟩ := fail_step hw y hn
      refine ⟨x :: u, z', by rw [e]; rfl, by simp, h1, by simp; omega, by rw [failOf, if_neg hy, h3], fun c => ?_, fun l hl => ?_, fun n h0 h7 => ?_⟩
      · rw [List.cons_append, failOf, if_neg (fun e => hy (hw.closed e)), h4]
      · rw [outOf, if_neg (fun e => hy (hl _ e.2)), h5 l hl]
      · cases n with
        | zero => omega
        | succ n =>
          rw [List.drop_succ_cons]
          rcases Nat.eq_zero_or_pos n with h8 | h8
          · rw [h8, List.drop_zero]; exact hy
          · exact h6 n h8 (by simpa using h7)
theorem fail_nil (ps : List Tx) : failOf ps [] = -1 := rfl
theorem place_nil {ps : List Tx} (hw : Wf ps) : place ps [] = 0 := by
  rw [place_first (k := 0) hw.pos hw.at0 (fun j hj => by omega)]; rfl
theorem fail_one {ps : List Tx} (hw : Wf ps) (c : UInt8) : failOf ps [c] = 0 := by
  rw [failOf, if_pos hw.nil_mem, place_nil hw]
theorem fail_ge (ps : List Tx) : ∀ z, -1 ≤ failOf ps z
  | [] => by rw [fail_nil]; omega
  | _ :: p => by
    rw [failOf]; split
    · exact place_ge _ _
    · exact fail_ge ps p
theorem fail_lt (ps : List Tx) : ∀ z, failOf ps z < ps.length
  | [] => by rw [fail_nil]; omega
  | _ :: p => by
    rw [failOf]; split
    · exact place_lt _ _
    · exact fail_lt ps p
/-- The next text, and what ends in it. -/
theorem out_split {ps l : List Tx} (hl : ∀ x ∈ l, x ∈ ps) : ∀ p : Tx, (outOf ps l p = -1 ∧ tailE l p = []) ∨
    ∃ z, z ∈ l ∧ z ≠ [] ∧ z ∈ ps ∧ z.length < p.length ∧ outOf ps l p = place ps z ∧ tailE l p = endsOf l z ∧ (own l z : Int) = z.length
  | [] => .inl ⟨rfl, rfl⟩
  | x :: p => by
    rw [outOf]
    by_cases h : p ≠ [] ∧ p ∈ l
    · rw [if_pos h]
      exact .inr ⟨p, h.2, h.1, hl _ h.2, by simp, rfl, rfl, by rw [own, if_pos h.2]⟩
    · rw [if_neg h]
      have e : tailE l (x :: p) = tailE l p := by
        show endsOf l p = _
        rw [ends_split, if_neg (fun e => h (own_pos.1 e))]
        rfl
      rw [e]
      rcases out_split hl p with h1 | ⟨z, h1, h2, h3, h4, h5⟩
      · exact .inl h1
      · exact .inr ⟨z, h1, h2, h3, by simp; omega, h5⟩
theorem out_ge (ps l : List Tx) : ∀ z, -1 ≤ outOf ps l z
  | [] => by rw [outOf]; omega
  | _ :: p => by
    rw [outOf]; split
    · exact place_ge _ _
    · exact out_ge ps l p
theorem out_lt (ps l : List Tx) : ∀ z, outOf ps l z < ps.length
  | [] => by rw [outOf]; omega
  | _ :: p => by
    rw [outOf]; split
    · exact place_lt _ _
    · exact out_lt ps l p
/-- What is kept of a node. -/
structure Lk where
  fail : Int
  out : Int
  own : Nat
def lkOf (ps l : List Tx) (p : Tx) : Lk := ⟨failOf ps p, outOf ps l p, own l p⟩
/-- While the order grows: those in it have their links. -/
def lks (ps l Q : List Tx) : List Lk := ps.map fun p => if p ∈ Q then lkOf ps l p else ⟨0, 0, 0⟩
theorem lks_length (ps l Q : List Tx) : (lks ps l Q).length = ps.length := by simp [lks]
theorem lks_at (ps l Q : List Tx) (i : Nat) (h : i < ps.length) : (lks ps l Q)[i]'(by rw [lks_length]; exact h) = if ps[i] ∈ Q then lkOf ps l ps[i] else ⟨0, 0, 0⟩ := by simp [lks]
theorem lks_snoc {ps : List Tx} (hw : Wf ps) (l Q : List Tx) {i : Nat} (hi : i < ps.length) : lks ps l (Q ++ [ps[i]]) = (lks ps l Q).set i (lkOf ps l ps[i]) := by
  apply List.ext_getElem
  · simp [lks]
  · intro j h1 h2
    rw [lks_length] at h1
    rw [List.getElem_set, lks_at _ _ _ j h1, lks_at _ _ _ j h1]
    by_cases e : i = j
    · subst e; simp
    · have hne : ps[j] ≠ ps[i] := fun q => e (nd_inj hw.nodup q).symm
      simp [hne, e]
theorem lks_all {ps l Q : List Tx} (h : ∀ p ∈ ps, p ∈ Q) : lks ps l Q = ps.map (lkOf ps l) := by
  unfold lks
  apply List.map_congr_left
  intro p hp
  rw [if_pos (h p hp)]
theorem lks_root {ps : List Tx} (hw : Wf ps) (l : List Tx) : lks ps l [[]] = (List.replicate ps.length ⟨0, 0, 0⟩).set 0 ⟨-1, -1, 0⟩ := by
  apply List.ext_getElem
  · simp [lks]
  · intro j h1 h2
    rw [lks_length] at h1
    rw [List.getElem_set, lks_at _ _ _ j h1]
    by_cases e : 0 = j
    · subst e
      simp [hw.at0, lkOf, failOf, outOf, own_nil]
    · have hne : ps[j] ≠ [] := fun q => e ((hw.nil_iff h1).1 q).symm
      simp [hne, e]
/-- The beginnings to which a beginning's bytes lead. -/
def kidsT (ps : List Tx) (p : Tx) : List Tx := (rkids ps p).map fun c => p ++ [c]
theorem mem_kidsTo (f : UInt8 → Bool) (c : UInt8) : c ∈ kidsTo f 256 ↔ f c = true := by
  unfold kidsTo
  rw [List.mem_filter]
  refine ⟨fun h => h.2, fun h => ⟨List.mem_map.2 ⟨c.toNat, List.mem_range.2 c.toNat_lt, by simp⟩, h⟩⟩
theorem nodup_kidsTo (f : UInt8 → Bool) : (kidsTo f 256).Nodup := by
  unfold kidsTo
  apply List.Pairwise.filter
  rw [List.pairwise_map]
  refine List.Pairwise.imp_of_mem ?_ List.nodup_range
  intro a b ha hb hne e
  have h1 := List.mem_range.1 ha
  have h2 := List.mem_range.1 hb
  apply hne
  have e2 := congrArg UInt8.toNat e
  rw [UInt8.toNat_ofNat', UInt8.toNat_ofNat'] at e2
  omega
theorem mem_rkids (ps : List Tx) (p : Tx) (c : UInt8) : c ∈ rkids ps p ↔ p ++ [c] ∈ ps := by
  unfold rkids
  rw [mem_kidsTo, decide_eq_true_iff, place_nonneg]
theorem kids_eq {ps : List Tx} {p : Tx} (h : p ∈ ps) : kidsOf ps (place ps p) = rkids ps p := by
  obtain ⟨i, hi, e, e2, _⟩ := place_mem h
  unfold kidsOf rkids
  congr 1
  funext c
  rw [e, stepOf_at hi, e2]
theorem step_eq {ps : List Tx} {p : Tx} (h : p ∈ ps) (c : UInt8) : stepOf ps (place ps p) c = place ps (p ++ [c]) := by
  obtain ⟨i, hi, e, e2, _⟩ := place_mem h
  rw [e, stepOf_at hi, e2]
theorem mem_kidsT (ps : List Tx) (p q : Tx) : q ∈ kidsT ps p ↔ q ∈ ps ∧ ∃ c, q = p ++ [c] := by
  unfold kidsT
  rw [List.mem_map]
  constructor
  · rintro ⟨c, hc, rfl⟩; exact ⟨(mem_rkids _ _ _).1 hc, c, rfl⟩
  · rintro ⟨h, c, rfl⟩; exact ⟨c, (mem_rkids _ _ _).2 h, rfl⟩
theorem nodup_kidsT (ps : List Tx) (p : Tx) : (kidsT ps p).Nodup := by
  unfold kidsT
  rw [List.Nodup, List.pairwise_map]
  exact List.Pairwise.imp (fun hne e => hne (by simpa using e)) (nodup_kidsTo _)
/-- The order, when i nodes have been gone through. -/
def bq (ps : List Tx) : Nat → List Tx
  | 0 => [[]]
  | i + 1 => bq ps i ++ (match (bq ps i)[i]? with | some p => kidsT ps p | none => [])
theorem bq_succ {ps : List Tx} {i : Nat} (h : i < (bq ps i).length) : bq ps (i + 1) = bq ps i ++ kidsT ps (bq ps i)[i] := by
  rw [bq, List.getElem?_eq_getElem h]
theorem bq_stop {ps : List Tx} {i : Nat} (h : (bq ps i).length ≤ i) : bq ps (i + 1) = bq ps i := by
  rw [bq, List.getElem?_eq_none h, List.append_nil]
theorem bq_more (ps : List Tx) (i : Nat) : ∀ k, ∃ m, bq ps (i + k) = bq ps i ++ m
  | 0 => ⟨[], by simp⟩
  | k + 1 => by
    obtain ⟨m, e⟩ := bq_more ps i k
    rw [← Nat.add_assoc, bq, e, List.append_assoc]
    exact ⟨_, rfl⟩
theorem bq_const {ps : List Tx} {i : Nat} (h : (bq ps i).length ≤ i) : ∀ k, bq ps (i + k) = bq ps i
  | 0 => rfl
  | k + 1 => by
    have := bq_const h k
    rw [← Nat.add_assoc, bq_stop (by rw [this]; omega), this]
structure Inv (ps : List Tx) (i : Nat) (Q : List Tx) : Prop where
  nodup : Q.Nodup
  sub : ∀ p ∈ Q, p ∈ ps
  root : [] ∈ Q
  up : ∀ p ∈ Q, p = [] ∨ ∃ k, ∃ h : k < Q.length, k < i ∧ ∃ c, p = Q[k] ++ [c]
  down : ∀ k (h : k < Q.length), k < i → ∀ c, Q[k] ++ [c] ∈ ps → Q[k] ++ [c] ∈ Q
  sorted : Q.Pairwise fun a b => a.length ≤ b.length
theorem Inv.le {ps : List Tx} {i : Nat} {Q : List Tx} (h : Inv ps i Q) (hi : i < Q.length) : ∀ p ∈ Q, p.length ≤ Q[i].length + 1 := by
  intro p hp
  rcases h.up p hp with rfl | ⟨k, hk, hki, c, rfl⟩
  · simp
  · have := List.pairwise_iff_getElem.1 h.sorted k i hk hi hki
    simp; omega
theorem inv_bq {ps : List Tx} (hw : Wf ps) : ∀ i, Inv ps i (bq ps i)
  | 0 => by
    refine ⟨by simp [bq], fun p hp => ?_, by simp [bq], fun p hp => .inl (by simpa [bq] using hp), fun k _ hk => by omega, by simp [bq]⟩
    obtain rfl : p = [] := by simpa [bq] using hp
    exact hw.nil_mem
  | i + 1 => by
    have h := inv_bq hw i
    by_cases hi : i < (bq ps i).length
    · rw [bq_succ hi]
      have hle := h.le hi
      generalize bq ps i = Q at *
      have hnew : ∀ c, Q[i] ++ [c] ∉ Q := fun c hc => by
        rcases h.up _ hc with e | ⟨k, hk, hki, d, e⟩
        · simp at e
        · obtain ⟨e1, _⟩ := List.append_inj' e rfl
          have h1 := nd_inj h.nodup e1
          omega
      refine ⟨?_, ?_, ?_, ?_, ?_, ?_⟩
      · rw [List.nodup_append]
        refine ⟨h.nodup, nodup_kidsT _ _, fun a ha b hb e => ?_⟩
        obtain ⟨_, c, rfl⟩ := (mem_kidsT _ _ _).1 hb
        exact hnew c (e ▸ ha)
      · intro p hp
        rcases List.mem_append.1 hp with hp | hp
        · exact h.sub p hp
        · exact ((mem_kidsT _ _ _).1 hp).1
      · exact List.mem_append_left _ h.root
      · intro p hp
        rcases List.mem_append.1 hp with hp | hp
        · rcases h.up p hp with e | ⟨k, hk, hki, c, e⟩
          · exact .inl e
          · exact .inr ⟨k, by simp; omega, by omega, c, by rw [List.getElem_append_left hk]; exact e⟩
        · obtain ⟨_, c, e⟩ := (mem_kidsT _ _ _).1 hp
          exact .inr ⟨i, by simp; omega, by omega, c, by rw [List.getElem_append_left hi]; exact e⟩
      · intro k hk hki c hc
        by_cases hki2 : k < i
        · rw [List.getElem_append_left (by omega)] at hc ⊢
          exact List.mem_append_left _ (h.down k (by omega) hki2 c hc)
        · obtain rfl : k = i := by omega
          rw [List.getElem_append_left hi] at hc ⊢
          exact List.mem_append_right _ ((mem_kidsT _ _ _).2 ⟨hc, c, rfl⟩)
      · rw [List.pairwise_append]
        refine ⟨h.sorted, ?_, fun a ha b hb => ?_⟩
        · refine List.Pairwise.imp_of_mem (R := fun _ _ => True) ?_ (List.pairwise_iff_getElem.2 fun _ _ _ _ _ => trivial)
          intro a b ha hb _
          obtain ⟨_, c, rfl⟩ := (mem_kidsT _ _ _).1 ha
          obtain ⟨_, d, rfl⟩ := (mem_kidsT _ _ _).1 hb
          simp
        · obtain ⟨_, d, rfl⟩ := (mem_kidsT _ _ _).1 hb
          have := hle a ha
          simpa using this
    · rw [bq_stop (by omega)]
      refine ⟨h.nodup, h.sub, h.root, fun p hp => ?_, fun k hk _ => h.down k hk (by omega), h.sorted⟩
      rcases h.up p hp with e | ⟨k, hk, hki, r⟩
      · exact .inl e
      · exact .inr ⟨k, hk, by omega, r⟩
theorem nodup_len : ∀ (Q ps : List Tx), Q.Nodup → (∀ p ∈ Q, p ∈ ps) → Q.length ≤ ps.length
  | [], _, _, _ => by simp
  | p :: Q, ps, hd, hs => by
    rw [List.nodup_cons] at hd
    have h1 := nodup_len Q (ps.erase p) hd.2 fun q hq => by
      have hne : q ≠ p := fun e => hd.1 (e ▸ hq)
      exact (List.mem_erase_of_ne hne).2 (hs q (by simp [hq]))
    have h2 : p ∈ ps := hs p (by simp)
    rw [List.length_erase_of_mem h2] at h1
    have h3 : 0 < ps.length := List.length_pos_of_mem h2
    simp; omega
theorem bq_len {ps : List Tx} (hw : Wf ps) (i : Nat) : (bq ps i).length ≤ ps.length := nodup_len _ _ (inv_bq hw i).nodup (inv_bq hw i).sub
/-- All that is not deeper than the node at hand is in the order. -/
theorem Inv.shallow {ps : List Tx} (hw : Wf ps) {i : Nat} {Q : List Tx} (h : Inv ps i Q) (hi : i < Q.length) : ∀ (n : Nat) (p : Tx), p.length = n → n ≤ Q[i].length → p ∈ ps → p ∈ Q
  | 0, p, hn, _, _ => by
    obtain rfl : p = [] := List.eq_nil_of_length_eq_zero hn
    exact h.root
  | n + 1, p, hn, hle, hp => by
    have hne : p ≠ [] := fun e => by rw [e] at hn; simp at hn
    have hd := h.shallow hw hi n p.dropLast (by simp; omega) (by omega) (hw.closed_drop hp hne)
    obtain ⟨k, hk, e⟩ := List.getElem_of_mem hd
    have hki : k < i := by
      rcases Nat.lt_or_ge k i with h1 | h1
      · exact h1
      · exfalso
        have hl : Q[k].length = n := by rw [e]; simp; omega
        rcases Nat.eq_or_lt_of_le h1 with h2 | h2
        · subst h2; omega
        · have := List.pairwise_iff_getElem.1 h.sorted i k hi hk h2
          omega
    have e2 : Q[k] ++ [p.getLast hne] = p := by rw [e]; exact List.dropLast_concat_getLast hne
    have := h.down k hk hki (p.getLast hne) (by rw [e2]; exact hp)
    rwa [e2] at this
/-- When all have been gone through, all are in the order. -/
theorem Inv.all {ps : List Tx} (hw : Wf ps) {i : Nat} {Q : List Tx} (h : Inv ps i Q) (hi : Q.length ≤ i) : ∀ (n : Nat) (p : Tx), p.length = n → p ∈ ps → p ∈ Q
  | 0, p, hn, _ => by
    obtain rfl : p = [] := List.eq_nil_of_length_eq_zero hn
    exact h.root
  | n + 1, p, hn, hp => by
    have hne : p ≠ [] := fun e => by rw [e] at hn; simp at hn
    have hd := h.all hw hi n p.dropLast (by simp; omega) (hw.closed_drop hp hne)
    obtain ⟨k, hk, e⟩ := List.getElem_of_mem hd
    have e2 : Q[k] ++ [p.getLast hne] = p := by rw [e]; exact List.dropLast_concat_getLast hne
    have := h.down k hk (by omega) (p.getLast hne) (by rw [e2]; exact hp)
    rwa [e2] at this
/-- The whole order. -/
def ord (ps : List Tx) : List Tx := bq ps ps.length
theorem ord_all {ps : List Tx} (hw : Wf ps) : ∀ p ∈ ps, p ∈ ord ps := fun p hp => (inv_bq hw ps.length).all hw (bq_len hw _) _ p rfl hp
theorem ord_len {ps : List Tx} (hw : Wf ps) : (ord ps).length = ps.length :=
  Nat.le_antisymm (bq_len hw _) (nodup_len _ _ hw.nodup (ord_all hw))
theorem ord_of_end {ps : List Tx} {i : Nat} (h : (bq ps i).length ≤ i) (hi : i ≤ ps.length) : bq ps i = ord ps := by
  have := bq_const h (ps.length - i)
  rw [← this, ord]
  congr 1
  omega
/-- As many as there are nodes: that's the whole order. -/
theorem ord_of_full {ps : List Tx} (hw : Wf ps) {i q : Nat} (hi : i < (bq ps i).length) (h : (bq ps i ++ (kidsT ps (bq ps i)[i]).take q).length = ps.length) : bq ps i ++ (kidsT ps (bq ps i)[i]).take q = ord ps := by
  have hil : i + 1 ≤ ps.length := Nat.lt_of_lt_of_le hi (bq_len hw i)
  obtain ⟨m, e⟩ := bq_more ps (i + 1) (ps.length - (i + 1))
  rw [show i + 1 + (ps.length - (i + 1)) = ps.length by omega, bq_succ hi, ← List.take_append_drop q (kidsT ps (bq ps i)[i]), ← List.append_assoc, List.append_assoc] at e
  have hl := ord_len hw
  unfold ord at hl ⊢
  rw [e, List.length_append, h] at hl
  rw [e, List.eq_nil_of_length_eq_zero (l := List.drop q (kidsT ps (bq ps i)[i]) ++ m) (by omega), List.append_nil]
end Go.Proofs.YtcbhjhhajeeimaaGreat.Lnk
/- Links and numbers in memory. -/
namespace Go.Proofs.YtcbhjhhajeeimaaGreat.Lnk
open Go.RowKit Go.Maps Go.Proofs.YtcbhjhhajeeimaaGreat.Tri
set_option maxRecDepth 100000

/-- A slice of numbers that reads as xs, below block B. -/
def Is (W : World) (B : Nat) (a : Option Addr) (xs : List Int) : Prop :=
  0 < xs.length → ∃ b off, a = some ⟨b, off, none⟩ ∧ b < B ∧ ∀ i (h : i < xs.length), W.cell? ⟨b, off + i, none⟩ = some (.int .i64 xs[i])
theorem Is.keep {W W' : World} {B : Nat} {a : Option Addr} {xs : List Int} (h : Is W B a xs) (hb : Below B W W') : Is W' B a xs := fun h0 => by
  obtain ⟨b, off, e, hlt, hc⟩ := h h0
  exact ⟨b, off, e, hlt, fun i hi => (hb.cell (p := ⟨b, _, none⟩) hlt).trans (hc i hi)⟩
theorem Is.more {W : World} {B B' : Nat} {a : Option Addr} {xs : List Int} (h : Is W B a xs) (hB : B ≤ B') : Is W B' a xs := fun h0 => by
  obtain ⟨b, off, e, hlt, hc⟩ := h h0
  exact ⟨b, off, e, by omega, hc⟩
/-- Numbers as cells. -/
def ivals (l : List Int) : List Value := l.map fun x => Value.int .i64 x
theorem ivals_snoc (l : List Int) (x : Int) : ivals (l ++ [x]) = ivals l ++ [.int .i64 x] := by simp [ivals]
theorem ivals_append (l m : List Int) : ivals (l ++ m) = ivals l ++ ivals m := by simp [ivals]
theorem ivals_length (l : List Int) : (ivals l).length = l.length := by simp [ivals]
theorem ivals_at (l : List Int) (i : Nat) (h : i < l.length) : (ivals l)[i]? = some (.int .i64 l[i]) := by simp [ivals, h]
theorem ivals_one (l : List Int) : ∀ v ∈ ivals l, v.oneCell' = true := by
  intro v hv
  simp only [ivals, List.mem_map] at hv
  obtain ⟨c, _, rfl⟩ := hv
  rfl
theorem info3 : (Tryz.prog.info? 3).map (fun i => (i.zero, i.size, i.bytes)) = some (some (.int .i64 0), 1, 8) := by kernel_rfl
theorem und32 : Tryz.prog.underlying 111 = some (.slice 3) := by kernel_rfl
theorem und47 : Tryz.prog.underlying 137 = some (.slice 141) := by kernel_rfl
theorem info51 : (Tryz.prog.info? 141).map (fun i => (i.zero, i.size, i.bytes)) = some (some (.agg #[.int .i64 0, .int .i64 0, .int .i64 0]), 3, 24) := by kernel_rfl
theorem own_is {w : World} {base n : Nat} {v : Value} {l : List Int} (h : w.ownsRow base 3 1 v n (ivals l)) : ∃ a cap, v = .slice a l.length cap ∧ Is w w.heap.size a l ∧ (a = none → cap = 0) := by
  have hn : l.length = n := by have := h.1; simpa [ivals] using this
  rcases h.2 with ⟨rfl, h0⟩ | ⟨g, cap, cur, rfl, hg, hh, hnc, _, hs, ht⟩
  · exact ⟨none, 0, by rw [hn, h0], (fun h1 => by omega), fun _ => rfl⟩
  · refine ⟨some ⟨g, 0, none⟩, cap, by rw [hn], fun _ => ⟨g, 0, rfl, txt_lt hh, fun i hi => ?_⟩, fun e => by cases e⟩
    have e : (cur.toList.take (n * 1))[i]? = (ivals l)[i]? := by rw [ht]
    rw [List.getElem?_take_of_lt (by omega)] at e
    rw [Nat.zero_add, cell_of_row w g _ _ 3 (0, 0) hh, ← Array.getElem?_toList, e]
    simp [ivals, hi]
theorem cell_new_at {w : World} {g : Nat} (u : Value) (t : TypeId) (hg : g = w.heap.size) : ∀ j x, [u][j]? = some x → (w.alloc (.cells #[u] t)).cell? ((⟨g, 0, none⟩ : Addr).add j) = some x := by
  subst hg
  exact cell_new1 w u t
theorem own_put3 {w : World} {g base e size n : Nat} {v v0 v1 v2 : Value} {xs : List Value} (h : w.ownsRow base e size v n xs) (hg : g < base) : (put3 w g v0 v1 v2).ownsRow base e size v n xs :=
  own_far_block h fun k hk => put3_other (by have := own_ge h hk; omega)
/-- A number appended to a row of the call's own. -/
theorem app_is {w : World} {ops : Array Oper} {rest : List Oper} {o : Oper} {a : Act} {Q : Exit → Act → World → Prop} (hgd : o.guard = none) (s x : Operand)
    (ho : o.op = .call { callee := .builtin .append, args := #[s, x], argTypes := #[111, 111] })
    (base : Nat) (v : Value) (n : Nat) (xs : List Int) (y : Int) (hs : a.eval s = v) (hown : w.ownsRow base 3 1 v n (ivals xs))
    (ad : Addr) (hx : a.eval x = .slice (some ad) 1 1) (hc : ∀ j u, [Value.int .i64 y][j]? = some u → w.cell? (ad.add j) = some u)
    (hn : n ≤ 1000000000) (hbase : base ≤ w.heap.size)
    (h : ∀ v' w', w'.ownsRow base 3 1 v' (n + 1) (ivals (xs ++ [y])) → w.grownBy w' v.ownBlock → wpList Tryz.prog ops Q rest (a.put o.dst v') w') : wpList Tryz.prog ops Q (o :: rest) a w := by
  obtain ⟨i0, hi, hz0, hz1, hz2⟩ := info_parts info3
  rw [ivals_snoc] at h
  exact wpList_append_own w hgd s x 111 ho base 3 i0 (.int .i64 0) 1 8 und32 hi hz0 hz1 hz2 rfl (by decide) v n (ivals xs) hs hown ad 1 1 [.int .i64 y] hx rfl hc (by simp [Value.oneCell']) (by unfold maxLen; omega) (by omega) hbase (fun v' w' h1 h2 _ => h v' w' h1 h2)
theorem wp_app_is {w : World} {o : Oper} {a : Act} {K : Act → World → Prop} {Q : Exit → Act → World → Prop} (s x : Operand)
    (ho : o.op = .call { callee := .builtin .append, args := #[s, x], argTypes := #[111, 111] })
    (base : Nat) (v : Value) (n : Nat) (xs : List Int) (y : Int) (hs : a.eval s = v) (hown : w.ownsRow base 3 1 v n (ivals xs))
    (ad : Addr) (hx : a.eval x = .slice (some ad) 1 1) (hc : ∀ j u, [Value.int .i64 y][j]? = some u → w.cell? (ad.add j) = some u)
    (hn : n ≤ 1000000000) (hbase : base ≤ w.heap.size)
    (h : ∀ v' w', w'.ownsRow base 3 1 v' (n + 1) (ivals (xs ++ [y])) → w.grownBy w' v.ownBlock → K (a.put o.dst v') w') : o.wp Tryz.prog a w K Q := by
  obtain ⟨i0, hi, hz0, hz1, hz2⟩ := info_parts info3
  rw [ivals_snoc] at h
  exact wp_append_own w s x 111 ho base 3 i0 (.int .i64 0) 1 8 und32 hi hz0 hz1 hz2 rfl (by decide) v n (ivals xs) hs hown ad 1 1 [.int .i64 y] hx rfl hc (by simp [Value.oneCell']) (by unfold maxLen; omega) (by omega) hbase (fun v' w' h1 h2 _ => h v' w' h1 h2)
/-- Numbers appended to a row of the call's own. -/
theorem app_isl {w : World} {ops : Array Oper} {rest : List Oper} {o : Oper} {a : Act} {Q : Exit → Act → World → Prop} (hgd : o.guard = none) (s x : Operand)
    (ho : o.op = .call { callee := .builtin .append, args := #[s, x], argTypes := #[111, 111] })
    (base : Nat) (v : Value) (n : Nat) (xs : List Int) (hs : a.eval s = v) (hown : w.ownsRow base 3 1 v n (ivals xs))
    (A : Option Addr) (l : List Int) (c B : Nat) (hx : a.eval x = .slice A l.length c) (hb : Is w B A l) (hnil : A = none → c = 0)
    (hn : n + l.length ≤ 1000000000) (hbase : base ≤ w.heap.size)
    (h : ∀ v' w', w'.ownsRow base 3 1 v' (n + l.length) (ivals (xs ++ l)) → w.grownBy w' v.ownBlock → wpList Tryz.prog ops Q rest (a.put o.dst v') w') : wpList Tryz.prog ops Q (o :: rest) a w := by
  obtain ⟨i0, hi, hz0, hz1, hz2⟩ := info_parts info3
  rw [ivals_append] at h
  cases A with
  | none =>
    have hl : l = [] := by
      rcases Nat.eq_zero_or_pos l.length with h0 | h0
      · exact List.eq_nil_of_length_eq_zero h0
      · obtain ⟨_, _, e, _⟩ := hb h0; cases e
    subst hl
    rw [hnil rfl] at hx
    refine wpList_append_own_none hgd s x 111 ho base 3 i0 1 und32 hi v n (ivals xs) hs hown hx (h v w ?_ (World.grownBy.refl w _))
    simpa [ivals] using hown
  | some ad =>
    refine wpList_append_own w hgd s x 111 ho base 3 i0 (.int .i64 0) 1 8 und32 hi hz0 hz1 hz2 rfl (by decide) v n (ivals xs) hs hown ad l.length c (ivals l) hx (by simp [ivals]) ?_ (ivals_one l) (by unfold maxLen; omega) (by omega) hbase (fun v' w' h1 h2 _ => h v' w' h1 h2)
    intro j u hj
    have hjl : j < l.length := by
      have := (List.getElem?_eq_some_iff.1 hj).1
      simpa [ivals] using this
    obtain ⟨b, off, e, _, hc⟩ := hb (by omega)
    obtain rfl := Option.some.inj e
    rw [add_at, hc j hjl]
    simpa [ivals, hjl] using hj
/-- A call that hands out numbers, and leaves what was there as it was. -/
def GivesInts (w : World) (l : List Int) (e : Ending) (w' : World) : Prop := ∃ a cap, e = .returned (.slice a l.length cap) ∧ Is w' w'.heap.size a l ∧ (a = none → cap = 0) ∧ Below w.heap.size w w'
/-- A link's cells. -/
def lcells (r : Lk) : List Value := [.int .i64 r.fail, .int .i64 r.out, .int .i64 (r.own : Int)]
abbrev lkV (r : Lk) : Value := .agg #[.int .i64 r.fail, .int .i64 r.out, .int .i64 (r.own : Int)]
def lvals (l : List Lk) : List Value := l.flatMap lcells
theorem lvals_length (l : List Lk) : (lvals l).length = l.length * 3 := by
  induction l with
  | nil => rfl
  | cons p l ih => simp only [lvals, List.flatMap_cons, List.length_append, List.length_cons] at ih ⊢; rw [ih]; simp [lcells]; omega
theorem lvals_at : ∀ (xs : List Lk) (i j : Nat), j < 3 → (h : i < xs.length) → (lvals xs)[i * 3 + j]? = (lcells xs[i])[j]?
  | [], i, j, _, h => absurd h (by simp)
  | x :: xs, 0, j, hj, _ => by
    unfold lvals
    rw [List.flatMap_cons, List.getElem?_append_left (by simp [lcells]; omega)]
    simp
  | x :: xs, i + 1, j, hj, h => by
    have h' : i < xs.length := by simpa using h
    unfold lvals
    rw [List.flatMap_cons, List.getElem?_append_right (by simp [lcells]; omega)]
    have e : (i + 1) * 3 + j - (lcells x).length = i * 3 + j := by simp [lcells]; omega
    rw [e]
    exact lvals_at xs i j hj h'
theorem lvals_set : ∀ (xs : List Lk) (i : Nat) (r : Lk), i < xs.length → (((lvals xs).set (i * 3) (.int .i64 r.fail)).set (i * 3 + 1) (.int .i64 r.out)).set (i * 3 + 2) (.int .i64 (r.own : Int)) = lvals (xs.set i r)
  | [], i, _, h => absurd h (by simp)
  | y :: xs, 0, r, _ => by simp [lvals, lcells]
  | y :: xs, i + 1, r, h => by
    have h' : i < xs.length := by simpa using h
    have ih := lvals_set xs i r h'
    unfold lvals at ih ⊢
    rw [List.flatMap_cons, List.set_append_right _ _ (by simp [lcells]; omega), List.set_append_right _ _ (by simp [lcells]; omega), List.set_append_right _ _ (by simp [lcells]; omega)]
    have e : (i + 1) * 3 - (lcells y).length = i * 3 := by simp [lcells]; omega
    have e1 : (i + 1) * 3 + 1 - (lcells y).length = i * 3 + 1 := by simp [lcells]; omega
    have e2 : (i + 1) * 3 + 2 - (lcells y).length = i * 3 + 2 := by simp [lcells]; omega
    rw [e, e1, e2, ih]
    simp
/-- Links in memory, from block s on, of those that the order Q has so far. -/
def LiQ (w : World) (s t : Nat) (ps l Q : List Tx) : Prop :=
  s ≤ t ∧ ∃ g cap vo, Blk2 w t 139 (.slice (some ⟨g, 0, none⟩) ps.length cap) vo ∧ w.ownsRow s 141 3 (.slice (some ⟨g, 0, none⟩) ps.length cap) ps.length (lvals (lks ps l Q)) ∧ w.ownsRow s 3 1 vo Q.length (ivals (Q.map (place ps)))
theorem LiQ.keep {w w' : World} {s t : Nat} {ps l Q : List Tx} (h : LiQ w s t ps l Q) (hb : Below w.heap.size w w') : LiQ w' s t ps l Q := by
  obtain ⟨h0, g, cap, vo, h1, h2, h3⟩ := h
  exact ⟨h0, g, cap, vo, h1.same (hb.block t h1.lt), own_keep h2 hb, own_keep h3 hb⟩
theorem own_row3 {w : World} {s g n cap : Nat} {xs : List Lk} (h2 : w.ownsRow s 141 3 (.slice (some ⟨g, 0, none⟩) n cap) n (lvals xs)) (hn : xs.length = n) {i : Nat} (hi : i < xs.length) :
    w.cell? ⟨g, i * 3, none⟩ = some (.int .i64 xs[i].fail) ∧ w.cell? ⟨g, i * 3 + 1, none⟩ = some (.int .i64 xs[i].out) ∧ w.cell? ⟨g, i * 3 + 2, none⟩ = some (.int .i64 (xs[i].own : Int)) := by
  have key : ∀ j, j < 3 → w.cell? ⟨g, i * 3 + j, none⟩ = (lcells xs[i])[j]? := fun j hj => by
    rw [h2.cellAt (i * 3 + j) (by omega), lvals_at _ i j hj hi]
  exact ⟨key 0 (by omega), key 1 (by omega), key 2 (by omega)⟩
/-- Links opened: what is kept of each node in the order. -/
theorem LiQ.rows {w : World} {s t : Nat} {ps l Q : List Tx} (h : LiQ w s t ps l Q) : ∃ (g cap : Nat) (vo : Value), s ≤ t ∧ Blk2 w t 139 (.slice (some ⟨g, 0, none⟩) ps.length cap) vo ∧ w.ownsRow s 141 3 (.slice (some ⟨g, 0, none⟩) ps.length cap) ps.length (lvals (lks ps l Q)) ∧ w.ownsRow s 3 1 vo Q.length (ivals (Q.map (place ps))) ∧ g < w.heap.size ∧
    ∀ i (hi : i < ps.length), ps[i] ∈ Q → w.cell? ⟨g, i * 3, none⟩ = some (.int .i64 (failOf ps ps[i])) ∧ w.cell? ⟨g, i * 3 + 1, none⟩ = some (.int .i64 (outOf ps l ps[i])) ∧ w.cell? ⟨g, i * 3 + 2, none⟩ = some (.int .i64 (own l ps[i] : Int)) := by
  obtain ⟨h0, g, cap, vo, h1, h2, h3⟩ := h
  refine ⟨g, cap, vo, h0, h1, h2, h3, (own_block_lt h2 rfl).2.1, fun i hi hq => ?_⟩
  obtain ⟨c0, c1, c2⟩ := own_row3 h2 (lks_length ps l Q) (i := i) (by rw [lks_length]; exact hi)
  rw [lks_at ps l Q i hi, if_pos hq] at c0 c1 c2
  exact ⟨c0, c1, c2⟩
/-- What is kept of a node in the order. -/
theorem LiQ.row {w : World} {s t : Nat} {ps l Q : List Tx} (h : LiQ w s t ps l Q) {p : Tx} (hp : p ∈ ps) (hq : p ∈ Q) : ∃ (g cap : Nat) (vo : Value) (i : Nat), Blk2 w t 139 (.slice (some ⟨g, 0, none⟩) ps.length cap) vo ∧ g < w.heap.size ∧ place ps p = (i : Int) ∧ i < ps.length ∧
    w.cell? ⟨g, i * 3, none⟩ = some (.int .i64 (failOf ps p)) ∧ w.cell? ⟨g, i * 3 + 1, none⟩ = some (.int .i64 (outOf ps l p)) ∧ w.cell? ⟨g, i * 3 + 2, none⟩ = some (.int .i64 (own l p : Int)) := by
  obtain ⟨g, cap, vo, h0, h1, h2, h3, hg, hr⟩ := h.rows
  obtain ⟨i, hi, e, e2, _⟩ := place_mem hp
  subst e2
  obtain ⟨c0, c1, c2⟩ := hr i hi hq
  exact ⟨g, cap, vo, i, h1, hg, e, hi, c0, c1, c2⟩
/-- The links of a tree, in memory. -/
def Li (w : World) (s t : Nat) (ps l : List Tx) : Prop := Wf ps ∧ (∀ x ∈ l, x ∈ ps) ∧ ps.length ≤ 1000000 ∧ LiQ w s t ps l (ord ps)
theorem Li.keep {w w' : World} {s t : Nat} {ps l : List Tx} (h : Li w s t ps l) (hb : Below w.heap.size w w') : Li w' s t ps l := ⟨h.1, h.2.1, h.2.2.1, h.2.2.2.keep hb⟩
/-- What is kept of a number. -/
def lkAt (ps l : List Tx) (n : Int) : Lk := match pathOf ps n with | some p => lkOf ps l p | none => ⟨-1, -1, 0⟩
theorem lkAt_in {ps : List Tx} (l : List Tx) {i : Nat} (h : i < ps.length) : lkAt ps l (i : Int) = lkOf ps l ps[i] := by rw [lkAt, pathOf_at h]
theorem lkAt_out {ps : List Tx} (l : List Tx) {n : Int} (h : ¬ (0 ≤ n ∧ n < ps.length)) : lkAt ps l n = ⟨-1, -1, 0⟩ := by rw [lkAt, pathOf_none h]
theorem lkAt_place {ps : List Tx} (l : List Tx) {p : Tx} (h : p ∈ ps) : lkAt ps l (place ps p) = lkOf ps l p := by
  obtain ⟨i, hi, e, e2, _⟩ := place_mem h
  rw [e, lkAt_in l hi, e2]
end Go.Proofs.YtcbhjhhajeeimaaGreat.Lnk
/- Contracts of none, at, Fail, Out, Longest. -/
namespace Go.Proofs.YtcbhjhhajeeimaaGreat.Lnk
open Go.RowKit Go.Maps Go.Proofs.YtcbhjhhajeeimaaGreat.Tri
set_option maxRecDepth 100000

theorem lnone_any (w : World) : Calls Tryz.prog 63 #[] w fun e w' => e = .returned (.agg #[.int .i64 (-1), .int .i64 (-1), .int .i64 0]) ∧ w' = w.alloc (.cells #[.int .i64 (-1), .int .i64 (-1), .int .i64 0] 141) := by
  go_enter Tryz.func63, Tryz.ntmps63
  go_wp2
  exact bodyPost_ret (v := .agg #[.int .i64 (-1), .int .i64 (-1), .int .i64 0]) (by simp [results, Tryz.results63, go_sem]) rfl ⟨rfl, rfl⟩
set_option maxHeartbeats 1000000 in
theorem lat_any (w : World) (s t : Nat) (ps l : List Tx) (h : Li w s t ps l) (n : Int) :
    Calls Tryz.prog 92 #[.pointer (some ⟨t, 0, none⟩), .int .i64 n] w fun e w' => e = .returned (lkV (lkAt ps l n)) ∧ Below w.heap.size w w' := by
  obtain ⟨hw, hl, hn, hq⟩ := h
  by_cases hin : 0 ≤ n ∧ n < ps.length
  · obtain ⟨i, rfl⟩ : ∃ i : Nat, n = (i : Int) := ⟨n.toNat, by omega⟩
    have hi : i < ps.length := by omega
    rw [lkAt_in l hi]
    obtain ⟨g, cap, vo, j, h1, hg, ej, hj, d0, d1, d2⟩ := hq.row (List.getElem_mem hi) (ord_all hw _ (List.getElem_mem hi))
    rw [place_at hw.nodup hi] at ej
    obtain rfl : i = j := by omega
    obtain ⟨c0, c1⟩ := h1.cells
    have ht := h1.lt
    have hin2 : (i : Int) < (ps.length : Int) := by omega
    have hin3 : ¬ (ps.length : Int) ≤ (i : Int) := by omega
    clear h1 hq hin ej hw hl
    unfold lkOf
    generalize failOf ps ps[i] = r0 at *
    generalize outOf ps l ps[i] = r1 at *
    generalize own l ps[i] = r2 at *
    go_enter Tryz.func92, Tryz.ntmps92
    go_wp2
    exact bodyPost_ret (v := .agg #[.int .i64 r0, .int .i64 r1, .int .i64 (r2 : Int)]) (by simp [results, Tryz.results92, go_sem]) rfl ⟨rfl, (Below.refl _ _).alloc (Nat.le_refl _) _⟩
  · rw [lkAt_out l hin]
    obtain ⟨h0, g, cap, vo, h1, h2, h3⟩ := hq
    obtain ⟨c0, c1⟩ := h1.cells
    have ht := h1.lt
    clear h1 h2 h3 hw hl
    by_cases h0 : n < 0
    · clear hin
      go_enter Tryz.func92, Tryz.ntmps92
      go_wp2_with (go_at_call 63; (with_reducible refine (lnone_any _).mono ?_); rintro e w1 ⟨rfl, rfl⟩)
      exact bodyPost_ret (v := .agg #[.int .i64 (-1), .int .i64 (-1), .int .i64 0]) (by simp [results, Tryz.results92, go_sem]) rfl ⟨rfl, ((Below.refl _ _).alloc (Nat.le_refl _) _).alloc (by simp) _⟩
    · have h2 : (ps.length : Int) ≤ n := by omega
      clear hin
      go_enter Tryz.func92, Tryz.ntmps92
      go_wp2_with (go_at_call 63; (with_reducible refine (lnone_any _).mono ?_); rintro e w1 ⟨rfl, rfl⟩)
      exact bodyPost_ret (v := .agg #[.int .i64 (-1), .int .i64 (-1), .int .i64 0]) (by simp [results, Tryz.results92, go_sem]) rfl ⟨rfl, ((Below.refl _ _).alloc (Nat.le_refl _) _).alloc (by simp) _⟩
theorem field_lk0 (a b c : Int) (w : World) : (Instr.field 141 (.agg #[.int .i64 a, .int .i64 b, .int .i64 c]) 0).run Tryz.prog w = .ok (.int .i64 a) w := by
  simp [Instr.field, asAgg, go_sem]
theorem field_lk1 (a b c : Int) (w : World) : (Instr.field 141 (.agg #[.int .i64 a, .int .i64 b, .int .i64 c]) 1).run Tryz.prog w = .ok (.int .i64 b) w := by
  simp [Instr.field, asAgg, go_sem]
theorem field_lk2 (a b c : Int) (w : World) : (Instr.field 141 (.agg #[.int .i64 a, .int .i64 b, .int .i64 c]) 2).run Tryz.prog w = .ok (.int .i64 c) w := by
  simp [Instr.field, asAgg, go_sem]
theorem fail_any (w : World) (s t : Nat) (ps l : List Tx) (h : Li w s t ps l) (n : Int) :
    Calls Tryz.prog 71 #[.pointer (some ⟨t, 0, none⟩), .int .i64 n] w fun e w' => e = .returned (.int .i64 (lkAt ps l n).fail) ∧ Below w.heap.size w w' := by
  have HA := Lib.hid (lat_any w s t ps l h n)
  have hf := field_lk0
  clear h
  generalize lkAt ps l n = r at *
  go_enter Tryz.func71, Tryz.ntmps71
  go_wp2_with (go_at_call 92; (with_reducible refine HA.out.mono ?_); rintro e w1 ⟨rfl, hb⟩)
  go_ret
  exact ⟨rfl, hb⟩
/-- The longest text that is an end. -/
def longOf (l : List Tx) (p : Tx) : Int := (endsOf l p).headD 0
theorem out_neg {ps : List Tx} {l : List Tx} {n : Int} (h : pathOf ps n = none) : lkAt ps l n = ⟨-1, -1, 0⟩ := by rw [lkAt, h]
theorem pathD_none {ps : List Tx} {n : Int} (h : ¬ (0 ≤ n ∧ n < ps.length)) : pathD ps n = [] := by rw [pathD, pathOf_none h]; rfl
/-- What is kept tells the longest. -/
theorem long_eq {ps l : List Tx} (hl : ∀ x ∈ l, x ∈ ps) (n : Int) : longOf l (pathD ps n) = if 0 < (lkAt ps l n).own then ((lkAt ps l n).own : Int) else ((lkAt ps l (lkAt ps l n).out).own : Int) := by
  by_cases hin : 0 ≤ n ∧ n < ps.length
  · obtain ⟨i, rfl⟩ : ∃ i : Nat, n = (i : Int) := ⟨n.toNat, by omega⟩
    have hi : i < ps.length := by omega
    rw [lkAt_in l hi, pathD_at hi, longOf, ends_split]
    show _ = if 0 < own l ps[i] then (own l ps[i] : Int) else ((lkAt ps l (outOf ps l ps[i])).own : Int)
    by_cases ho : 0 < own l ps[i]
    · rw [if_pos ho, if_pos ho]; rfl
    · rw [if_neg ho, if_neg ho, List.nil_append]
      rcases out_split hl ps[i] with ⟨h1, h2⟩ | ⟨z, h1, h2, h3, h4, h5, h6, h7⟩
      · rw [h1, h2, lkAt_out l (by omega)]; rfl
      · rw [h5, h6, lkAt_place l h3, ends_split, if_pos (own_pos.2 ⟨h2, h1⟩)]; rfl
  · have e : lkAt ps l (-1) = ⟨-1, -1, 0⟩ := lkAt_out l (by omega)
    rw [pathD_none hin, lkAt_out l hin]
    show _ = if 0 < 0 then ((0 : Nat) : Int) else ((lkAt ps l (-1)).own : Int)
    rw [e]; rfl
end Go.Proofs.YtcbhjhhajeeimaaGreat.Lnk
/- The contract of Ends. -/
namespace Go.Proofs.YtcbhjhhajeeimaaGreat.Lnk
open Go.RowKit Go.Maps Go.Proofs.YtcbhjhhajeeimaaGreat.Tri
set_option maxRecDepth 100000

/-- How long a slice is. -/
def lenOf : Value → Nat
  | .slice _ n _ => n
  | _ => 0
/-- What ends in a number's path: what is kept of it tells it. -/
theorem lk_path (ps l : List Tx) (n : Int) : lkAt ps l n = ⟨failOf ps (pathD ps n), outOf ps l (pathD ps n), own l (pathD ps n)⟩ := by
  by_cases hin : 0 ≤ n ∧ n < ps.length
  · obtain ⟨i, rfl⟩ : ∃ i : Nat, n = (i : Int) := ⟨n.toNat, by omega⟩
    have hi : i < ps.length := by omega
    rw [lkAt_in l hi, pathD_at hi]; rfl
  · rw [pathD_none hin, lkAt_out l hin, own_nil]; rfl
theorem ends_len (l : List Tx) : ∀ p : Tx, (endsOf l p).length ≤ p.length
  | [] => by simp [endsOf]
  | c :: p => by
    have := ends_len l p
    unfold endsOf
    split <;> simp <;> omega
set_option maxHeartbeats 2000000 in
theorem ends_any (w : World) (s t : Nat) (ps l : List Tx) (h : Li w s t ps l) (n : Int) (hd : (pathD ps n).length ≤ 1000000) :
    Calls Tryz.prog 132 #[.pointer (some ⟨t, 0, none⟩), .int .i64 n] w (GivesInts w (endsOf l (pathD ps n))) := by
  have HA := Lib.hid (lat_any w s t ps l h n)
  have HAT : Hid (∀ X m, Below w.heap.size w X → Calls Tryz.prog 92 #[.pointer (some ⟨t, 0, none⟩), .int .i64 m] X fun e w' => e = .returned (lkV (lkAt ps l m)) ∧ Below X.heap.size X w') := Lib.hid fun X m hX => lat_any X s t ps l (h.keep hX) m
  rw [lk_path] at HA
  have HL := Lib.hid h.2.1
  clear h
  generalize pathD ps n = p at *
  have HSP := Lib.hid (ends_split l p)
  have HEL := Lib.hid (ends_len l p)
  by_cases ho : 0 < own l p
  · have ho2 : (0 : Int) < (own l p : Int) := by omega
    go_enter Tryz.func132, Tryz.ntmps132
    go_wp2_with fail
    refine HA.out.mono ?_
    rintro e w1 ⟨rfl, hb⟩
    have HB1 := Lib.hid hb
    have hsz := hb.size
    clear hb
    have HK1 := Lib.hid (new_cells w1 (.int .i64 (failOf ps p)) (.int .i64 (outOf ps l p)) (.int .i64 (own l p : Int)) 141)
    go_wp2_with (at_builtin; refine app_is rfl _ _ rfl (w1.heap.size + 1) _ 0 [] (own l p : Int) rfl (World.ownsRow_nil _ _ _ _) ⟨w1.heap.size + 1, 0, none⟩ rfl (cell_new_at _ _ (by simp)) (by omega) (by simp) ?_; intro v2 w2 hown2 hg2)
    have hk1 : Blk3 w2 w1.heap.size 141 (.int .i64 (failOf ps p)) (.int .i64 (outOf ps l p)) (.int .i64 (own l p : Int)) := (hg2.block _ (by simp; omega) (fun e => by cases e)).trans ((Below.heap_alloc _ _ _ (by simp)).trans HK1.out)
    have hb1 : Below w.heap.size w w2 := ((HB1.out.alloc hsz _).alloc (by simp; omega) _).grown hg2 (by simp; omega) (fun k hk => by cases hk)
    have HE : Hid ([(own l p : Int)] ++ tailE l p = endsOf l p) := Lib.hid (by rw [HSP.out, if_pos ho])
    clear hg2 HK1 HA HB1 HSP ho ho2
    generalize w1.heap.size = gx at *
    have hgw : w.heap.size ≤ gx := hsz
    go_loopw [5] (fun v wr => ∃ (es : List Int) (q : Tx), es ++ tailE l q = endsOf l p ∧ Blk3 wr gx 141 (.int .i64 (failOf ps q)) (.int .i64 (outOf ps l q)) (.int .i64 (own l q : Int)) ∧ wr.ownsRow (gx + 1) 3 1 v es.length (ivals es) ∧ Below w.heap.size w wr) (fun v _ => (endsOf l p).length - lenOf v)
    case atStart => exact ⟨[(own l p : Int)], p, HE.out, hk1, hown2, hb1⟩
    case round =>
      obtain ⟨es, q, he, hk, hown, hbel⟩ := hrel
      obtain ⟨c0, c1, c2⟩ := hk.cells
      obtain ⟨f0, f1, f2⟩ := hk.free
      have hgx := hk.lt
      rcases out_split HL.out q with ⟨e1, e2⟩ | ⟨z, z1, z2, z3, z4, z5, z6, z7⟩
      · have hx : outOf ps l q < 0 := by omega
        have HE : Hid (es = endsOf l p) := Lib.hid (by rw [← he, e2, List.append_nil])
        have HO := Lib.hid hown
        have HB := Lib.hid hbel
        clear hown hbel hk he e1 e2 f0 f1 f2
        generalize outOf ps l q = y at *
        go_wp2
        go_ret
        obtain ⟨a, cap, e, hi, hnil⟩ := own_is HO.out
        rw [HE.out] at e hi
        exact ⟨a, cap, by rw [← e]; rfl, hi, hnil, HB.out⟩
      · have hx : 0 ≤ outOf ps l q := by rw [z5]; exact (place_nonneg ps z).2 z3
        have hlen : es.length + (tailE l q).length = (endsOf l p).length := by rw [← he, List.length_append]
        have HLT : Hid (0 < (tailE l q).length) := Lib.hid (by rw [z6, ends_split, if_pos (own_pos.2 ⟨z2, z1⟩)]; simp)
        have hlt2 := HLT.out
        have hel := HEL.out
        have HC : Hid (Calls Tryz.prog 92 #[.pointer (some ⟨t, 0, none⟩), .int .i64 (outOf ps l q)] wr fun e w' => e = .returned (.agg #[.int .i64 (failOf ps z), .int .i64 (outOf ps l z), .int .i64 (own l z : Int)]) ∧ Below wr.heap.size wr w') := Lib.hid (by
          have := HAT.out wr (outOf ps l q) hbel
          rw [z5] at this ⊢
          rwa [lkAt_place l z3] at this)
        have HE : Hid ((es ++ [(own l z : Int)]) ++ tailE l z = endsOf l p) := Lib.hid (by
          rw [← he, z6, ends_split l z, if_pos (own_pos.2 ⟨z2, z1⟩)]
          simp)
        have HO := Lib.hid hown
        have HB := Lib.hid hbel
        have HK := Lib.hid hk
        clear hown hbel hk he z1 z2 z3 z4 z5 z6 z7
        obtain ⟨av, cv, rfl, _, _⟩ := own_is HO.out
        generalize outOf ps l q = y at *
        generalize failOf ps q = y0 at *
        generalize own l q = y2 at *
        go_wp2_with (first
          | (go_at_call 92; (with_reducible refine HC.out.mono ?_); rintro e w2 ⟨rfl, hb⟩; have HB2 := Lib.hid hb; clear hb; have hk2 := HK.out.keep HB2.out hgx; obtain ⟨d0, d1, d2⟩ := hk2.cells; obtain ⟨g0, g1, g2⟩ := hk2.free; have hgx2 := hk2.lt; have HK2 := Lib.hid hk2; clear hk2)
          | (at_builtin; refine app_is rfl _ _ rfl (gx + 1) _ _ es (own l z : Int) rfl ((own_put3 (own_keep HO.out HB2.out) (Nat.lt_succ_self gx)).alloc _) ⟨w2.heap.size, 0, none⟩ rfl (cell_new_at _ _ (by simp)) (by omega) (by simp; omega) ?_; intro v3 w3 hown3 hg3))
        have hb3 : Below w.heap.size w (put3 w2 gx (.int .i64 (failOf ps z)) (.int .i64 (outOf ps l z)) (.int .i64 (own l z : Int))) := below_put3 (HB.out.trans (HB2.out.mono HB.out.size)) hgw _ _ _
        have hk3 : Blk3 w3 gx 141 (.int .i64 (failOf ps z)) (.int .i64 (outOf ps l z)) (.int .i64 (own l z : Int)) := (hg3.block _ (by simp; omega) (own_far HO.out gx (Nat.lt_succ_self gx))).trans ((Below.heap_alloc _ _ _ (by simp; omega)).trans (HK2.out.put _ _ _))
        refine ⟨⟨es ++ [(own l z : Int)], z, HE.out, hk3, by rw [List.length_append]; exact hown3, (hb3.alloc hb3.size _).grown hg3 (by have := hb3.size; simp [put3] at this ⊢; omega) (fun k hk => by have := own_ge HO.out hk; omega)⟩, ?_⟩
        obtain ⟨g3, cap3, rfl⟩ := own_succ hown3
        simp [lenOf]
        omega
  · have ho2 : ¬ (0 : Int) < (own l p : Int) := by omega
    go_enter Tryz.func132, Tryz.ntmps132
    go_wp2_with fail
    refine HA.out.mono ?_
    rintro e w1 ⟨rfl, hb⟩
    have HB1 := Lib.hid hb
    have hsz := hb.size
    clear hb
    have HK1 := Lib.hid (new_cells w1 (.int .i64 (failOf ps p)) (.int .i64 (outOf ps l p)) (.int .i64 (own l p : Int)) 141)
    go_wp2
    have hk1 : Blk3 (w1.alloc (.cells #[.int .i64 (failOf ps p), .int .i64 (outOf ps l p), .int .i64 (own l p : Int)] 141)) w1.heap.size 141 (.int .i64 (failOf ps p)) (.int .i64 (outOf ps l p)) (.int .i64 (own l p : Int)) := HK1.out
    have hb1 := HB1.out.alloc hsz (.cells #[.int .i64 (failOf ps p), .int .i64 (outOf ps l p), .int .i64 (own l p : Int)] 141)
    have HE : Hid ([] ++ tailE l p = endsOf l p) := Lib.hid (by rw [HSP.out, if_neg ho])
    clear HK1 HA HB1 HSP ho ho2
    generalize w1.alloc (.cells #[.int .i64 (failOf ps p), .int .i64 (outOf ps l p), .int .i64 (own l p : Int)] 141) = w2 at *
    generalize w1.heap.size = gx at *
    have hgw : w.heap.size ≤ gx := hsz
    go_loopw [5] (fun v wr => ∃ (es : List Int) (q : Tx), es ++ tailE l q = endsOf l p ∧ Blk3 wr gx 141 (.int .i64 (failOf ps q)) (.int .i64 (outOf ps l q)) (.int .i64 (own l q : Int)) ∧ wr.ownsRow (gx + 1) 3 1 v es.length (ivals es) ∧ Below w.heap.size w wr) (fun v _ => (endsOf l p).length - lenOf v)
    case atStart => exact ⟨[], p, HE.out, hk1, World.ownsRow_nil _ _ _ _, hb1⟩
    case round =>
      obtain ⟨es, q, he, hk, hown, hbel⟩ := hrel
      obtain ⟨c0, c1, c2⟩ := hk.cells
      obtain ⟨f0, f1, f2⟩ := hk.free
      have hgx := hk.lt
      rcases out_split HL.out q with ⟨e1, e2⟩ | ⟨z, z1, z2, z3, z4, z5, z6, z7⟩
      · have hx : outOf ps l q < 0 := by omega
        have HE : Hid (es = endsOf l p) := Lib.hid (by rw [← he, e2, List.append_nil])
        have HO := Lib.hid hown
        have HB := Lib.hid hbel
        clear hown hbel hk he e1 e2 f0 f1 f2
        generalize outOf ps l q = y at *
        go_wp2
        go_ret
        obtain ⟨a, cap, e, hi, hnil⟩ := own_is HO.out
        rw [HE.out] at e hi
        exact ⟨a, cap, by rw [← e]; rfl, hi, hnil, HB.out⟩
      · have hx : 0 ≤ outOf ps l q := by rw [z5]; exact (place_nonneg ps z).2 z3
        have hlen : es.length + (tailE l q).length = (endsOf l p).length := by rw [← he, List.length_append]
        have HLT : Hid (0 < (tailE l q).length) := Lib.hid (by rw [z6, ends_split, if_pos (own_pos.2 ⟨z2, z1⟩)]; simp)
        have hlt2 := HLT.out
        have hel := HEL.out
        have HC : Hid (Calls Tryz.prog 92 #[.pointer (some ⟨t, 0, none⟩), .int .i64 (outOf ps l q)] wr fun e w' => e = .returned (.agg #[.int .i64 (failOf ps z), .int .i64 (outOf ps l z), .int .i64 (own l z : Int)]) ∧ Below wr.heap.size wr w') := Lib.hid (by
          have := HAT.out wr (outOf ps l q) hbel
          rw [z5] at this ⊢
          rwa [lkAt_place l z3] at this)
        have HE : Hid ((es ++ [(own l z : Int)]) ++ tailE l z = endsOf l p) := Lib.hid (by
          rw [← he, z6, ends_split l z, if_pos (own_pos.2 ⟨z2, z1⟩)]
          simp)
        have HO := Lib.hid hown
        have HB := Lib.hid hbel
        have HK := Lib.hid hk
        clear hown hbel hk he z1 z2 z3 z4 z5 z6 z7
        obtain ⟨av, cv, rfl, _, _⟩ := own_is HO.out
        generalize outOf ps l q = y at *
        generalize failOf ps q = y0 at *
        generalize own l q = y2 at *
        go_wp2_with (first
          | (go_at_call 92; (with_reducible refine HC.out.mono ?_); rintro e w5 ⟨rfl, hb⟩; have HB2 := Lib.hid hb; clear hb; have hk2 := HK.out.keep HB2.out hgx; obtain ⟨d0, d1, d2⟩ := hk2.cells; obtain ⟨g0, g1, g2⟩ := hk2.free; have hgx2 := hk2.lt; have HK2 := Lib.hid hk2; clear hk2)
          | (at_builtin; refine app_is rfl _ _ rfl (gx + 1) _ _ es (own l z : Int) rfl ((own_put3 (own_keep HO.out HB2.out) (Nat.lt_succ_self gx)).alloc _) ⟨w5.heap.size, 0, none⟩ rfl (cell_new_at _ _ (by simp)) (by omega) (by simp; omega) ?_; intro v3 w3 hown3 hg3))
        have hb3 : Below w.heap.size w (put3 w5 gx (.int .i64 (failOf ps z)) (.int .i64 (outOf ps l z)) (.int .i64 (own l z : Int))) := below_put3 (HB.out.trans (HB2.out.mono HB.out.size)) hgw _ _ _
        have hk3 : Blk3 w3 gx 141 (.int .i64 (failOf ps z)) (.int .i64 (outOf ps l z)) (.int .i64 (own l z : Int)) := (hg3.block _ (by simp; omega) (own_far HO.out gx (Nat.lt_succ_self gx))).trans ((Below.heap_alloc _ _ _ (by simp; omega)).trans (HK2.out.put _ _ _))
        refine ⟨⟨es ++ [(own l z : Int)], z, HE.out, hk3, by rw [List.length_append]; exact hown3, (hb3.alloc hb3.size _).grown hg3 (by have := hb3.size; simp [put3] at this ⊢; omega) (fun k hk => by have := own_ge HO.out hk; omega)⟩, ?_⟩
        obtain ⟨g3, cap3, rfl⟩ := own_succ hown3
        simp [lenOf]
        omega
theorem eql_nil32 : ∀ (w : World) (a : Option Addr) (n c n' c' : Nat), (binOp .eql 111 (.slice a n c) (.slice none n' c')).run Tryz.prog w = .ok (.bool a.isNone) w :=
  fun w a n c n' c' => Lib.run_eql_slice_nil w _ _ a n c n' c' und32
set_option maxHeartbeats 2000000 in
theorem iclone_some (l : List Int) (ad : Addr) (cap : Nat) (w : World) (hl : l.length ≤ 1000000) (hb : Is w w.heap.size (some ad) l) :
    Calls Tryz.prog 91 #[.slice (some ad) l.length cap] w (GivesInts w l) := by
  have q32 := eql_nil32
  have HB := Lib.hid (hb.keep ((Below.refl _ w).alloc (Nat.le_refl _) (.cells #[] 3)))
  clear hb
  go_enter Tryz.func91, Tryz.ntmps91
  go_wp2_with (at_builtin; refine app_isl rfl _ _ rfl w.heap.size _ 0 [] rfl (World.ownsRow_made w #[] 0 (Nat.le_refl _) (Nat.zero_le _) rfl) (some ad) l cap w.heap.size rfl HB.out (fun e => by cases e) (by omega) (by simp) ?_; intro v' w1 hown hgrow)
  rw [List.nil_append, Nat.zero_add] at hown
  go_ret
  obtain ⟨a, c, rfl, ht, hnil⟩ := own_is hown
  exact ⟨a, c, rfl, ht, hnil, ((Below.refl _ w).alloc (Nat.le_refl _) _).grown hgrow (by simp) (fun k hk => own_ge (World.ownsRow_made (base := w.heap.size) (e := 3) (size := 1) w #[] 0 (Nat.le_refl _) (Nat.zero_le _) rfl) hk)⟩
set_option maxHeartbeats 1000000 in
theorem iclone_none (n cap : Nat) (w : World) : Calls Tryz.prog 91 #[.slice none n cap] w (GivesInts w []) := by
  have q32 := eql_nil32
  go_enter Tryz.func91, Tryz.ntmps91
  go_wp2
  go_ret
  exact ⟨none, 0, rfl, (fun h => absurd h (by simp)), fun _ => rfl, Below.refl _ _⟩
theorem iclone_any (l : List Int) (a : Option Addr) (cap : Nat) (w : World) (hl : l.length ≤ 1000000) (hb : Is w w.heap.size a l) :
    Calls Tryz.prog 91 #[.slice a l.length cap] w (GivesInts w l) := by
  cases a with
  | some ad => exact iclone_some l ad cap w hl hb
  | none =>
    rcases Nat.eq_zero_or_pos l.length with h0 | h0
    · obtain rfl := List.eq_nil_of_length_eq_zero h0
      exact iclone_none _ cap w
    · obtain ⟨b, off, e, _⟩ := hb h0
      cases e
/-- The order, as numbers. -/
def ordN (ps : List Tx) : List Int := (ord ps).map (place ps)
theorem ordN_len {ps : List Tx} (hw : Wf ps) : (ordN ps).length = ps.length := by rw [ordN, List.length_map, ord_len hw]
set_option maxHeartbeats 1000000 in
theorem order_any (w : World) (s t : Nat) (ps l : List Tx) (h : Li w s t ps l) : Calls Tryz.prog 69 #[.pointer (some ⟨t, 0, none⟩)] w (GivesInts w (ordN ps)) := by
  obtain ⟨hw, hl, hn, h0, g, cap, vo, h1, h2, h3⟩ := h
  obtain ⟨a, c, rfl, hi, hnil⟩ := own_is h3
  have HC := Lib.hid (iclone_any (ordN ps) a c w (by rw [ordN_len hw]; omega) hi)
  obtain ⟨c0, c1⟩ := h1.cells
  have ht := h1.lt
  have e : ((ord ps).map (place ps)).length = (ordN ps).length := rfl
  rw [e] at c1
  generalize ordN ps = o at *
  clear h1 h2 h3 hw hl e hi
  go_enter Tryz.func69, Tryz.ntmps69
  go_wp2_with (go_at_call 91; (with_reducible refine HC.out.mono ?_); rintro e w1 ⟨a1, cap1, rfl, hi1, hnil1, hb1⟩)
  go_ret
  exact ⟨a1, cap1, rfl, hi1, hnil1, hb1⟩
end Go.Proofs.YtcbhjhhajeeimaaGreat.Lnk
/- Contracts of the closure that falls back, of linked and ownText. -/
namespace Go.Proofs.YtcbhjhhajeeimaaGreat.Lnk
open Go.RowKit Go.Maps Go.Proofs.YtcbhjhhajeeimaaGreat.Tri
set_option maxRecDepth 100000

theorem own_word (ps l : List Tx) {p : Tx} (hp : p ∈ ps) : wordOf ps l (place ps p) = place l p ∧ pathD ps (place ps p) = p := by
  obtain ⟨i, hi, e, e2, _⟩ := place_mem hp
  rw [e, wordOf_at l hi, pathD_at hi, e2]
  exact ⟨rfl, rfl⟩
theorem owntext_any (w : World) (s t : Nat) (ps l : List Tx) (h : Tr w s t ps l) (p : Tx) (hp : p ∈ ps) :
    Calls Tryz.prog 87 #[.pointer (some ⟨t, 0, none⟩), .int .i64 (place ps p)] w fun e w' => e = .returned (.int .i64 (own l p : Int)) ∧ Below w.heap.size w w' := by
  have HW := Lib.hid (word_any w s t ps l h (place ps p))
  have HD : Hid (∀ X, Below w.heap.size w X → Calls Tryz.prog 78 #[.pointer (some ⟨t, 0, none⟩), .int .i64 (place ps p)] X fun e w' => e = .returned (.int .i64 (p.length : Int)) ∧ Below X.heap.size X w') := Lib.hid fun X hX => by
    have := depth_any X s t ps l (h.keep hX) (place ps p)
    rwa [(own_word ps l hp).2] at this
  rw [(own_word ps l hp).1] at HW
  clear h
  generalize place ps p = n at *
  by_cases hm : p ∈ l
  · have h0 : ¬ place l p < 0 := by have := (place_nonneg l p).2 hm; omega
    have HE : Hid (own l p = p.length) := Lib.hid (by rw [own, if_pos hm])
    clear hm hp
    generalize place l p = z at *
    go_enter Tryz.func87, Tryz.ntmps87
    go_wp2_with (first | (go_at_call 101; (with_reducible refine HW.out.mono ?_); rintro e w1 ⟨rfl, hb⟩; have HB1 := Lib.hid hb; clear hb) | (go_at_call 78; (with_reducible refine (HD.out _ HB1.out).mono ?_); rintro e w2 ⟨rfl, hb⟩; have HB2 := Lib.hid hb; clear hb))
    go_ret
    exact ⟨ret_int (by rw [HE.out]), HB1.out.trans (HB2.out.mono HB1.out.size)⟩
  · have h0 : place l p < 0 := by rw [place_not hm]; omega
    have HE : Hid (own l p = 0) := Lib.hid (by rw [own, if_neg hm])
    clear hm hp
    generalize place l p = z at *
    go_enter Tryz.func87, Tryz.ntmps87
    go_wp2_with (go_at_call 101; (with_reducible refine HW.out.mono ?_); rintro e w1 ⟨rfl, hb⟩; have HB1 := Lib.hid hb; clear hb)
    go_ret
    exact ⟨ret_int (by rw [HE.out]; rfl), HB1.out⟩
set_option maxHeartbeats 1000000 in
/-- linked, at a node that is in the order. -/
theorem linked_any (w : World) (s t : Nat) (ps l Q : List Tx) (h : LiQ w s t ps l Q) (z : Tx) (hz : z ∈ ps) (hq : z ∈ Q) (n : Nat) :
    Calls Tryz.prog 86 #[.pointer (some ⟨t, 0, none⟩), .int .i64 (place ps z), .int .i64 (n : Int)] w fun e w' => e = .returned (.agg #[.int .i64 (place ps z), .int .i64 (if 0 < own l z then place ps z else outOf ps l z), .int .i64 (n : Int)]) ∧ Below w.heap.size w w' := by
  obtain ⟨g, cap, vo, i, h1, hg, ei, hi, d0, d1, d2⟩ := h.row hz hq
  obtain ⟨c0, c1⟩ := h1.cells
  have ht := h1.lt
  have hin : (i : Int) < (ps.length : Int) := by omega
  rw [ei]
  clear h h1 ei hz hq d0
  generalize outOf ps l z = y at *
  by_cases ho : 0 < own l z
  · rw [if_pos ho]
    have ho2 : ((own l z : Int) == 0) = false := beq_eq_false_iff_ne.2 (by omega)
    go_enter Tryz.func86, Tryz.ntmps86
    go_wp2
    exact bodyPost_ret (v := .agg #[.int .i64 (i : Int), .int .i64 (i : Int), .int .i64 (n : Int)]) (by simp [results, Tryz.results86, go_sem]) rfl ⟨rfl, (Below.refl _ _).alloc (Nat.le_refl _) _⟩
  · rw [if_neg ho]
    have ho2 : own l z = 0 := by omega
    rw [ho2] at d2
    go_enter Tryz.func86, Tryz.ntmps86
    go_wp2
    exact bodyPost_ret (v := .agg #[.int .i64 (i : Int), .int .i64 y, .int .i64 (n : Int)]) (by simp [results, Tryz.results86, go_sem]) rfl ⟨rfl, (Below.refl _ _).alloc (Nat.le_refl _) _⟩
/-- How deep a number is. -/
def mz (ps : List Tx) (n : Int) : Nat := if n < 0 then 0 else (pathD ps n).length + 1
theorem mz_place {ps : List Tx} {z : Tx} (h : z ∈ ps) : mz ps (place ps z) = z.length + 1 := by
  have h0 := (place_nonneg ps z).2 h
  rw [mz, if_neg (by omega), (own_word ps [] h).2]
theorem mz_fail {ps : List Tx} (hw : Wf ps) (z : Tx) : mz ps (failOf ps z) ≤ z.length := by
  by_cases hz : z = []
  · subst hz; rw [fail_nil, mz, if_pos (by omega)]; simp
  · obtain ⟨u, z', e, hu, h1, h2, h3, _⟩ := fail_step hw z hz
    rw [h3, mz_place h1]; omega
set_option maxHeartbeats 2000000 in
/-- The closure: from where a beginning falls to, by a byte. -/
theorem land_any (w : World) (st tt s t : Nat) (ps l Q : List Tx) (htr : Tr w st tt ps l) (h : LiQ w s t ps l Q) (b2 b3 : Nat) (hb2 : w.cell? ⟨b2, 0, none⟩ = some (.pointer (some ⟨t, 0, none⟩))) (hb3 : w.cell? ⟨b3, 0, none⟩ = some (.pointer (some ⟨tt, 0, none⟩)))
    (p : Tx) (hp : ∀ y ∈ ps, y.length < p.length → y ∈ Q) (c : UInt8) :
    Calls Tryz.prog 85 #[.int .i64 (failOf ps p), .int .u8 (c.toNat : Int), .pointer (some ⟨b2, 0, none⟩), .pointer (some ⟨b3, 0, none⟩)] w fun e w' => e = .returned (.int .i64 (failOf ps (p ++ [c]))) ∧ w = w' := by
  have HS := Lib.hid (step_any w st tt ps l htr)
  have HW := Lib.hid htr.2.1
  have hn := htr.2.2.2.1
  have HR : Hid (∀ z ∈ ps, z ∈ Q → _) := Lib.hid (fun z hz hq => h.row (p := z) hz hq)
  have HQ := Lib.hid hp
  clear hp htr h
  go_enter Tryz.func85, Tryz.ntmps85
  go_wp2
  go_loop [0] (fun v => ∃ z : Tx, z.length ≤ p.length ∧ v = .int .i64 (failOf ps z) ∧ failOf ps (z ++ [c]) = failOf ps (p ++ [c])) (fun v => mz ps (intOf v))
  case atStart => exact ⟨p, Nat.le_refl _, rfl, rfl⟩
  case round =>
    obtain ⟨z, hz, rfl, he⟩ := hrel
    by_cases hz0 : z = []
    · subst hz0
      rw [List.nil_append, fail_one HW.out] at he
      have HE := Lib.hid he
      clear he
      rw [fail_nil]
      go_wp2
      go_ret
      exact ⟨ret_int HE.out, rfl⟩
    · obtain ⟨u, y, e, hu, hy, hyl, ef, ec, _⟩ := fail_step HW.out z hz0
      rw [ec c] at he
      obtain ⟨g, cap, vo, i, h1, hg, ei, hi, d0, _, _⟩ := HR.out y hy (HQ.out y hy (by omega))
      have HSC : Hid (Calls Tryz.prog 66 #[.pointer (some ⟨tt, 0, none⟩), .int .i64 (i : Int), .int .u8 (c.toNat : Int)] w fun e w' => e = .returned (.int .i64 (place ps (y ++ [c]))) ∧ w = w') := Lib.hid (by
        have := HS.out (i : Int) (wf_nat (by omega) (by omega)) c
        rwa [← ei, step_eq hy c, ei] at this)
      have HM : Hid (mz ps (failOf ps y) < mz ps (failOf ps z)) := Lib.hid (by
        have := mz_fail HW.out y
        rw [ef, mz_place hy]; omega)
      rw [ef, ei] at HM ⊢
      obtain ⟨c0, c1⟩ := h1.cells
      have ht := h1.lt
      have hin : (i : Int) < (ps.length : Int) := by omega
      clear h1 hy ef ei ec hz0 e hu
      by_cases hm : y ++ [c] ∈ ps
      · rw [if_pos hm] at he
        have hx : 0 ≤ place ps (y ++ [c]) := (place_nonneg ps _).2 hm
        have HE := Lib.hid he
        clear he hm d0
        generalize place ps (y ++ [c]) = x at *
        go_wp2_with (go_at_call 66; (with_reducible refine HSC.out.mono ?_); rintro e w1 ⟨rfl, rfl⟩)
        go_ret
        exact ⟨ret_int HE.out, rfl⟩
      · rw [if_neg hm] at he
        have hx : place ps (y ++ [c]) < 0 := (place_neg ps _).2 hm
        have HE := Lib.hid he
        clear he hm
        generalize place ps (y ++ [c]) = x at *
        generalize hfy : failOf ps y = fy at *
        have HFY := Lib.hid hfy
        clear hfy
        go_wp2_with (go_at_call 66; (with_reducible refine HSC.out.mono ?_); rintro e w1 ⟨rfl, rfl⟩)
        go_round
        case rel => exact ⟨y, by omega, by rw [HFY.out], HE.out⟩
        case measure => simpa [intOf] using HM.out
end Go.Proofs.YtcbhjhhajeeimaaGreat.Lnk
/- What fill changes, block by block. -/
namespace Go.Proofs.YtcbhjhhajeeimaaGreat.Lnk
open Go.RowKit Go.Maps Go.Proofs.YtcbhjhhajeeimaaGreat.Tri
set_option maxRecDepth 100000

/-- Blocks that are neither links, nor tables of them, nor numbers, stay. -/
def Kp (W W' : World) : Prop := W.heap.size ≤ W'.heap.size ∧ ∀ (b : Nat) cs t fr, W.heap[b]? = some (.cells cs t fr) → t ≠ 139 → t ≠ 141 → t ≠ 3 → W'.heap[b]? = W.heap[b]?
theorem Kp.refl (W : World) : Kp W W := ⟨Nat.le_refl _, fun _ _ _ _ _ _ _ _ => rfl⟩
theorem Kp.trans {A B C : World} (h : Kp A B) (k : Kp B C) : Kp A C :=
  ⟨Nat.le_trans h.1 k.1, fun b cs t fr e h1 h2 h3 => by
    have e1 := h.2 b cs t fr e h1 h2 h3
    exact (k.2 b cs t fr (e1.trans e) h1 h2 h3).trans e1⟩
theorem Kp.of_below {A B : World} (h : Below A.heap.size A B) : Kp A B := ⟨h.size, fun b _ _ _ e _ _ _ => h.block b (txt_lt e)⟩
theorem Kp.set {A : World} {g : Nat} {cs t fr} (hg : A.heap[g]? = some (.cells cs t fr)) (ht : t = 139 ∨ t = 141 ∨ t = 3) (i : Nat) (v : Value) : Kp A (A.setCell ⟨g, i, none⟩ v) :=
  ⟨by simp, fun b cs' t' fr' e h1 h2 h3 => Below.heap_setCell A ⟨g, i, none⟩ v b (fun q => by
    subst q
    rw [hg] at e
    injection e with e
    injection e with _ e
    subst e
    rcases ht with rfl | rfl | rfl <;> contradiction)⟩
theorem Kp.txt {A B : World} (h : Kp A B) {s : Nat} {a : Option Addr} {l : List UInt8} (ht : Txt A s a l) : Txt B s a l := fun h0 => by
  obtain ⟨b, cs, e, hs, hh, hc⟩ := ht h0
  exact ⟨b, cs, e, hs, (h.2 b cs 5 _ hh (by decide) (by decide) (by decide)).trans hh, hc⟩
/-- A block of one cell. -/
def Blk1 (w : World) (g : Nat) (t : TypeId) (u : Value) : Prop := w.heap[g]? = some (.cells #[u] t (0, 0))
theorem Blk1.lt {w : World} {g : Nat} {t : TypeId} {u : Value} (h : Blk1 w g t u) : g < w.heap.size := txt_lt h
theorem Blk1.cell {w : World} {g : Nat} {t : TypeId} {u : Value} (h : Blk1 w g t u) : w.cell? ⟨g, 0, none⟩ = some u := by
  unfold Blk1 at h
  rw [cell_of_row w g _ _ t (0, 0) h]; rfl
theorem Kp.blk1 {A B : World} (h : Kp A B) {g t : Nat} {u : Value} (hb : Blk1 A g t u) (h1 : t ≠ 139 := by decide) (h2 : t ≠ 141 := by decide) (h3 : t ≠ 3 := by decide) : Blk1 B g t u := (h.2 g _ t _ hb h1 h2 h3).trans hb
/-- A link stored. -/
def putL (w : World) (g m : Nat) (r : Lk) : World := ((w.setCell ⟨g, m * 3, none⟩ (.int .i64 r.fail)).setCell ⟨g, m * 3 + 1, none⟩ (.int .i64 r.out)).setCell ⟨g, m * 3 + 2, none⟩ (.int .i64 (r.own : Int))
theorem putL_other {w : World} {g m k : Nat} {r : Lk} (h : k ≠ g) : (putL w g m r).heap[k]? = w.heap[k]? := by
  unfold putL
  rw [Below.heap_setCell _ _ _ _ h, Below.heap_setCell _ _ _ _ h, Below.heap_setCell _ _ _ _ h]
theorem below_putL {B : Nat} {a w : World} (h : Below B a w) {g : Nat} (hg : B ≤ g) (m : Nat) (r : Lk) : Below B a (putL w g m r) :=
  ((h.setCell (p := ⟨g, m * 3, none⟩) hg _).setCell (p := ⟨g, m * 3 + 1, none⟩) hg _).setCell (p := ⟨g, m * 3 + 2, none⟩) hg _
theorem putL_size (w : World) (g m : Nat) (r : Lk) : (putL w g m r).heap.size = w.heap.size := by simp [putL]
/-- The table, one link more. -/
theorem tab_store {w : World} {s x g cap : Nat} {vo : Value} {ps l Q : List Tx} (hw : Wf ps)
    (h1 : Blk2 w x 139 (.slice (some ⟨g, 0, none⟩) ps.length cap) vo) (h2 : w.ownsRow s 141 3 (.slice (some ⟨g, 0, none⟩) ps.length cap) ps.length (lvals (lks ps l Q))) (h3 : w.ownsRow s 3 1 vo Q.length (ivals (Q.map (place ps))))
    {m : Nat} (hm : m < ps.length) : Blk2 (putL w g m (lkOf ps l ps[m])) x 139 (.slice (some ⟨g, 0, none⟩) ps.length cap) vo ∧ (putL w g m (lkOf ps l ps[m])).ownsRow s 141 3 (.slice (some ⟨g, 0, none⟩) ps.length cap) ps.length (lvals (lks ps l (Q ++ [ps[m]]))) ∧
      (putL w g m (lkOf ps l ps[m])).ownsRow s 3 1 vo Q.length (ivals (Q.map (place ps))) ∧ Kp w (putL w g m (lkOf ps l ps[m])) ∧ s ≤ g ∧ g ≠ x := by
  obtain ⟨hsg, hgz, cs, hh⟩ := own_block_lt h2 (g := g) rfl
  have hgx : g ≠ x := fun e => by
    rw [e] at hh
    have := hh.symm.trans h1
    simp at this
  refine ⟨h1.same (putL_other hgx.symm), ?_, own_far_block h3 fun k hk => putL_other fun e => ?_, ?_, hsg, hgx⟩
  · rw [lks_snoc hw l Q hm, ← lvals_set _ m _ (by rw [lks_length]; exact hm)]
    exact (((h2.stored (m * 3) (.int .i64 (lkOf ps l ps[m]).fail)).1.stored (m * 3 + 1) (.int .i64 (lkOf ps l ps[m]).out)).1.stored (m * 3 + 2) (.int .i64 ((lkOf ps l ps[m]).own : Int))).1
  · subst e
    obtain ⟨_, _, cs', hh'⟩ := own_block_lt h3 hk
    have := hh.symm.trans hh'
    simp at this
  · refine ⟨by rw [putL_size]; exact Nat.le_refl _, fun b cs' t fr e h4 h5 h6 => putL_other fun q => ?_⟩
    subst q
    rw [hh] at e
    injection e with e
    injection e with _ e
    exact h5 e.symm
/-- The order, one number more. -/
theorem ord_store {w w4 : World} {s x g cap : Nat} {vo v4 : Value} {ps l Q : List Tx} {q : Tx} (hs : s ≤ x)
    (h1 : Blk2 w x 139 (.slice (some ⟨g, 0, none⟩) ps.length cap) vo) (h2 : w.ownsRow s 141 3 (.slice (some ⟨g, 0, none⟩) ps.length cap) ps.length (lvals (lks ps l (Q ++ [q])))) (h3 : w.ownsRow s 3 1 vo Q.length (ivals (Q.map (place ps))))
    (hsz : w.heap.size ≤ w4.heap.size) (hg : ∀ b, b < w.heap.size → some b ≠ vo.ownBlock → w4.heap[b]? = w.heap[b]?) (h4 : w4.ownsRow s 3 1 v4 (Q.length + 1) (ivals (Q.map (place ps) ++ [place ps q]))) :
    LiQ (w4.setCell ⟨x, 1, none⟩ v4) s x ps l (Q ++ [q]) ∧ Kp w (w4.setCell ⟨x, 1, none⟩ v4) := by
  have hx : some x ≠ vo.ownBlock := fun e => by
    obtain ⟨_, _, cs, hh⟩ := own_block_lt h3 e.symm
    have := hh.symm.trans h1
    simp at this
  obtain ⟨_, hgz, cs, hh⟩ := own_block_lt h2 (g := g) rfl
  have hgo : some g ≠ vo.ownBlock := fun e => by
    obtain ⟨_, _, cs', hh'⟩ := own_block_lt h3 e.symm
    have := hh.symm.trans hh'
    simp at this
  have hgx : g ≠ x := fun e => by
    rw [e] at hh
    have := hh.symm.trans h1
    simp at this
  have h14 := h1.same (hg x h1.lt hx)
  refine ⟨⟨hs, g, cap, v4, h14.put1 v4, own_far_block h2 fun k hk => ?_, ?_⟩, by simpa using hsz, fun b cs' t fr e h5 h6 h7 => ?_⟩
  · have e : g = k := by simpa [Value.ownBlock] using hk
    subst e
    rw [Below.heap_setCell w4 ⟨x, 1, none⟩ v4 _ hgx]
    exact hg _ hgz hgo
  · rw [List.length_append, List.length_singleton, List.map_append]
    refine own_far_block h4 fun k hk => Below.heap_setCell w4 ⟨x, 1, none⟩ v4 k fun e => ?_
    subst e
    obtain ⟨_, _, cs', hh'⟩ := own_block_lt h4 hk
    have := hh'.symm.trans h14
    simp at this
  · have hne : b ≠ x := fun q => by
      subst q
      have := e.symm.trans h1
      simp at this
      exact h5 this.2.1
    have hno : some b ≠ vo.ownBlock := fun q => by
      obtain ⟨_, _, cs', hh'⟩ := own_block_lt h3 q.symm
      have := e.symm.trans hh'
      simp at this
      exact h7 this.2.1
    rw [Below.heap_setCell w4 ⟨x, 1, none⟩ v4 b hne]
    exact hg b (txt_lt e) hno
end Go.Proofs.YtcbhjhhajeeimaaGreat.Lnk
/- The contract of fill. -/
namespace Go.Proofs.YtcbhjhhajeeimaaGreat.Lnk
open Go.RowKit Go.Maps Go.Proofs.YtcbhjhhajeeimaaGreat.Tri Go.Proofs.YtcbhjhhajeeimaaGreat.Reg
set_option maxRecDepth 100000

theorem kidsT_at (ps : List Tx) (p : Tx) (j : Nat) (h : j < (rkids ps p).length) : (kidsT ps p)[j]'(by unfold kidsT; simpa using h) = p ++ [(rkids ps p)[j]] := by simp [kidsT]
theorem kidsT_len (ps : List Tx) (p : Tx) : (kidsT ps p).length = (rkids ps p).length := by simp [kidsT]
theorem kidsT_take (ps : List Tx) (p : Tx) (j : Nat) (h : j < (rkids ps p).length) : (kidsT ps p).take (j + 1) = (kidsT ps p).take j ++ [p ++ [(rkids ps p)[j]]] := by
  rw [List.take_succ_eq_append_getElem (by rw [kidsT_len]; exact h), kidsT_at ps p j h]
set_option maxHeartbeats 4000000 in
theorem fill_any (w0 w : World) (st tt s x : Nat) (ps l : List Tx) (htr : Tr w0 st tt ps l) (hb0 : Below w0.heap.size w0 w) (hs : w0.heap.size = s) (h : LiQ w s x ps l [[]]) (hn : ps.length ≤ 1000000) :
    Calls Tryz.prog 64 #[.pointer (some ⟨x, 0, none⟩), .pointer (some ⟨tt, 0, none⟩)] w fun e w' => (∃ v, e = .returned v) ∧ LiQ w' s x ps l (ord ps) ∧ Below s w0 w' := by
  have HW := Lib.hid htr.2.1
  have HLS := Lib.hid htr.2.2.1
  have HT : Hid (∀ X, Below s w0 X → Tr X st tt ps l) := Lib.hid fun X hX => htr.keep (by rw [hs]; exact hX)
  rw [hs] at hb0
  have HB0 := Lib.hid hb0
  have hsz : s ≤ w.heap.size := by have := hb0.size; omega
  have HI := Lib.hid h
  have HIV := Lib.hid (fun i => inv_bq HW.out i)
  have hsw0 : s ≤ w0.heap.size := by omega
  clear htr hb0 h hs
  go_enter Tryz.func64, Tryz.ntmps64
  go_wp2
  have hk2 : Blk1 ((w.alloc (.cells #[.pointer (some ⟨x, 0, none⟩)] 100)).alloc (.cells #[.pointer (some ⟨tt, 0, none⟩)] 98)) w.heap.size 100 (.pointer (some ⟨x, 0, none⟩)) := (Below.heap_alloc _ _ _ (by simp)).trans (heap_alloc_new w _)
  have hk3 : Blk1 ((w.alloc (.cells #[.pointer (some ⟨x, 0, none⟩)] 100)).alloc (.cells #[.pointer (some ⟨tt, 0, none⟩)] 98)) (w.heap.size + 1) 98 (.pointer (some ⟨tt, 0, none⟩)) := by
    have := heap_alloc_new (w.alloc (.cells #[.pointer (some ⟨x, 0, none⟩)] 100)) (.cells #[.pointer (some ⟨tt, 0, none⟩)] 98)
    rwa [World.size_alloc] at this
  have hli := HI.out.keep (((Below.refl _ w).alloc (Nat.le_refl _) (.cells #[.pointer (some ⟨x, 0, none⟩)] 100)).alloc (by simp) (.cells #[.pointer (some ⟨tt, 0, none⟩)] 98))
  have hbl := (HB0.out.alloc hsz (.cells #[.pointer (some ⟨x, 0, none⟩)] 100)).alloc (by simp; omega) (.cells #[.pointer (some ⟨tt, 0, none⟩)] 98)
  clear HI HB0
  generalize (w.alloc (.cells #[.pointer (some ⟨x, 0, none⟩)] 100)).alloc (.cells #[.pointer (some ⟨tt, 0, none⟩)] 98) = w1 at *
  obtain ⟨b3, hb3⟩ : ∃ b3, b3 = w.heap.size + 1 := ⟨_, rfl⟩
  rw [← hb3] at hk3 ⊢
  clear hb3
  generalize w.heap.size = b2 at *
  go_step3
  go_wp2
  go_step3
  go_wp2
  go_loopw [5] (fun i wr => ∃ k : Nat, k ≤ (bq ps k).length ∧ i = .int .i64 k ∧ LiQ wr s x ps l (bq ps k) ∧ Below s w0 wr ∧ Blk1 wr b2 100 (.pointer (some ⟨x, 0, none⟩)) ∧ Blk1 wr b3 98 (.pointer (some ⟨tt, 0, none⟩))) (fun i _ => ps.length - (intOf i).toNat)
  case atStart => exact ⟨0, Nat.zero_le _, rfl, hli, hbl, hk2, hk3⟩
  case round =>
    obtain ⟨k, hk, rfl, hq, hbel, k2, k3⟩ := hrel
    have hql := bq_len HW.out k
    by_cases hlt : k < (bq ps k).length
    · have HI2 := Lib.hid (HIV.out k)
      have HSUCC := Lib.hid (bq_succ hlt)
      have HFULL := Lib.hid (fun q => ord_of_full HW.out (q := q) hlt)
      have HSH : Hid (∀ y ∈ ps, y.length < (bq ps k)[k].length + 1 → y ∈ bq ps k) := Lib.hid fun y hy hle => (HIV.out k).shallow HW.out hlt _ y rfl (by omega) hy
      have hpq := List.getElem_mem hlt
      have hpp := (HIV.out k).sub _ hpq
      generalize hQ : bq ps k = Q at *
      generalize hP : Q[k] = p at *
      have ⟨hs0, g, cap, vo, h1, h2, h3⟩ := hq
      have ⟨a, co, evo, hi, hnil⟩ := own_is h3
      have hz : k < (Q.map (place ps)).length := by simpa using hlt
      obtain ⟨bo, oo, rfl, hbo, hco⟩ := hi (by omega)
      have hck := hco k hz
      rw [List.getElem_map, hP] at hck
      subst evo
      obtain ⟨c0, c1⟩ := h1.cells
      have hx := h1.lt
      have d2 := k2.cell
      have d3 := k3.cell
      have hkl : (k : Int) < ((Q.map (place ps)).length : Int) := by omega
      have HKC : Hid (Calls Tryz.prog 65 #[.pointer (some ⟨tt, 0, none⟩), .int .i64 (place ps p)] wr (GivesText wr (rkids ps p))) := Lib.hid (by
        have := kids_any wr st tt ps l (HT.out _ hbel) (place ps p) (wf_nat (place_ge _ _) (by have := place_lt ps p; omega))
        rwa [kids_eq hpp] at this)
      obtain ⟨i, hip, ei, ei2, _⟩ := place_mem hpp
      rw [ei] at hck HKC
      have HEI := Lib.hid ei
      have HEI2 := Lib.hid ei2
      have HPP := Lib.hid hpp
      have HPQ := Lib.hid hpq
      have HKL := Lib.hid (kidsT_len ps p)
      have HKT := Lib.hid (kidsT_take ps p)
      have HMK := Lib.hid (mem_rkids ps p)
      have HLQ := Lib.hid hq
      have HBE := Lib.hid hbel
      have HK2 := Lib.hid k2
      have HK3 := Lib.hid k3
      have HLT := Lib.hid hlt
      clear h1 h2 h3 hi hco hbel k2 k3 ei ei2 hpp hpq hq hlt hQ hP
      generalize hks : rkids ps p = ks at *
      clear hks
      go_wp2_with (go_at_call 65; (with_reducible refine HKC.out.mono ?_); rintro e w2 ⟨ak, ck, rfl, htx, hkc, hkn, hb2⟩)
      have HTX := Lib.hid htx
      have hq2 := HLQ.out.keep hb2
      have hbe2 := HBE.out.trans (hb2.mono (by have := HBE.out.size; omega))
      have HB2K := Lib.hid (Kp.of_below hb2)
      clear htx hb2 hck c0 c1 d2 d3 hbo hx HKC HLQ HBE
      go_loopw [31] (fun v wr => ∃ j : Nat, j ≤ ks.length ∧ v = .int .i64 (j : Int) ∧ LiQ wr s x ps l (Q ++ (kidsT ps p).take j) ∧ Below s w0 wr ∧ Kp w2 wr) (fun v _ => ks.length - (intOf v).toNat)
      case atStart => exact ⟨0, Nat.zero_le _, rfl, by rw [List.take_zero, List.append_nil]; exact hq2, hbe2, Kp.refl _⟩
      case round =>
        obtain ⟨j, hj, rfl, hq, hbel, hkp⟩ := hrel
        by_cases hjl : j < ks.length
        · obtain ⟨bk, ok, rfl, hbk, hcc⟩ := (hkp.txt HTX.out).bs (by omega)
          have hck := hcc j hjl
          have HTK := Lib.hid (HKT.out j hjl)
          have hqp : p ++ [ks[j]] ∈ ps := (HMK.out ks[j]).1 (List.getElem_mem hjl)
          obtain ⟨m, hm, em, em2, _⟩ := place_mem hqp
          obtain ⟨g, cap, vo, hs0, h1, h2, h3, hg, hr⟩ := hq.rows
          have hpQ : ps[i] ∈ Q ++ (kidsT ps p).take j := List.mem_append_left _ (by rw [HEI2.out]; exact HPQ.out)
          obtain ⟨r0, _, _⟩ := hr i hip hpQ
          rw [HEI2.out] at r0
          have k2 := HB2K.out.blk1 HK2.out
          have k3 := HB2K.out.blk1 HK3.out
          have k2 := hkp.blk1 k2
          have k3 := hkp.blk1 k3
          have d2 := k2.cell
          have d3 := k3.cell
          obtain ⟨c0, c1⟩ := h1.cells
          have hx := h1.lt
          have hbd := below_drews (Below.refl wr.heap.size wr) 1
          have htr := HT.out _ (below_drews hbel 1)
          have hqd := hq.keep hbd
          have hsd : s ≤ wr.drew.heap.size := by have := hbel.size; show s ≤ wr.heap.size; omega
          have HSTEP : Hid (Calls Tryz.prog 66 #[.pointer (some ⟨tt, 0, none⟩), .int .i64 (i : Int), .int .u8 (ks[j].toNat : Int)] wr fun e w' => e = .returned (.int .i64 (m : Int)) ∧ wr = w') := Lib.hid (by
            have := step_any wr st tt ps l (HT.out _ hbel) (i : Int) (wf_nat (by omega) (by omega)) ks[j]
            rwa [← HEI.out, step_eq HPP.out, em, HEI.out] at this)
          obtain ⟨u, z, ez, hu, hzp, hzl, ef, _, eo, _⟩ := fail_step HW.out (p ++ [ks[j]]) (by simp)
          have hzQ : z ∈ Q ++ (kidsT ps p).take j := List.mem_append_left _ (HSH.out z hzp (by simp at hzl; omega))
          have eo := eo l HLS.out
          have HLAND : Hid (Calls Tryz.prog 85 #[.int .i64 (failOf ps p), .int .u8 (ks[j].toNat : Int), .pointer (some ⟨b2, 0, none⟩), .pointer (some ⟨b3, 0, none⟩)] wr.drew fun e w' => e = .returned (.int .i64 (failOf ps (p ++ [ks[j]]))) ∧ wr.drew = w') := Lib.hid (land_any wr.drew st tt s x ps l _ htr hqd b2 b3 d2 d3 p (fun y hy hyl => List.mem_append_left _ (HSH.out y hy (by omega))) ks[j])
          have HOWN : Hid (∀ X, Below wr.drew.heap.size wr.drew X → Calls Tryz.prog 87 #[.pointer (some ⟨tt, 0, none⟩), .int .i64 (m : Int)] X fun e w' => e = .returned (.int .i64 (own l (p ++ [ks[j]]) : Int)) ∧ Below X.heap.size X w') := Lib.hid fun X hX => by
            have := owntext_any X st tt ps l (htr.keep hX) (p ++ [ks[j]]) hqp
            rwa [em] at this
          have HLINK : Hid (∀ X, Below wr.drew.heap.size wr.drew X → Calls Tryz.prog 86 #[.pointer (some ⟨x, 0, none⟩), .int .i64 (failOf ps (p ++ [ks[j]])), .int .i64 (own l (p ++ [ks[j]]) : Int)] X fun e w' => e = .returned (.agg #[.int .i64 (failOf ps (p ++ [ks[j]])), .int .i64 (outOf ps l (p ++ [ks[j]])), .int .i64 (own l (p ++ [ks[j]]) : Int)]) ∧ Below X.heap.size X w') := Lib.hid fun X hX => by
            have := linked_any X s x ps l _ (hqd.keep hX) z hzp hzQ (own l (p ++ [ks[j]]))
            rwa [← ef, ← (show outOf ps l (p ++ [ks[j]]) = if 0 < own l z then failOf ps (p ++ [ks[j]]) else outOf ps l z by rw [ef]; exact eo)] at this
          have hfr : ∀ X, Below wr.drew.heap.size wr.drew X → (∃ a, X.cell? ⟨g, m * 3, none⟩ = some a) ∧ (∃ a, X.cell? ⟨g, m * 3 + 1, none⟩ = some a) ∧ (∃ a, X.cell? ⟨g, m * 3 + 2, none⟩ = some a) ∧ X.frozen? ⟨g, m * 3, none⟩ = false ∧ X.frozen? ⟨g, m * 3 + 1, none⟩ = false ∧ X.frozen? ⟨g, m * 3 + 2, none⟩ = false ∧ g < X.heap.size := fun X hX => by
            have h2' := own_keep (own_keep h2 hbd) hX
            obtain ⟨c0, c1, c2⟩ := own_row3 h2' (lks_length ps l _) (i := m) (by rw [lks_length]; exact hm)
            exact ⟨⟨_, c0⟩, ⟨_, c1⟩, ⟨_, c2⟩, h2'.frozenAt _, h2'.frozenAt _, h2'.frozenAt _, (own_block_lt h2' rfl).2.1⟩
          have hend : ∀ X, Below wr.drew.heap.size wr.drew X → Blk2 (putL X g m ⟨failOf ps (p ++ [ks[j]]), outOf ps l (p ++ [ks[j]]), own l (p ++ [ks[j]])⟩) x 139 (.slice (some ⟨g, 0, none⟩) ps.length cap) vo ∧ (putL X g m ⟨failOf ps (p ++ [ks[j]]), outOf ps l (p ++ [ks[j]]), own l (p ++ [ks[j]])⟩).ownsRow s 141 3 (.slice (some ⟨g, 0, none⟩) ps.length cap) ps.length (lvals (lks ps l ((Q ++ (kidsT ps p).take j) ++ [p ++ [ks[j]]]))) ∧
              (putL X g m ⟨failOf ps (p ++ [ks[j]]), outOf ps l (p ++ [ks[j]]), own l (p ++ [ks[j]])⟩).ownsRow s 3 1 vo (Q ++ (kidsT ps p).take j).length (ivals ((Q ++ (kidsT ps p).take j).map (place ps))) ∧ Kp wr (putL X g m ⟨failOf ps (p ++ [ks[j]]), outOf ps l (p ++ [ks[j]]), own l (p ++ [ks[j]])⟩) ∧ Below s w0 (putL X g m ⟨failOf ps (p ++ [ks[j]]), outOf ps l (p ++ [ks[j]]), own l (p ++ [ks[j]])⟩) ∧
              (putL X g m ⟨failOf ps (p ++ [ks[j]]), outOf ps l (p ++ [ks[j]]), own l (p ++ [ks[j]])⟩).cell? ⟨g, i * 3, none⟩ = some (.int .i64 (failOf ps p)) := fun X hX => by
            have ht := tab_store HW.out (h1.same ((hX.block x hx).trans rfl)) (own_keep (own_keep h2 hbd) hX) (own_keep (own_keep h3 hbd) hX) (l := l) hm
            have el : lkOf ps l ps[m] = ⟨failOf ps (p ++ [ks[j]]), outOf ps l (p ++ [ks[j]]), own l (p ++ [ks[j]])⟩ := by rw [em2]; rfl
            rw [el, em2] at ht
            obtain ⟨t1, t2, t3, t4, t5, t6⟩ := ht
            refine ⟨t1, t2, t3, ((Kp.of_below hbd).trans (Kp.of_below hX)).trans t4, below_putL ((below_drews hbel 1).trans (hX.mono hsd)) t5 _ _, ?_⟩
            obtain ⟨e0, _, _⟩ := own_row3 t2 (lks_length ps l _) (i := i) (by rw [lks_length]; exact hip)
            rw [lks_at ps l _ i hip, if_pos (List.mem_append_left _ hpQ), HEI2.out] at e0
            exact e0
          have HSX : Hid (wr.drew.cell? ⟨b2, 0, none⟩ = some (.pointer (some ⟨x, 0, none⟩)) ∧ wr.drew.cell? ⟨b3, 0, none⟩ = some (.pointer (some ⟨tt, 0, none⟩)) ∧ wr.drew.cell? ⟨x, 0, none⟩ = some (.slice (some ⟨g, 0, none⟩) ps.length cap) ∧ wr.drew.cell? ⟨g, i * 3, none⟩ = some (.int .i64 (failOf ps p))) := Lib.hid ⟨d2, d3, c0, r0⟩
          have HKS : Hid (∀ X, Below wr.drew.heap.size wr.drew X → X.cell? ⟨b2, 0, none⟩ = some (.pointer (some ⟨x, 0, none⟩)) ∧ X.cell? ⟨b3, 0, none⟩ = some (.pointer (some ⟨tt, 0, none⟩)) ∧ X.cell? ⟨x, 0, none⟩ = some (.slice (some ⟨g, 0, none⟩) ps.length cap) ∧ X.cell? ⟨g, i * 3, none⟩ = some (.int .i64 (failOf ps p))) := Lib.hid fun X hX => ⟨(hX.cell (p := ⟨b2, 0, none⟩) k2.lt).trans d2, (hX.cell (p := ⟨b3, 0, none⟩) k3.lt).trans d3, (hX.cell (p := ⟨x, 0, none⟩) hx).trans c0, (hX.cell (p := ⟨g, i * 3, none⟩) hg).trans r0⟩
          have hfull : Q.length + ks.length ≤ ps.length := by have := bq_len HW.out (k + 1); rw [HSUCC.out, List.length_append, HKL.out] at this; exact this
          have hqjl : (Q ++ (kidsT ps p).take j).length + 1 ≤ ps.length := by rw [List.length_append, List.length_take, HKL.out]; omega
          have HST := Lib.hid hfr
          have HEND := Lib.hid hend
          have HB0 := Lib.hid hbel
          have HKP := Lib.hid hkp
          have HWK2 := Lib.hid k2
          have HWK3 := Lib.hid k3
          have HEM := Lib.hid em
          have hil : (i : Int) < (ps.length : Int) := by omega
          have hml : (m : Int) < (ps.length : Int) := by omega
          have hjk : (j : Int) < (ks.length : Int) := by omega
          clear hfr hend hr h1 h2 h3 r0 d2 c0 c1 htr hqd hbd hbel hkp k2 k3 em em2 hqp ez hu hzp hzl ef eo hzQ hpQ hcc hq
          generalize failOf ps (p ++ [ks[j]]) = F at *
          generalize outOf ps l (p ++ [ks[j]]) = O at *
          generalize own l (p ++ [ks[j]]) = N at *
          generalize failOf ps p = F0 at *
          generalize hqq : p ++ [ks[j]] = q at *
          clear hqq
          generalize ks[j] = c at *
          generalize hQj : Q ++ (kidsT ps p).take j = Qj at *
          have HQJ := Lib.hid hQj
          clear hQj
          go_wp2_with (go_at_call 66; (with_reducible refine HSTEP.out.mono ?_); rintro e w1 ⟨rfl, rfl⟩)
          clear HSTEP hck d3
          refine wp_region_held_drew (S := fun w' => w'.cell? ⟨b2, 0, none⟩ = some (.pointer (some ⟨x, 0, none⟩)) ∧ w'.cell? ⟨b3, 0, none⟩ = some (.pointer (some ⟨tt, 0, none⟩)) ∧ w'.cell? ⟨x, 0, none⟩ = some (.slice (some ⟨g, 0, none⟩) ps.length cap) ∧ w'.cell? ⟨g, i * 3, none⟩ = some (.int .i64 F0)) (by kernel_rfl) HSX.out (fun hH0 => ?_)
          generalize wr.drew = x0 at *
          refine held_take (i := 0) (d := 39) (oi := _) (v := ?_) rfl rfl (by kernel_rfl) (by kernel_rfl) (by kernel_rfl) (fun _ _ _ h => h) (Or.inl ⟨by rfl, ?_⟩) (by assumption) ?_
          rotate_left
          · (intro w hSw; obtain ⟨s1, s2, s3, s4⟩ := hSw; go_simp; (try with_reducible rfl))
          simp only [Act.put, List.setIfInBounds_toArray, List.set_cons_zero, List.set_cons_succ]
          refine held_take (i := 1) (d := 40) (oi := _) (v := ?_) rfl rfl (by kernel_rfl) (by kernel_rfl) (by kernel_rfl) (fun _ _ _ h => h) (Or.inl ⟨by rfl, ?_⟩) (by assumption) ?_
          rotate_left
          · (intro w hSw; obtain ⟨s1, s2, s3, s4⟩ := hSw; go_simp; (try with_reducible rfl))
          simp only [Act.put, List.setIfInBounds_toArray, List.set_cons_zero, List.set_cons_succ]
          refine held_take (i := 2) (d := 41) (oi := _) (v := ?_) rfl rfl (by kernel_rfl) (by kernel_rfl) (by kernel_rfl) (fun _ _ _ h => h) (Or.inl ⟨by rfl, ?_⟩) (by assumption) ?_
          rotate_left
          · (intro w hSw; obtain ⟨s1, s2, s3, s4⟩ := hSw; go_simp; (try with_reducible rfl))
          simp only [Act.put, List.setIfInBounds_toArray, List.set_cons_zero, List.set_cons_succ]
          refine held_take (i := 3) (d := 42) (oi := _) (v := ?_) rfl rfl (by kernel_rfl) (by kernel_rfl) (by kernel_rfl) (fun _ _ _ h => h) (Or.inl ⟨by rfl, ?_⟩) (by assumption) ?_
          rotate_left
          · (intro w hSw; obtain ⟨s1, s2, s3, s4⟩ := hSw; go_simp; (try with_reducible rfl))
          simp only [Act.put, List.setIfInBounds_toArray, List.set_cons_zero, List.set_cons_succ]
          refine held_take (i := 4) (d := 43) (oi := _) (v := ?_) rfl rfl (by kernel_rfl) (by kernel_rfl) (by kernel_rfl) (fun _ _ _ h => h) (Or.inl ⟨by rfl, ?_⟩) (by assumption) ?_
          rotate_left
          · (intro w hSw; obtain ⟨s1, s2, s3, s4⟩ := hSw; go_simp; (try with_reducible rfl))
          simp only [Act.put, List.setIfInBounds_toArray, List.set_cons_zero, List.set_cons_succ]
          refine held_take (i := 5) (d := 44) (oi := _) (v := ?_) rfl rfl (by kernel_rfl) (by kernel_rfl) (by kernel_rfl) (fun _ _ _ h => h) (Or.inl ⟨by rfl, ?_⟩) (by assumption) ?_
          rotate_left
          · (intro w hSw; obtain ⟨s1, s2, s3, s4⟩ := hSw; go_simp; (try with_reducible rfl))
          simp only [Act.put, List.setIfInBounds_toArray, List.set_cons_zero, List.set_cons_succ]
          refine held_take (i := 6) (d := 45) (oi := _) (v := ?_) rfl rfl (by kernel_rfl) (by kernel_rfl) (by kernel_rfl) (fun _ _ _ h => h) (Or.inl ⟨by rfl, ?_⟩) (by assumption) ?_
          rotate_left
          · (intro w hSw; obtain ⟨s1, s2, s3, s4⟩ := hSw; go_simp; (try with_reducible rfl))
          simp only [Act.put, List.setIfInBounds_toArray, List.set_cons_zero, List.set_cons_succ]
          refine held_take (i := 7) (d := 46) (oi := _) (v := ?_) rfl rfl (by kernel_rfl) (by kernel_rfl) (by kernel_rfl) (fun _ _ _ h => h) (Or.inl ⟨by rfl, ?_⟩) (by assumption) ?_
          rotate_left
          · (intro w hSw; obtain ⟨s1, s2, s3, s4⟩ := hSw; go_simp; (try with_reducible rfl))
          simp only [Act.put, List.setIfInBounds_toArray, List.set_cons_zero, List.set_cons_succ]
          refine held_take (i := 8) (d := 47) (oi := _) (v := ?_) rfl rfl (by kernel_rfl) (by kernel_rfl) (by kernel_rfl) (fun _ _ _ h => h) (Or.inl ⟨by rfl, ?_⟩) (by assumption) ?_
          rotate_left
          · (intro w hSw; obtain ⟨s1, s2, s3, s4⟩ := hSw; go_simp; (try with_reducible rfl))
          simp only [Act.put, List.setIfInBounds_toArray, List.set_cons_zero, List.set_cons_succ]
          refine held_take (i := 9) (d := 48) (oi := _) (v := ?_) rfl rfl (by kernel_rfl) (by kernel_rfl) (by kernel_rfl) (fun _ _ _ h => h) (Or.inl ⟨by rfl, ?_⟩) (by assumption) ?_
          rotate_left
          · (intro w hSw; obtain ⟨s1, s2, s3, s4⟩ := hSw; go_simp; (try with_reducible rfl))
          simp only [Act.put, List.setIfInBounds_toArray, List.set_cons_zero, List.set_cons_succ]
          refine held_take (i := 10) (d := 49) (oi := _) (v := ?_) rfl rfl (by kernel_rfl) (by kernel_rfl) (by kernel_rfl) (fun _ _ _ h => h) (Or.inl ⟨by rfl, ?_⟩) (by assumption) ?_
          rotate_left
          · (intro w hSw; obtain ⟨s1, s2, s3, s4⟩ := hSw; go_simp; (try with_reducible rfl))
          simp only [Act.put, List.setIfInBounds_toArray, List.set_cons_zero, List.set_cons_succ]
          refine held_take (i := 11) (d := 50) (oi := _) (v := ?_) rfl rfl (by kernel_rfl) (by kernel_rfl) (by kernel_rfl) (fun _ _ _ h => h) (Or.inl ⟨by rfl, ?_⟩) (by assumption) ?_
          rotate_left
          · (intro w hSw; obtain ⟨s1, s2, s3, s4⟩ := hSw; go_simp; (try with_reducible rfl))
          simp only [Act.put, List.setIfInBounds_toArray, List.set_cons_zero, List.set_cons_succ]
          refine held_take (i := 12) (d := 51) (oi := _) (v := ?_) rfl rfl (by kernel_rfl) (by kernel_rfl) (by kernel_rfl) (fun _ _ _ h => h) (Or.inl ⟨by rfl, ?_⟩) (by assumption) ?_
          rotate_left
          · (intro w hSw; obtain ⟨s1, s2, s3, s4⟩ := hSw; go_simp; (try with_reducible rfl))
          simp only [Act.put, List.setIfInBounds_toArray, List.set_cons_zero, List.set_cons_succ]
          refine held_take (i := 13) (d := 52) (oi := _) (v := ?_) rfl rfl (by kernel_rfl) (by kernel_rfl) (by kernel_rfl) (fun _ _ _ h => h) (Or.inl ⟨by rfl, ?_⟩) (by assumption) ?_
          rotate_left
          · (intro w hSw; obtain ⟨s1, s2, s3, s4⟩ := hSw; go_simp; (try with_reducible rfl))
          simp only [Act.put, List.setIfInBounds_toArray, List.set_cons_zero, List.set_cons_succ]
          refine held_take (i := 14) (d := 53) (oi := _) (v := ?_) rfl rfl (by kernel_rfl) (by kernel_rfl) (by kernel_rfl) (fun _ _ _ h => h) (Or.inl ⟨by rfl, ?_⟩) (by assumption) ?_
          rotate_left
          · (intro w hSw; obtain ⟨s1, s2, s3, s4⟩ := hSw; go_simp; (try with_reducible rfl))
          simp only [Act.put, List.setIfInBounds_toArray, List.set_cons_zero, List.set_cons_succ]
          refine held_take (i := 15) (d := 54) (oi := _) (v := ?_) rfl rfl (by kernel_rfl) (by kernel_rfl) (by kernel_rfl) (fun _ _ _ h => h) (Or.inl ⟨by rfl, ?_⟩) (by assumption) ?_
          rotate_left
          · (intro w hSw; obtain ⟨s1, s2, s3, s4⟩ := hSw; go_simp; (try with_reducible rfl))
          simp only [Act.put, List.setIfInBounds_toArray, List.set_cons_zero, List.set_cons_succ]
          refine held_take (i := 17) (d := 56) (oi := _) (v := ?_) rfl rfl (by kernel_rfl) (by kernel_rfl) (by kernel_rfl) (fun _ _ _ h => h) (Or.inl ⟨by rfl, ?_⟩) (by assumption) ?_
          rotate_left
          · (intro w hSw; obtain ⟨s1, s2, s3, s4⟩ := hSw; go_simp; (try with_reducible rfl))
          simp only [Act.put, List.setIfInBounds_toArray, List.set_cons_zero, List.set_cons_succ]
          refine held_take (i := 18) (d := 57) (oi := _) (v := ?_) rfl rfl (by kernel_rfl) (by kernel_rfl) (by kernel_rfl) (fun _ _ _ h => h) (Or.inl ⟨by rfl, ?_⟩) (by assumption) ?_
          rotate_left
          · (intro w hSw; obtain ⟨s1, s2, s3, s4⟩ := hSw; go_simp; (try with_reducible rfl))
          simp only [Act.put, List.setIfInBounds_toArray, List.set_cons_zero, List.set_cons_succ]
          refine wpAnyH_ready (rs := [16]) (by kernel_rfl) (by simp) ?_
          refine AllReadyH.cons rfl (fun K hK => ?_) AllReadyH.nil
          go_simp
          go_wp2_with (go_at_call 85; (with_reducible refine HLAND.out.mono ?_); rintro e x' ⟨rfl, rfl⟩)
          refine hK.out _ _ hH0 (fun _ => ?_)
          clear hK K
          refine wpAnyH_ready (rs := [19]) (by kernel_rfl) (by simp) ?_
          refine AllReadyH.cons rfl (fun K hK => ?_) AllReadyH.nil
          go_simp
          go_wp2_with (go_at_call 87; (with_reducible refine (HOWN.out _ (Below.refl _ _)).mono ?_); rintro e x1 ⟨rfl, hb1⟩)
          have hH1 := HKS.out x1 hb1
          have HX1 := Lib.hid hb1
          clear hb1
          refine hK.out _ _ hH1 (fun _ => ?_)
          clear hK K
          refine wpAnyH_ready (rs := [20]) (by kernel_rfl) (by simp) ?_
          refine AllReadyH.cons rfl (fun K hK => ?_) AllReadyH.nil
          go_simp
          go_wp2_with (go_at_call 86; (with_reducible refine (HLINK.out _ HX1.out).mono ?_); rintro e x3 ⟨rfl, hb3⟩)
          have HX3 := Lib.hid (HX1.out.trans (hb3.mono HX1.out.size))
          clear hb3
          have hH3 := HKS.out x3 HX3.out
          refine hK.out _ _ hH3 (fun _ => ?_)
          clear hK K
          refine held_take (i := 21) (d := 60) (oi := _) (v := ?_) rfl rfl (by kernel_rfl) (by kernel_rfl) (by kernel_rfl) (fun _ _ _ h => h) (Or.inl ⟨by rfl, ?_⟩) (by assumption) ?_
          rotate_left
          · (intro w hSw; obtain ⟨s1, s2, s3, s4⟩ := hSw; go_simp; (try with_reducible rfl))
          simp only [Act.put, List.setIfInBounds_toArray, List.set_cons_zero, List.set_cons_succ]
          obtain ⟨⟨v0, y1⟩, ⟨v1, y2⟩, ⟨v2, y3⟩, y4, y5, y6, y7⟩ := HST.out x3 HX3.out
          obtain ⟨t1, t2, t3, t4, t5, t6⟩ := HEND.out x3 HX3.out
          have q2 := t4.blk1 HWK2.out
          have q3 := t4.blk1 HWK3.out
          refine wpAnyH_ready (rs := [22]) (by kernel_rfl) (by simp) ?_
          refine AllReadyH.cons rfl (fun K hK => ?_) AllReadyH.nil
          go_simp
          refine hK.out _ _ ⟨q2.cell, q3.cell, t1.cells.1, t6⟩ (fun _ => ?_)
          clear hK K
          refine wpAnyH_done (by kernel_rfl) ?_ _
          change Exit.then _ _ _ _ (putL x3 g m ⟨F, O, N⟩)
          clear y1 y2 y3 y4 y5 y6 y7 v0 v1 v2 t6 hH3 hH1 hH0 HST HEND HX1 HX3 HSX HKS HLAND HOWN HLINK
          have HKP2 := Lib.hid (HKP.out.trans t4)
          clear HKP t4
          generalize putL x3 g m ⟨F, O, N⟩ = w5 at *
          have hln : (Qj.map (place ps)).length = Qj.length := by simp
          obtain ⟨ao, co2, evo, _, _⟩ := own_is t3
          rw [hln] at evo
          subst evo
          have bd : Below w5.heap.size w5 w5.drew := below_drews (Below.refl w5.heap.size w5) 1
          have t1 := t1.same (bd.block x t1.lt)
          have t2 := own_keep t2 bd
          have t3 := own_keep t3 bd
          have q2 := (Kp.of_below bd).blk1 q2
          have HKP3 := Lib.hid (HKP2.out.trans (Kp.of_below bd))
          have t5 : Below s w0 w5.drew := below_drews t5 1
          have d2 := q2.cell
          clear bd HKP2
          have HT1 := Lib.hid t1
          have HO3 := Lib.hid t3
          have HSTO : Hid (∀ (w4 : World) (v4 : Value), w5.drew.heap.size ≤ w4.heap.size → (∀ b : Nat, b < w5.drew.heap.size → some b ≠ (Value.slice ao Qj.length co2).ownBlock → w4.heap[b]? = w5.drew.heap[b]?) → w4.ownsRow s 3 1 v4 (Qj.length + 1) (ivals (Qj.map (place ps) ++ [place ps q])) → LiQ (w4.setCell ⟨x, 1, none⟩ v4) s x ps l (Qj ++ [q]) ∧ Kp w5.drew (w4.setCell ⟨x, 1, none⟩ v4)) := Lib.hid fun w4 v4 h1 h2 h3 => ord_store hs0 t1 t2 t3 h1 h2 h3
          have hs5 : s ≤ w5.drew.heap.size := by have := t5.size; omega
          have hx5 := t1.lt
          have hb25 := q2.lt
          obtain ⟨c0, c1⟩ := t1.cells
          have hne : some x ≠ (Value.slice ao Qj.length co2).ownBlock := fun e => by
            obtain ⟨_, _, cs, hh⟩ := own_block_lt t3 e.symm
            have := hh.symm.trans t1
            simp at this
          have hne2 : some b2 ≠ (Value.slice ao Qj.length co2).ownBlock := fun e => by
            obtain ⟨_, _, cs, hh⟩ := own_block_lt t3 e.symm
            have := hh.symm.trans q2
            simp at this
          have HNE := Lib.hid hne
          have HNE2 := Lib.hid hne2
          have HB5 := Lib.hid t5
          have HQ2 := Lib.hid q2
          clear hne hne2 t1 t2 t3 t5 q2 q3
          go_wp2
          refine wp_region_held_drew (S := fun w' => w'.cell? ⟨b2, 0, none⟩ = some (.pointer (some ⟨x, 0, none⟩))) (by kernel_rfl) d2 (fun hH0 => ?_)
          generalize w5.drew = w6 at *
          have hHa : (w6.alloc (.cells #[.int .i64 (m : Int)] 3)).cell? ⟨b2, 0, none⟩ = some (.pointer (some ⟨x, 0, none⟩)) := Lib.cell?_alloc_some _ d2
          refine held_take (i := 0) (d := 61) (oi := _) (v := ?_) rfl rfl (by kernel_rfl) (by kernel_rfl) (by kernel_rfl) (fun _ _ _ h => h) (Or.inl ⟨by rfl, ?_⟩) (by assumption) ?_
          rotate_left
          · (intro w hSw; go_simp; (try with_reducible rfl))
          simp only [Act.put, List.setIfInBounds_toArray, List.set_cons_zero, List.set_cons_succ]
          refine held_take (i := 1) (d := 62) (oi := _) (v := ?_) rfl rfl (by kernel_rfl) (by kernel_rfl) (by kernel_rfl) (fun _ _ _ h => h) (Or.inl ⟨by rfl, ?_⟩) (by assumption) ?_
          rotate_left
          · (intro w hSw; go_simp; (try with_reducible rfl))
          simp only [Act.put, List.setIfInBounds_toArray, List.set_cons_zero, List.set_cons_succ]
          refine held_take (i := 2) (d := 63) (oi := _) (v := ?_) rfl rfl (by kernel_rfl) (by kernel_rfl) (by kernel_rfl) (fun _ _ _ h => h) (Or.inl ⟨by rfl, ?_⟩) (by assumption) ?_
          rotate_left
          · (intro w hSw; go_simp; (try with_reducible rfl))
          simp only [Act.put, List.setIfInBounds_toArray, List.set_cons_zero, List.set_cons_succ]
          refine held_take (i := 3) (d := 64) (oi := _) (v := ?_) rfl rfl (by kernel_rfl) (by kernel_rfl) (by kernel_rfl) (fun _ _ _ h => h) (Or.inl ⟨by rfl, ?_⟩) (by assumption) ?_
          rotate_left
          · (intro w hSw; go_simp; (try with_reducible rfl))
          simp only [Act.put, List.setIfInBounds_toArray, List.set_cons_zero, List.set_cons_succ]
          refine held_take (i := 5) (d := 66) (oi := _) (v := ?_) rfl rfl (by kernel_rfl) (by kernel_rfl) (by kernel_rfl) (fun _ _ _ h => h) (Or.inl ⟨by rfl, ?_⟩) (by assumption) ?_
          rotate_left
          · (intro w hSw; go_simp; (try with_reducible rfl))
          simp only [Act.put, List.setIfInBounds_toArray, List.set_cons_zero, List.set_cons_succ]
          refine wpAnyH_ready (rs := [4, 6]) (by kernel_rfl) (by simp) ?_
          refine AllReadyH.cons rfl (fun K hK => ?_) (AllReadyH.cons rfl (fun K hK => ?_) AllReadyH.nil)
          · go_simp
            refine hK.out _ _ hH0 (fun _ => ?_)
            clear hK K
            refine wpAnyH_ready (rs := [6]) (by kernel_rfl) (by simp) ?_
            refine AllReadyH.cons rfl (fun K hK => ?_) AllReadyH.nil
            go_simp
            refine hK.out _ _ hHa (fun _ => ?_)
            clear hK K
            refine wpAnyH_ready (rs := [7]) (by kernel_rfl) (by simp) ?_
            refine AllReadyH.cons rfl (fun K hK => ?_) AllReadyH.nil
            rw [if_pos (by rfl)]
            refine wp_app_is (.tmp 65) (.tmp 67) rfl s (.slice ao Qj.length co2) Qj.length (Qj.map (place ps)) (m : Int) rfl (HO3.out.alloc _) ⟨w6.heap.size, 0, none⟩ rfl (cell_new_at _ _ rfl) (by omega) (by simp; omega) ?_
            intro v4 w4 hown4 hg4
            obtain ⟨g4, cap4, rfl⟩ := own_succ hown4
            have hgb : ∀ b : Nat, b < w6.heap.size → some b ≠ (Value.slice ao Qj.length co2).ownBlock → w4.heap[b]? = w6.heap[b]? := fun b h1 h2 => (hg4.block b (by simp; omega) h2).trans (Below.heap_alloc w6 _ b h1)
            have hz4 : w6.heap.size ≤ w4.heap.size := by have := hg4.size; simp at this; omega
            have hbk4 := HT1.out.same (hgb x hx5 HNE.out)
            obtain ⟨c40, c41⟩ := hbk4.cells
            obtain ⟨f40, f41⟩ := hbk4.free
            have hx4 := hbk4.lt
            have hHb : w4.cell? ⟨b2, 0, none⟩ = some (.pointer (some ⟨x, 0, none⟩)) := (cell_same (hgb b2 hb25 HNE2.out)).trans d2
            obtain ⟨hLQ, hKQ⟩ := HSTO.out w4 _ hz4 hgb (by rw [HEM.out]; exact hown4)
            have hHc := (hKQ.blk1 HQ2.out).cell
            have hBq : Below s w0 (w4.setCell ⟨x, 1, none⟩ (.slice (some ⟨g4, 0, none⟩) (Qj.length + 1) cap4)) := ((HB5.out.alloc hs5 _).grown hg4 (by simp; omega) (fun q hq => own_ge HO3.out hq)).setCell (p := ⟨x, 1, none⟩) hs0 _
            refine hK.out _ _ hHb (fun _ => ?_)
            clear hK K hg4 hgb hbk4 hown4 hz4
            simp only [Act.put, List.setIfInBounds_toArray]
            refine held_take (i := 8) (d := 69) (oi := _) (v := ?_) rfl rfl (by kernel_rfl) (by kernel_rfl) (by kernel_rfl) (fun _ _ _ h => h) (Or.inl ⟨by rfl, ?_⟩) (by assumption) ?_
            rotate_left
            · (intro w hSw; go_simp; (try with_reducible rfl))
            simp only [Act.put]
            refine held_take (i := 9) (d := 70) (oi := _) (v := ?_) rfl rfl (by kernel_rfl) (by kernel_rfl) (by kernel_rfl) (fun _ _ _ h => h) (Or.inl ⟨by rfl, ?_⟩) (by assumption) ?_
            rotate_left
            · (intro w hSw; go_simp; (try with_reducible rfl))
            simp only [Act.put]
            refine wpAnyH_ready (rs := [10]) (by kernel_rfl) (by simp) ?_
            refine AllReadyH.cons rfl (fun K hK => ?_) AllReadyH.nil
            go_simp
            refine hK.out _ _ hHc (fun _ => ?_)
            clear hK K
            refine wpAnyH_done (by kernel_rfl) ?_ _
            have HLQ5 := Lib.hid hLQ
            have HKP5 := Lib.hid (HKP3.out.trans hKQ)
            have HB5q := Lib.hid hBq
            clear hLQ hKQ hBq hHb hHc c40 c41 f40 f41 hx4 hHa hH0 d2 c0 c1
            generalize w4.setCell ⟨x, 1, none⟩ (.slice (some ⟨g4, 0, none⟩) (Qj.length + 1) cap4) = w7 at *
            have q2 := HKP5.out.blk1 (HB2K.out.blk1 HK2.out)
            have d2 := q2.cell
            have hlq := HLQ5.out
            obtain ⟨hs7, g7, cap7, vo7, k1, k5, k6⟩ := hlq
            obtain ⟨a7, c7, rfl, _, _⟩ := own_is k6
            have hln7 : ((Qj ++ [q]).map (place ps)).length = Qj.length + 1 := by simp
            rw [hln7] at k1
            obtain ⟨c0, c1⟩ := k1.cells
            have hx7 := k1.lt
            have hb27 := q2.lt
            have HQE : Hid (Qj ++ [q] = Q ++ (kidsT ps p).take (j + 1)) := Lib.hid (by rw [HTK.out, ← HQJ.out, List.append_assoc])
            clear q2 k1 k5 k6 hln7
            by_cases hfl : Qj.length + 1 = ps.length
            · have hbq : (((Qj.length + 1 : Nat) : Int) == (ps.length : Int)) = true := beq_iff_eq.2 (by omega)
              have HOE : Hid (Qj ++ [q] = ord ps) := Lib.hid (by
                rw [HQE.out]
                exact HFULL.out (j + 1) (by rw [← HQE.out]; simp; omega))
              clear hfl
              go_wp2
              go_quiet (fail)
              go_wp2
              rw [Exit.noGoto_normal]
              go_end0
              have hl7 := HLQ5.out.keep (below_drews (Below.refl _ _) nq)
              rw [HOE.out] at hl7
              exact ⟨⟨_, rfl⟩, hl7, below_drews HB5q.out nq⟩
            · have hbq : (((Qj.length + 1 : Nat) : Int) == (ps.length : Int)) = false := beq_eq_false_iff_ne.2 (by omega)
              clear hfl
              go_wp2
              go_quiet (fail)
              go_wp2
              have hl7 := HLQ5.out.keep (below_drews (Below.refl _ _) nq)
              rw [HQE.out] at hl7
              exact ⟨⟨j + 1, by omega, by go_num, hl7, below_drews HB5q.out nq, HKP5.out.trans (Kp.of_below (below_drews (Below.refl _ _) nq))⟩, by simp [intOf]; omega⟩
          · go_simp
            refine hK.out _ _ hHa (fun _ => ?_)
            clear hK K
            have c1a : (w6.alloc (.cells #[.int .i64 (m : Int)] 3)).cell? ⟨x, 1, none⟩ = some (.slice ao Qj.length co2) := Lib.cell?_alloc_some _ c1
            refine wpAnyH_ready (rs := [4]) (by kernel_rfl) (by simp) ?_
            refine AllReadyH.cons rfl (fun K hK => ?_) AllReadyH.nil
            go_simp
            refine hK.out _ _ hHa (fun _ => ?_)
            clear hK K c1a
            refine wpAnyH_ready (rs := [7]) (by kernel_rfl) (by simp) ?_
            refine AllReadyH.cons rfl (fun K hK => ?_) AllReadyH.nil
            rw [if_pos (by rfl)]
            refine wp_app_is (.tmp 65) (.tmp 67) rfl s (.slice ao Qj.length co2) Qj.length (Qj.map (place ps)) (m : Int) rfl (HO3.out.alloc _) ⟨w6.heap.size, 0, none⟩ rfl (cell_new_at _ _ rfl) (by omega) (by simp; omega) ?_
            intro v4 w4 hown4 hg4
            obtain ⟨g4, cap4, rfl⟩ := own_succ hown4
            have hgb : ∀ b : Nat, b < w6.heap.size → some b ≠ (Value.slice ao Qj.length co2).ownBlock → w4.heap[b]? = w6.heap[b]? := fun b h1 h2 => (hg4.block b (by simp; omega) h2).trans (Below.heap_alloc w6 _ b h1)
            have hz4 : w6.heap.size ≤ w4.heap.size := by have := hg4.size; simp at this; omega
            have hbk4 := HT1.out.same (hgb x hx5 HNE.out)
            obtain ⟨c40, c41⟩ := hbk4.cells
            obtain ⟨f40, f41⟩ := hbk4.free
            have hx4 := hbk4.lt
            have hHb : w4.cell? ⟨b2, 0, none⟩ = some (.pointer (some ⟨x, 0, none⟩)) := (cell_same (hgb b2 hb25 HNE2.out)).trans d2
            obtain ⟨hLQ, hKQ⟩ := HSTO.out w4 _ hz4 hgb (by rw [HEM.out]; exact hown4)
            have hHc := (hKQ.blk1 HQ2.out).cell
            have hBq : Below s w0 (w4.setCell ⟨x, 1, none⟩ (.slice (some ⟨g4, 0, none⟩) (Qj.length + 1) cap4)) := ((HB5.out.alloc hs5 _).grown hg4 (by simp; omega) (fun q hq => own_ge HO3.out hq)).setCell (p := ⟨x, 1, none⟩) hs0 _
            refine hK.out _ _ hHb (fun _ => ?_)
            clear hK K hg4 hgb hbk4 hown4 hz4
            simp only [Act.put, List.setIfInBounds_toArray]
            refine held_take (i := 8) (d := 69) (oi := _) (v := ?_) rfl rfl (by kernel_rfl) (by kernel_rfl) (by kernel_rfl) (fun _ _ _ h => h) (Or.inl ⟨by rfl, ?_⟩) (by assumption) ?_
            rotate_left
            · (intro w hSw; go_simp; (try with_reducible rfl))
            simp only [Act.put]
            refine held_take (i := 9) (d := 70) (oi := _) (v := ?_) rfl rfl (by kernel_rfl) (by kernel_rfl) (by kernel_rfl) (fun _ _ _ h => h) (Or.inl ⟨by rfl, ?_⟩) (by assumption) ?_
            rotate_left
            · (intro w hSw; go_simp; (try with_reducible rfl))
            simp only [Act.put]
            refine wpAnyH_ready (rs := [10]) (by kernel_rfl) (by simp) ?_
            refine AllReadyH.cons rfl (fun K hK => ?_) AllReadyH.nil
            go_simp
            refine hK.out _ _ hHc (fun _ => ?_)
            clear hK K
            refine wpAnyH_done (by kernel_rfl) ?_ _
            have HLQ5 := Lib.hid hLQ
            have HKP5 := Lib.hid (HKP3.out.trans hKQ)
            have HB5q := Lib.hid hBq
            clear hLQ hKQ hBq hHb hHc c40 c41 f40 f41 hx4 hHa hH0 d2 c0 c1
            generalize w4.setCell ⟨x, 1, none⟩ (.slice (some ⟨g4, 0, none⟩) (Qj.length + 1) cap4) = w7 at *
            have q2 := HKP5.out.blk1 (HB2K.out.blk1 HK2.out)
            have d2 := q2.cell
            have hlq := HLQ5.out
            obtain ⟨hs7, g7, cap7, vo7, k1, k5, k6⟩ := hlq
            obtain ⟨a7, c7, rfl, _, _⟩ := own_is k6
            have hln7 : ((Qj ++ [q]).map (place ps)).length = Qj.length + 1 := by simp
            rw [hln7] at k1
            obtain ⟨c0, c1⟩ := k1.cells
            have hx7 := k1.lt
            have hb27 := q2.lt
            have HQE : Hid (Qj ++ [q] = Q ++ (kidsT ps p).take (j + 1)) := Lib.hid (by rw [HTK.out, ← HQJ.out, List.append_assoc])
            clear q2 k1 k5 k6 hln7
            by_cases hfl : Qj.length + 1 = ps.length
            · have hbq : (((Qj.length + 1 : Nat) : Int) == (ps.length : Int)) = true := beq_iff_eq.2 (by omega)
              have HOE : Hid (Qj ++ [q] = ord ps) := Lib.hid (by
                rw [HQE.out]
                exact HFULL.out (j + 1) (by rw [← HQE.out]; simp; omega))
              clear hfl
              go_wp2
              go_quiet (fail)
              go_wp2
              rw [Exit.noGoto_normal]
              go_end0
              have hl7 := HLQ5.out.keep (below_drews (Below.refl _ _) nq)
              rw [HOE.out] at hl7
              exact ⟨⟨_, rfl⟩, hl7, below_drews HB5q.out nq⟩
            · have hbq : (((Qj.length + 1 : Nat) : Int) == (ps.length : Int)) = false := beq_eq_false_iff_ne.2 (by omega)
              clear hfl
              go_wp2
              go_quiet (fail)
              go_wp2
              have hl7 := HLQ5.out.keep (below_drews (Below.refl _ _) nq)
              rw [HQE.out] at hl7
              exact ⟨⟨j + 1, by omega, by go_num, hl7, below_drews HB5q.out nq, HKP5.out.trans (Kp.of_below (below_drews (Below.refl _ _) nq))⟩, by simp [intOf]; omega⟩
        · obtain rfl : j = ks.length := by omega
          have HQE : Hid (Q ++ (kidsT ps p).take ks.length = bq ps (k + 1)) := Lib.hid (by rw [HSUCC.out, List.take_of_length_le (by rw [HKL.out]; exact Nat.le_refl _)])
          rw [HQE.out] at hq
          have HLQ5 := Lib.hid hq
          have HB5 := Lib.hid hbel
          have k2 := hkp.blk1 (HB2K.out.blk1 HK2.out)
          have k3 := hkp.blk1 (HB2K.out.blk1 HK3.out)
          have HR2 := Lib.hid k2
          have HR3 := Lib.hid k3
          have hkq : k + 1 ≤ (bq ps (k + 1)).length := by rw [HSUCC.out, List.length_append]; have := HLT.out; omega
          have HLT2 := HLT.out
          clear hq hbel hkp k2 k3
          go_wp2
          exact ⟨⟨k + 1, hkq, by go_num, HLQ5.out, HB5.out, HR2.out, HR3.out⟩, by simp [intOf]; omega⟩
    · have hke : bq ps k = ord ps := ord_of_end (by omega) (by omega)
      have hle : (bq ps k).length = k := by omega
      obtain ⟨hs0, g, cap, vo, h1, h2, h3⟩ := hq
      obtain ⟨a, co, rfl, _, _⟩ := own_is h3
      have hln : ((bq ps k).map (place ps)).length = k := by rw [List.length_map, hle]
      obtain ⟨c0, c1⟩ := h1.cells
      rw [hln] at c1
      have hx := h1.lt
      have d2 := k2.cell
      have HLQ : Hid (LiQ wr s x ps l (ord ps)) := Lib.hid (by rw [← hke]; exact ⟨hs0, g, cap, _, h1, h2, h3⟩)
      have HBE := Lib.hid hbel
      clear h1 h2 h3 hbel k2 k3 hke hle hln hk hql hlt
      go_wp2
      rw [Exit.noGoto_normal]
      go_end0
      exact ⟨⟨_, rfl⟩, HLQ.out, HBE.out⟩
end Go.Proofs.YtcbhjhhajeeimaaGreat.Lnk
/- The contract of Build. -/
namespace Go.Proofs.YtcbhjhhajeeimaaGreat.Lnk
open Go.RowKit Go.Maps Go.Proofs.YtcbhjhhajeeimaaGreat.Tri Go.Proofs.YtcbhjhhajeeimaaGreat.Reg
set_option maxRecDepth 100000

theorem made_links (n : Nat) : (madeCells (Value.agg #[.int .i64 0, .int .i64 0, .int .i64 0]).cells (n * 3)).toList = lvals (List.replicate n ⟨0, 0, 0⟩) := by
  have e : lvals (List.replicate n ⟨0, 0, 0⟩) = List.replicate (n * 3) (.int .i64 0) := by
    induction n with
    | zero => rfl
    | succ n ih =>
      unfold lvals at ih ⊢
      rw [List.replicate_succ, List.flatMap_cons, ih, show (n + 1) * 3 = n * 3 + 1 + 1 + 1 by omega, List.replicate_succ, List.replicate_succ, List.replicate_succ]
      rfl
  rw [e]
  show (madeCells #[.int .i64 0, .int .i64 0, .int .i64 0] (n * 3)).toList = _
  apply List.ext_getElem?
  intro j
  by_cases hj : j < n * 3
  · simp only [madeCells, Array.toList_map, Array.toList_range]
    rw [List.getElem?_map, List.getElem?_range hj, List.getElem?_replicate, if_pos hj]
    show some (#[Value.int .i64 0, .int .i64 0, .int .i64 0][j % 3]!) = _
    rcases (show j % 3 = 0 ∨ j % 3 = 1 ∨ j % 3 = 2 by omega) with h | h | h <;> rw [h] <;> rfl
  · simp [madeCells, hj]
/-- The root's link. -/
theorem root_store {w : World} {s g cap : Nat} {ps : List Tx} (l : List Tx) (hw : Wf ps) (ho : w.ownsRow s 141 3 (.slice (some ⟨g, 0, none⟩) ps.length cap) ps.length (lvals (List.replicate ps.length ⟨0, 0, 0⟩))) :
    (putL w g 0 ⟨-1, -1, 0⟩).ownsRow s 141 3 (.slice (some ⟨g, 0, none⟩) ps.length cap) ps.length (lvals (lks ps l [[]])) := by
  rw [lks_root hw l, ← lvals_set _ 0 _ (by simpa using hw.pos)]
  exact (((ho.stored (0 * 3) (.int .i64 (-1))).1.stored (0 * 3 + 1) (.int .i64 (-1))).1.stored (0 * 3 + 2) (.int .i64 ((0 : Nat) : Int))).1
/-- A call that hands out links, and leaves what was there as it was. -/
def GivesLi (w : World) (ps l : List Tx) (e : Ending) (w' : World) : Prop := ∃ x, e = .returned (.pointer (some ⟨x, 0, none⟩)) ∧ Li w' w.heap.size x ps l ∧ Below w.heap.size w w'
set_option maxHeartbeats 2000000 in
theorem lbuild_any (w : World) (st tt : Nat) (ps l : List Tx) (htr : Tr w st tt ps l) (hn : ps.length ≤ 1000000) : Calls Tryz.prog 45 #[.pointer (some ⟨tt, 0, none⟩)] w (GivesLi w ps l) := by
  have HN : Hid (∀ X, Below w.heap.size w X → Calls Tryz.prog 47 #[.pointer (some ⟨tt, 0, none⟩)] X fun e w' => e = .returned (.int .i64 (ps.length : Int)) ∧ X = w') := Lib.hid fun X hX => nodes_any X st tt ps l (htr.keep hX)
  have HW := Lib.hid htr.2.1
  have HLS := Lib.hid htr.2.2.1
  have HT := Lib.hid htr
  have hpos := htr.2.1.pos
  have hz : ((ps.length : Int) == 0) = false := beq_eq_false_iff_ne.2 (by omega)
  obtain ⟨i0, hi, hz0, hz1, hz2⟩ := info_parts info51
  clear htr
  have hb1 := (Below.refl w.heap.size w).alloc (Nat.le_refl _) (.cells #[.slice none 0 0, .slice none 0 0] 139)
  have hk1 := Blk2.new w 139 (.slice none 0 0) (.slice none 0 0)
  obtain ⟨c0, c1⟩ := hk1.cells
  obtain ⟨f0, f1⟩ := hk1.free
  have HB1 := Lib.hid hb1
  have HK1 := Lib.hid hk1
  have hx1 := hk1.lt
  clear hb1 hk1
  go_enter Tryz.func45, Tryz.ntmps45
  go_wp2_with (first
    | (go_at_call 47; (with_reducible refine (HN.out _ HB1.out).mono ?_); rintro e w0 ⟨rfl, rfl⟩)
    | (at_make; refine wpList_make_full _ rfl _ _ 137 rfl w.heap.size 141 i0 (.agg #[.int .i64 0, .int .i64 0, .int .i64 0]) 3 und47 hi hz0 hz1 .i64 .i64 _ _ ps.length rfl rfl (by simp) (by simp) (by rw [hz2]; omega) (by unfold maxLen; omega) (by simp) ?_; intro w2 hown hg2; have hk2 := HK1.out.grown hg2 (fun e => by cases e); obtain ⟨c20, c21⟩ := hk2.cells; obtain ⟨f20, f21⟩ := hk2.free; have hx2 := hk2.lt; have HK2 := Lib.hid hk2; have HO2 := Lib.hid hown; have HG2 := Lib.hid hg2; clear hk2 hown hg2))
  have hne : w.heap.size ≠ w.heap.size + 1 := by omega
  have hk3 := HK2.out.put0 (.slice (some ⟨w.heap.size + 1, 0, none⟩) ps.length ps.length)
  have ho3 := HO2.out
  rw [World.size_alloc, made_links] at ho3
  have ho3 := own_far_block (w' := w2.setCell ⟨w.heap.size, 0, none⟩ (.slice (some ⟨w.heap.size + 1, 0, none⟩) ps.length ps.length)) ho3 (fun k hk => Below.heap_setCell w2 ⟨w.heap.size, 0, none⟩ (.slice (some ⟨w.heap.size + 1, 0, none⟩) ps.length ps.length) k (fun e => by have h1 : w.heap.size + 1 = k := (by simpa [Value.ownBlock] using hk); have h2 : k = w.heap.size := e; omega))
  have hb3 : Below w.heap.size w (w2.setCell ⟨w.heap.size, 0, none⟩ (.slice (some ⟨w.heap.size + 1, 0, none⟩) ps.length ps.length)) := (HB1.out.grown HG2.out (by simp) (fun k hk => by cases hk)).setCell (p := ⟨w.heap.size, 0, none⟩) (Nat.le_refl _) _
  clear c0 c1 f0 f1 c20 c21 f20 f21 hx1 hx2 HK1 HK2 HO2 HG2 HB1
  generalize w2.setCell ⟨w.heap.size, 0, none⟩ (.slice (some ⟨w.heap.size + 1, 0, none⟩) ps.length ps.length) = w3 at *
  have bd : Below w3.heap.size w3 w3.drew := below_drews (Below.refl w3.heap.size w3) 1
  have hk3 := hk3.same (bd.block _ hk3.lt)
  have ho3 := own_keep ho3 bd
  have hb3 : Below w.heap.size w w3.drew := below_drews hb3 1
  obtain ⟨c0, c1⟩ := hk3.cells
  clear bd
  refine wp_region_held_drew (S := fun w' => w'.cell? ⟨w.heap.size, 0, none⟩ = some (.slice (some ⟨w.heap.size + 1, 0, none⟩) ps.length ps.length)) (by kernel_rfl) c0 (fun hH0 => ?_)
  generalize w3.drew = w4 at *
  refine held_take (i := 0) (d := 16) (oi := _) (v := ?_) rfl rfl (by kernel_rfl) (by kernel_rfl) (by kernel_rfl) (fun _ _ _ h => h) (Or.inl ⟨by rfl, ?_⟩) (by assumption) ?_
  rotate_left
  · (intro w hSw; go_simp; (try with_reducible rfl))
  simp only [Act.put, List.setIfInBounds_toArray, List.set_cons_zero, List.set_cons_succ]
  refine held_take (i := 1) (d := 17) (oi := _) (v := ?_) rfl rfl (by kernel_rfl) (by kernel_rfl) (by kernel_rfl) (fun _ _ _ h => h) (Or.inl ⟨by rfl, ?_⟩) (by assumption) ?_
  rotate_left
  · (intro w hSw; go_simp; (try with_reducible rfl))
  simp only [Act.put, List.setIfInBounds_toArray, List.set_cons_zero, List.set_cons_succ]
  refine held_take (i := 2) (d := 18) (oi := _) (v := ?_) rfl rfl (by kernel_rfl) (by kernel_rfl) (by kernel_rfl) (fun _ _ _ h => h) (Or.inl ⟨by rfl, ?_⟩) (by assumption) ?_
  rotate_left
  · (intro w hSw; go_simp; (try with_reducible rfl))
  simp only [Act.put, List.setIfInBounds_toArray, List.set_cons_zero, List.set_cons_succ]
  refine held_take (i := 3) (d := 19) (oi := _) (v := ?_) rfl rfl (by kernel_rfl) (by kernel_rfl) (by kernel_rfl) (fun _ _ _ h => h) (Or.inl ⟨by rfl, ?_⟩) (by assumption) ?_
  rotate_left
  · (intro w hSw; go_simp; (try with_reducible rfl))
  simp only [Act.put, List.setIfInBounds_toArray, List.set_cons_zero, List.set_cons_succ]
  refine wpAnyH_ready (rs := [4]) (by kernel_rfl) (by simp) ?_
  refine AllReadyH.cons rfl (fun K hK => ?_) AllReadyH.nil
  go_simp
  go_wp2_with (go_at_call 63; (with_reducible refine (lnone_any _).mono ?_); rintro e x1 ⟨rfl, rfl⟩)
  have hHa : (w4.alloc (.cells #[.int .i64 (-1), .int .i64 (-1), .int .i64 0] 141)).cell? ⟨w.heap.size, 0, none⟩ = some (.slice (some ⟨w.heap.size + 1, 0, none⟩) ps.length ps.length) := Lib.cell?_alloc_some _ c0
  refine hK.out _ _ hHa (fun _ => ?_)
  clear hK K
  have hk4 := hk3.alloc (.cells #[.int .i64 (-1), .int .i64 (-1), .int .i64 0] 141)
  have ho4 := ho3.alloc (.cells #[.int .i64 (-1), .int .i64 (-1), .int .i64 0] 141)
  have hb4 := hb3.alloc (by have := hk3.lt; omega) (.cells #[.int .i64 (-1), .int .i64 (-1), .int .i64 0] 141)
  clear hk3 ho3 hb3 c0 c1 hH0
  generalize w4.alloc (.cells #[.int .i64 (-1), .int .i64 (-1), .int .i64 0] 141) = w5 at *
  obtain ⟨d0, d1, d2⟩ := own_row3 ho4 (by simp) (i := 0) (by simpa using hpos)
  have e0 := ho4.frozenAt 0
  have e1 := ho4.frozenAt 1
  have e2 := ho4.frozenAt 2
  rw [Nat.zero_mul] at d0
  rw [Nat.zero_mul, Nat.zero_add] at d1 d2
  have hgz : w.heap.size + 1 < w5.heap.size := (own_block_lt ho4 rfl).2.1
  have hpi : (0 : Int) < (ps.length : Int) := by omega
  refine held_take (i := 5) (d := 21) (oi := _) (v := ?_) rfl rfl (by kernel_rfl) (by kernel_rfl) (by kernel_rfl) (fun _ _ _ h => h) (Or.inl ⟨by rfl, ?_⟩) (by assumption) ?_
  rotate_left
  · (intro w hSw; go_simp; (try with_reducible rfl))
  simp only [Act.put, List.setIfInBounds_toArray, List.set_cons_zero, List.set_cons_succ]
  refine wpAnyH_ready (rs := [6]) (by kernel_rfl) (by simp) ?_
  refine AllReadyH.cons rfl (fun K hK => ?_) AllReadyH.nil
  go_simp
  have hk6 := hk4.same (putL_other (w := w5) (g := w.heap.size + 1) (m := 0) (r := ⟨-1, -1, 0⟩) hne)
  have hH6 := hk6.cells.1
  refine hK.out _ _ hH6 (fun _ => ?_)
  clear hK K
  refine wpAnyH_done (by kernel_rfl) ?_ _
  change Exit.then _ _ _ _ (putL w5 (w.heap.size + 1) 0 ⟨-1, -1, 0⟩)
  have ho6 := root_store l HW.out ho4
  have hb6 := below_putL hb4 (g := w.heap.size + 1) (by omega) 0 ⟨-1, -1, 0⟩
  clear hk4 ho4 hb4 d0 d1 d2 e0 e1 e2 hgz hHa hH6
  generalize putL w5 (w.heap.size + 1) 0 ⟨-1, -1, 0⟩ = w6 at *
  obtain ⟨c0, c1⟩ := hk6.cells
  obtain ⟨f0, f1⟩ := hk6.free
  have hx6 := hk6.lt
  have hs7 : (w6.setCell ⟨w.heap.size, 1, none⟩ (.slice (some ⟨w6.heap.size, 0, none⟩) 1 1)).heap.size = w6.heap.size := by simp
  have hk7 := hk6.put1 (.slice (some ⟨w6.heap.size, 0, none⟩) 1 1)
  have ho7 := own_far_block (w' := w6.setCell ⟨w.heap.size, 1, none⟩ (.slice (some ⟨w6.heap.size, 0, none⟩) 1 1)) ho6 (fun k hk => Below.heap_setCell _ _ _ k (fun e => by have h1 : w.heap.size + 1 = k := (by simpa [Value.ownBlock] using hk); have h2 : k = w.heap.size := e; omega))
  have hb7 := hb6.setCell (p := ⟨w.heap.size, 1, none⟩) (Nat.le_refl _) (.slice (some ⟨w6.heap.size, 0, none⟩) 1 1)
  have hr7 := World.ownsRow_lit (base := w.heap.size) (e := 3) (size := 1) (w6.setCell ⟨w.heap.size, 1, none⟩ (.slice (some ⟨w6.heap.size, 0, none⟩) 1 1)) #[.int .i64 0] 1 (by rw [hs7]; omega) (by unfold maxLen; omega) rfl
  rw [hs7] at hr7
  have hli : LiQ ((w6.setCell ⟨w.heap.size, 1, none⟩ (.slice (some ⟨w6.heap.size, 0, none⟩) 1 1)).alloc (.cells #[.int .i64 0] 3)) w.heap.size w.heap.size ps l [[]] := by
    refine ⟨Nat.le_refl _, w.heap.size + 1, ps.length, _, hk7.alloc _, ho7.alloc _, ?_⟩
    rw [show ivals ([[]].map (place ps)) = [.int .i64 0] by simp [ivals, place_nil HW.out]]
    exact hr7
  have hb8 := hb7.alloc (by rw [hs7]; omega) (.cells #[.int .i64 0] 3)
  have HF := Lib.hid (fill_any w _ st tt w.heap.size w.heap.size ps l HT.out hb8 rfl hli hn)
  clear hk6 ho6 hb6 hk7 hb7 ho7 hr7 hli hb8 hs7
  go_wp2_with (go_at_call 64; (with_reducible refine HF.out.mono ?_); rintro e w9 ⟨⟨v, rfl⟩, hl9, hb9⟩; have HL9 := Lib.hid hl9; have HB9 := Lib.hid hb9; clear hl9 hb9)
  go_ret
  exact ⟨_, rfl, ⟨HW.out, HLS.out, hn, HL9.out⟩, HB9.out⟩
end Go.Proofs.YtcbhjhhajeeimaaGreat.Lnk
/- Contracts of the reference: Fail, Out, Ends, Same. -/
namespace Go.Proofs.YtcbhjhhajeeimaaGreat.Lnk
open Go.RowKit Go.Maps Go.Proofs.YtcbhjhhajeeimaaGreat.Tri
set_option maxRecDepth 100000

theorem str_drop (x : Tx) (k : Nat) : (str x).extract k x.length = str (x.drop k) := by
  unfold str
  rw [ByteArray.extract_mk]
  congr 1
  show (List.take (x.length - k) (x.drop k)).toArray = _
  rw [List.take_of_length_le (by simp)]
theorem drop_at (s : Tx) (k : Nat) (h : k < s.length) : s.drop k = s[k] :: s.drop (k + 1) := List.drop_eq_getElem_cons h
theorem ib_eq (x y : Int) : (x != y) = decide (x ≠ y) := by
  rw [Bool.eq_iff_iff]; simp
end Go.Proofs.YtcbhjhhajeeimaaGreat.Lnk
/- The contract of the reference's Order. -/
namespace Go.Proofs.YtcbhjhhajeeimaaGreat.Lnk
open Go.RowKit Go.Maps Go.Proofs.YtcbhjhhajeeimaaGreat.Tri
set_option maxRecDepth 100000

theorem str_piece (x : Tx) (k : Nat) (h : k < x.length) : (str x).extract k (k + 1) = str [x[k]] := by
  unfold str
  rw [ByteArray.extract_mk]
  congr 1
  show (List.take (k + 1 - k) (x.drop k)).toArray = _
  rw [List.drop_eq_getElem_cons h, show k + 1 - k = 1 by omega]
  rfl
theorem run_piece (x : Tx) (k : Nat) (h : k < x.length) (w : World) : (Instr.slice 9 (.string (str x)) (some (.int .i64 (k : Int))) (some (.int .i64 ((k : Int) + 1))) none).run Tryz.prog w = .ok (.string (str [x[k]])) w := by
  have hz := str_size x
  rw [run_slice_string (P := Tryz.prog) w 9 (str x) .i64 .i64 (k : Int) ((k : Int) + 1) und9 (by omega) (by omega) (by rw [hz]; omega)]
  have e1 : (k : Int).toNat = k := by omega
  have e2 : ((k : Int) + 1).toNat = k + 1 := by omega
  rw [e1, e2, str_piece x k h]
theorem rkidsT_at (ps : List Tx) (p : Tx) (j : Nat) (h : j < (rkids ps p).length) : (kidsT ps p)[j]'(by unfold kidsT; simpa using h) = p ++ [(rkids ps p)[j]] := by simp [kidsT]
theorem rkidsT_len (ps : List Tx) (p : Tx) : (kidsT ps p).length = (rkids ps p).length := by simp [kidsT]
theorem rkidsT_take (ps : List Tx) (p : Tx) (j : Nat) (h : j < (rkids ps p).length) : (kidsT ps p).take (j + 1) = (kidsT ps p).take j ++ [p ++ [(rkids ps p)[j]]] := by
  rw [List.take_succ_eq_append_getElem (by rw [rkidsT_len]; exact h), rkidsT_at ps p j h]
end Go.Proofs.YtcbhjhhajeeimaaGreat.Lnk
