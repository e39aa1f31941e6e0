/- Package by package: LMath LBase La Lb Lc Ld Le Lf Lg Lh. -/
import Derived.Test.YtlpjghhmacobdaaGB
import Derived.Test.YtlpjghhmacobdaaGT
import Derived.WalkMore
/- Falls: the longest shorter end that is a beginning, the next one that is a text, the texts that are ends; the order by depth. -/
namespace Go.Proofs.Ytlpjghhmacobdaa.Lnk
open Go.Proofs.Ytlpjghhmacobdaa.Tri
set_option maxRecDepth 100000

/-- Where a beginning falls to. -/
def failOf (ps : List Tx) : Tx → Int
  | [] => -1
  | _ :: p => if p ∈ ps then place ps p else failOf ps p
/-- The next beginning, by falls, that is a text. -/
def outOf (ps l : List Tx) : Tx → Int
  | [] => -1
  | _ :: p => if p ≠ [] ∧ p ∈ l then place ps p else outOf ps l p
/-- The lengths of the ends that are texts. -/
def endsOf (l : List Tx) : Tx → List Int
  | [] => []
  | c :: p => if c :: p ∈ l then ((p.length : Int) + 1) :: endsOf l p else endsOf l p
/-- A text's own length. -/
def own (l : List Tx) (p : Tx) : Nat := if p ∈ l then p.length else 0
/-- Those of the shorter ends alone. -/
def tailE (l : List Tx) : Tx → List Int
  | [] => []
  | _ :: p => endsOf l p
theorem own_nil (l : List Tx) : own l [] = 0 := by unfold own; split <;> rfl
theorem own_pos {l : List Tx} {p : Tx} : 0 < own l p ↔ p ≠ [] ∧ p ∈ l := by
  unfold own
  split
  · rename_i h; rw [List.length_pos_iff]; exact ⟨fun e => ⟨e, h⟩, fun e => e.1⟩
  · rename_i h; exact ⟨fun e => absurd e (by omega), fun e => absurd e.2 h⟩
theorem own_le (l : List Tx) (p : Tx) : own l p ≤ p.length := by unfold own; split <;> omega
theorem ends_split (l : List Tx) (p : Tx) : endsOf l p = (if 0 < own l p then [(own l p : Int)] else []) ++ tailE l p := by
  cases p with
  | nil => simp [endsOf, tailE, own_nil]
  | cons c p =>
    unfold endsOf tailE own
    split
    · rename_i h; simp
    · rename_i h; simp
/-- A fall, one end at a time. -/
theorem fail_step {ps : List Tx} (hw : Wf ps) : ∀ z : Tx, z ≠ [] → ∃ u z', z = u ++ z' ∧ u ≠ [] ∧ z' ∈ ps ∧ z'.length < z.length ∧ failOf ps z = place ps z' ∧
    (∀ c, failOf ps (z ++ [c]) = if z' ++ [c] ∈ ps then place ps (z' ++ [c]) else failOf ps (z' ++ [c])) ∧
    (∀ l, (∀ x ∈ l, x ∈ ps) → outOf ps l z = if 0 < own l z' then place ps z' else outOf ps l z') ∧
    (∀ n, 0 < n → n < u.length → z.drop n ∉ ps)
  | [], h => absurd rfl h
  | x :: y, _ => by
    by_cases hy : y ∈ ps
    · refine ⟨[x], y, rfl, by simp, hy, by simp, by rw [failOf, if_pos hy], fun c => by rw [List.cons_append, failOf], fun l _ => ?_, fun n h0 h1 => by simp at h1; omega⟩
      rw [outOf]
      by_cases ho : y ≠ [] ∧ y ∈ l
      · rw [if_pos ho, if_pos (own_pos.2 ho)]
      · rw [if_neg ho, if_neg (fun e => ho (own_pos.1 e))]
    · have hn : y ≠ [] := fun e => hy (by rw [e]; exact hw.nil_mem)
      obtain ⟨u, z', e, hu, h1, h2, h3, h4, h5, h6⟩ := fail_step hw y hn
      refine ⟨x :: u, z', by rw [e]; rfl, by simp, h1, by simp; omega, by rw [failOf, if_neg hy, h3], fun c => ?_, fun l hl => ?_, fun n h0 h7 => ?_⟩
      · rw [List.cons_append, failOf, if_neg (fun e => hy (hw.closed e)), h4]
      · rw [outOf, if_neg (fun e => hy (hl _ e.2)), h5 l hl]
      · cases n with
        | zero => omega
        | succ n =>
          rw [List.drop_succ_cons]
          rcases Nat.eq_zero_or_pos n with h8 | h8
          · rw [h8, List.drop_zero]; exact hy
          · exact h6 n h8 (by simpa using h7)
theorem fail_nil (ps : List Tx) : failOf ps [] = -1 := rfl
theorem place_nil {ps : List Tx} (hw : Wf ps) : place ps [] = 0 := by
  rw [place_first (k := 0) hw.pos hw.at0 (fun j hj => by omega)]; rfl
theorem fail_one {ps : List Tx} (hw : Wf ps) (c : UInt8) : failOf ps [c] = 0 := by
  rw [failOf, if_pos hw.nil_mem, place_nil hw]
theorem fail_ge (ps : List Tx) : ∀ z, -1 ≤ failOf ps z
  | [] => by rw [fail_nil]; omega
  | _ :: p => by
    rw [failOf]; split
    · exact place_ge _ _
    · exact fail_ge ps p
theorem fail_lt (ps : List Tx) : ∀ z, failOf ps z < ps.length
  | [] => by rw [fail_nil]; omega
  | _ :: p => by
    rw [failOf]; split
    · exact place_lt _ _
    · exact fail_lt ps p
/-- The next text, and what ends in it. -/
theorem out_split {ps l : List Tx} (hl : ∀ x ∈ l, x ∈ ps) : ∀ p : Tx, (outOf ps l p = -1 ∧ tailE l p = []) ∨
    ∃ z, z ∈ l ∧ z ≠ [] ∧ z ∈ ps ∧ z.length < p.length ∧ outOf ps l p = place ps z ∧ tailE l p = endsOf l z ∧ (own l z : Int) = z.length
  | [] => .inl ⟨rfl, rfl⟩
  | x :: p => by
    rw [outOf]
    by_cases h : p ≠ [] ∧ p ∈ l
    · rw [if_pos h]
      exact .inr ⟨p, h.2, h.1, hl _ h.2, by simp, rfl, rfl, by rw [own, if_pos h.2]⟩
    · rw [if_neg h]
      have e : tailE l (x :: p) = tailE l p := by
        show endsOf l p = _
        rw [ends_split, if_neg (fun e => h (own_pos.1 e))]
        rfl
      rw [e]
      rcases out_split hl p with h1 | ⟨z, h1, h2, h3, h4, h5⟩
      · exact .inl h1
      · exact .inr ⟨z, h1, h2, h3, by simp; omega, h5⟩
theorem out_ge (ps l : List Tx) : ∀ z, -1 ≤ outOf ps l z
  | [] => by rw [outOf]; omega
  | _ :: p => by
    rw [outOf]; split
    · exact place_ge _ _
    · exact out_ge ps l p
theorem out_lt (ps l : List Tx) : ∀ z, outOf ps l z < ps.length
  | [] => by rw [outOf]; omega
  | _ :: p => by
    rw [outOf]; split
    · exact place_lt _ _
    · exact out_lt ps l p
/-- What is kept of a node. -/
structure Lk where
  fail : Int
  out : Int
  own : Nat
def lkOf (ps l : List Tx) (p : Tx) : Lk := ⟨failOf ps p, outOf ps l p, own l p⟩
/-- While the order grows: those in it have their links. -/
def lks (ps l Q : List Tx) : List Lk := ps.map fun p => if p ∈ Q then lkOf ps l p else ⟨0, 0, 0⟩
theorem lks_length (ps l Q : List Tx) : (lks ps l Q).length = ps.length := by simp [lks]
theorem lks_at (ps l Q : List Tx) (i : Nat) (h : i < ps.length) : (lks ps l Q)[i]'(by rw [lks_length]; exact h) = if ps[i] ∈ Q then lkOf ps l ps[i] else ⟨0, 0, 0⟩ := by simp [lks]
theorem lks_snoc {ps : List Tx} (hw : Wf ps) (l Q : List Tx) {i : Nat} (hi : i < ps.length) : lks ps l (Q ++ [ps[i]]) = (lks ps l Q).set i (lkOf ps l ps[i]) := by
  apply List.ext_getElem
  · simp [lks]
  · intro j h1 h2
    rw [lks_length] at h1
    rw [List.getElem_set, lks_at _ _ _ j h1, lks_at _ _ _ j h1]
    by_cases e : i = j
    · subst e; simp
    · have hne : ps[j] ≠ ps[i] := fun q => e (nd_inj hw.nodup q).symm
      simp [hne, e]
theorem lks_all {ps l Q : List Tx} (h : ∀ p ∈ ps, p ∈ Q) : lks ps l Q = ps.map (lkOf ps l) := by
  unfold lks
  apply List.map_congr_left
  intro p hp
  rw [if_pos (h p hp)]
theorem lks_root {ps : List Tx} (hw : Wf ps) (l : List Tx) : lks ps l [[]] = (List.replicate ps.length ⟨0, 0, 0⟩).set 0 ⟨-1, -1, 0⟩ := by
  apply List.ext_getElem
  · simp [lks]
  · intro j h1 h2
    rw [lks_length] at h1
    rw [List.getElem_set, lks_at _ _ _ j h1]
    by_cases e : 0 = j
    · subst e
      simp [hw.at0, lkOf, failOf, outOf, own_nil]
    · have hne : ps[j] ≠ [] := fun q => e ((hw.nil_iff h1).1 q).symm
      simp [hne, e]
/-- The beginnings to which a beginning's bytes lead. -/
def kidsT (ps : List Tx) (p : Tx) : List Tx := (rkids ps p).map fun c => p ++ [c]
theorem mem_kidsTo (f : UInt8 → Bool) (c : UInt8) : c ∈ kidsTo f 256 ↔ f c = true := by
  unfold kidsTo
  rw [List.mem_filter]
  refine ⟨fun h => h.2, fun h => ⟨List.mem_map.2 ⟨c.toNat, List.mem_range.2 c.toNat_lt, by simp⟩, h⟩⟩
theorem nodup_kidsTo (f : UInt8 → Bool) : (kidsTo f 256).Nodup := by
  unfold kidsTo
  apply List.Pairwise.filter
  rw [List.pairwise_map]
  refine List.Pairwise.imp_of_mem ?_ List.nodup_range
  intro a b ha hb hne e
  have h1 := List.mem_range.1 ha
  have h2 := List.mem_range.1 hb
  apply hne
  have e2 := congrArg UInt8.toNat e
  rw [UInt8.toNat_ofNat', UInt8.toNat_ofNat'] at e2
  omega
theorem mem_rkids (ps : List Tx) (p : Tx) (c : UInt8) : c ∈ rkids ps p ↔ p ++ [c] ∈ ps := by
  unfold rkids
  rw [mem_kidsTo, decide_eq_true_iff, place_nonneg]
theorem kids_eq {ps : List Tx} {p : Tx} (h : p ∈ ps) : kidsOf ps (place ps p) = rkids ps p := by
  obtain ⟨i, hi, e, e2, _⟩ := place_mem h
  unfold kidsOf rkids
  congr 1
  funext c
  rw [e, stepOf_at hi, e2]
theorem step_eq {ps : List Tx} {p : Tx} (h : p ∈ ps) (c : UInt8) : stepOf ps (place ps p) c = place ps (p ++ [c]) := by
  obtain ⟨i, hi, e, e2, _⟩ := place_mem h
  rw [e, stepOf_at hi, e2]
theorem mem_kidsT (ps : List Tx) (p q : Tx) : q ∈ kidsT ps p ↔ q ∈ ps ∧ ∃ c, q = p ++ [c] := by
  unfold kidsT
  rw [List.mem_map]
  constructor
  · rintro ⟨c, hc, rfl⟩; exact ⟨(mem_rkids _ _ _).1 hc, c, rfl⟩
  · rintro ⟨h, c, rfl⟩; exact ⟨c, (mem_rkids _ _ _).2 h, rfl⟩
theorem nodup_kidsT (ps : List Tx) (p : Tx) : (kidsT ps p).Nodup := by
  unfold kidsT
  rw [List.Nodup, List.pairwise_map]
  exact List.Pairwise.imp (fun hne e => hne (by simpa using e)) (nodup_kidsTo _)
/-- The order, when i nodes have been gone through. -/
def bq (ps : List Tx) : Nat → List Tx
  | 0 => [[]]
  | i + 1 => bq ps i ++ (match (bq ps i)[i]? with | some p => kidsT ps p | none => [])
theorem bq_succ {ps : List Tx} {i : Nat} (h : i < (bq ps i).length) : bq ps (i + 1) = bq ps i ++ kidsT ps (bq ps i)[i] := by
  rw [bq, List.getElem?_eq_getElem h]
theorem bq_stop {ps : List Tx} {i : Nat} (h : (bq ps i).length ≤ i) : bq ps (i + 1) = bq ps i := by
  rw [bq, List.getElem?_eq_none h, List.append_nil]
theorem bq_more (ps : List Tx) (i : Nat) : ∀ k, ∃ m, bq ps (i + k) = bq ps i ++ m
  | 0 => ⟨[], by simp⟩
  | k + 1 => by
    obtain ⟨m, e⟩ := bq_more ps i k
    rw [← Nat.add_assoc, bq, e, List.append_assoc]
    exact ⟨_, rfl⟩
theorem bq_const {ps : List Tx} {i : Nat} (h : (bq ps i).length ≤ i) : ∀ k, bq ps (i + k) = bq ps i
  | 0 => rfl
  | k + 1 => by
    have := bq_const h k
    rw [← Nat.add_assoc, bq_stop (by rw [this]; omega), this]
structure Inv (ps : List Tx) (i : Nat) (Q : List Tx) : Prop where
  nodup : Q.Nodup
  sub : ∀ p ∈ Q, p ∈ ps
  root : [] ∈ Q
  up : ∀ p ∈ Q, p = [] ∨ ∃ k, ∃ h : k < Q.length, k < i ∧ ∃ c, p = Q[k] ++ [c]
  down : ∀ k (h : k < Q.length), k < i → ∀ c, Q[k] ++ [c] ∈ ps → Q[k] ++ [c] ∈ Q
  sorted : Q.Pairwise fun a b => a.length ≤ b.length
theorem Inv.le {ps : List Tx} {i : Nat} {Q : List Tx} (h : Inv ps i Q) (hi : i < Q.length) : ∀ p ∈ Q, p.length ≤ Q[i].length + 1 := by
  intro p hp
  rcases h.up p hp with rfl | ⟨k, hk, hki, c, rfl⟩
  · simp
  · have := List.pairwise_iff_getElem.1 h.sorted k i hk hi hki
    simp; omega
theorem inv_bq {ps : List Tx} (hw : Wf ps) : ∀ i, Inv ps i (bq ps i)
  | 0 => by
    refine ⟨by simp [bq], fun p hp => ?_, by simp [bq], fun p hp => .inl (by simpa [bq] using hp), fun k _ hk => by omega, by simp [bq]⟩
    obtain rfl : p = [] := by simpa [bq] using hp
    exact hw.nil_mem
  | i + 1 => by
    have h := inv_bq hw i
    by_cases hi : i < (bq ps i).length
    · rw [bq_succ hi]
      have hle := h.le hi
      generalize bq ps i = Q at *
      have hnew : ∀ c, Q[i] ++ [c] ∉ Q := fun c hc => by
        rcases h.up _ hc with e | ⟨k, hk, hki, d, e⟩
        · simp at e
        · obtain ⟨e1, _⟩ := List.append_inj' e rfl
          have h1 := nd_inj h.nodup e1
          omega
      refine ⟨?_, ?_, ?_, ?_, ?_, ?_⟩
      · rw [List.nodup_append]
        refine ⟨h.nodup, nodup_kidsT _ _, fun a ha b hb e => ?_⟩
        obtain ⟨_, c, rfl⟩ := (mem_kidsT _ _ _).1 hb
        exact hnew c (e ▸ ha)
      · intro p hp
        rcases List.mem_append.1 hp with hp | hp
        · exact h.sub p hp
        · exact ((mem_kidsT _ _ _).1 hp).1
      · exact List.mem_append_left _ h.root
      · intro p hp
        rcases List.mem_append.1 hp with hp | hp
        · rcases h.up p hp with e | ⟨k, hk, hki, c, e⟩
          · exact .inl e
          · exact .inr ⟨k, by simp; omega, by omega, c, by rw [List.getElem_append_left hk]; exact e⟩
        · obtain ⟨_, c, e⟩ := (mem_kidsT _ _ _).1 hp
          exact .inr ⟨i, by simp; omega, by omega, c, by rw [List.getElem_append_left hi]; exact e⟩
      · intro k hk hki c hc
        by_cases hki2 : k < i
        · rw [List.getElem_append_left (by omega)] at hc ⊢
          exact List.mem_append_left _ (h.down k (by omega) hki2 c hc)
        · obtain rfl : k = i := by omega
          rw [List.getElem_append_left hi] at hc ⊢
          exact List.mem_append_right _ ((mem_kidsT _ _ _).2 ⟨hc, c, rfl⟩)
      · rw [List.pairwise_append]
        refine ⟨h.sorted, ?_, fun a ha b hb => ?_⟩
        · refine List.Pairwise.imp_of_mem (R := fun _ _ => True) ?_ (List.pairwise_iff_getElem.2 fun _ _ _ _ _ => trivial)
          intro a b ha hb _
          obtain ⟨_, c, rfl⟩ := (mem_kidsT _ _ _).1 ha
          obtain ⟨_, d, rfl⟩ := (mem_kidsT _ _ _).1 hb
          simp
        · obtain ⟨_, d, rfl⟩ := (mem_kidsT _ _ _).1 hb
          have := hle a ha
          simpa using this
    · rw [bq_stop (by omega)]
      refine ⟨h.nodup, h.sub, h.root, fun p hp => ?_, fun k hk _ => h.down k hk (by omega), h.sorted⟩
      rcases h.up p hp with e | ⟨k, hk, hki, r⟩
      · exact .inl e
      · exact .inr ⟨k, hk, by omega, r⟩
theorem nodup_len : ∀ (Q ps : List Tx), Q.Nodup → (∀ p ∈ Q, p ∈ ps) → Q.length ≤ ps.length
  | [], _, _, _ => by simp
  | p :: Q, ps, hd, hs => by
    rw [List.nodup_cons] at hd
    have h1 := nodup_len Q (ps.erase p) hd.2 fun q hq => by
      have hne : q ≠ p := fun e => hd.1 (e ▸ hq)
      exact (List.mem_erase_of_ne hne).2 (hs q (by simp [hq]))
    have h2 : p ∈ ps := hs p (by simp)
    rw [List.length_erase_of_mem h2] at h1
    have h3 : 0 < ps.length := List.length_pos_of_mem h2
    simp; omega
theorem bq_len {ps : List Tx} (hw : Wf ps) (i : Nat) : (bq ps i).length ≤ ps.length := nodup_len _ _ (inv_bq hw i).nodup (inv_bq hw i).sub
/-- All that is not deeper than the node at hand is in the order. -/
theorem Inv.shallow {ps : List Tx} (hw : Wf ps) {i : Nat} {Q : List Tx} (h : Inv ps i Q) (hi : i < Q.length) : ∀ (n : Nat) (p : Tx), p.length = n → n ≤ Q[i].length → p ∈ ps → p ∈ Q
  | 0, p, hn, _, _ => by
    obtain rfl : p = [] := List.eq_nil_of_length_eq_zero hn
    exact h.root
  | n + 1, p, hn, hle, hp => by
    have hne : p ≠ [] := fun e => by rw [e] at hn; simp at hn
    have hd := h.shallow hw hi n p.dropLast (by simp; omega) (by omega) (hw.closed_drop hp hne)
    obtain ⟨k, hk, e⟩ := List.getElem_of_mem hd
    have hki : k < i := by
      rcases Nat.lt_or_ge k i with h1 | h1
      · exact h1
      · exfalso
        have hl : Q[k].length = n := by rw [e]; simp; omega
        rcases Nat.eq_or_lt_of_le h1 with h2 | h2
        · subst h2; omega
        · have := List.pairwise_iff_getElem.1 h.sorted i k hi hk h2
          omega
    have e2 : Q[k] ++ [p.getLast hne] = p := by rw [e]; exact List.dropLast_concat_getLast hne
    have := h.down k hk hki (p.getLast hne) (by rw [e2]; exact hp)
    rwa [e2] at this
/-- When all have been gone through, all are in the order. -/
theorem Inv.all {ps : List Tx} (hw : Wf ps) {i : Nat} {Q : List Tx} (h : Inv ps i Q) (hi : Q.length ≤ i) : ∀ (n : Nat) (p : Tx), p.length = n → p ∈ ps → p ∈ Q
  | 0, p, hn, _ => by
    obtain rfl : p = [] := List.eq_nil_of_length_eq_zero hn
    exact h.root
  | n + 1, p, hn, hp => by
    have hne : p ≠ [] := fun e => by rw [e] at hn; simp at hn
    have hd := h.all hw hi n p.dropLast (by simp; omega) (hw.closed_drop hp hne)
    obtain ⟨k, hk, e⟩ := List.getElem_of_mem hd
    have e2 : Q[k] ++ [p.getLast hne] = p := by rw [e]; exact List.dropLast_concat_getLast hne
    have := h.down k hk (by omega) (p.getLast hne) (by rw [e2]; exact hp)
    rwa [e2] at this
/-- The whole order. -/
def ord (ps : List Tx) : List Tx := bq ps ps.length
theorem ord_all {ps : List Tx} (hw : Wf ps) : ∀ p ∈ ps, p ∈ ord ps := fun p hp => (inv_bq hw ps.length).all hw (bq_len hw _) _ p rfl hp
theorem ord_len {ps : List Tx} (hw : Wf ps) : (ord ps).length = ps.length :=
  Nat.le_antisymm (bq_len hw _) (nodup_len _ _ hw.nodup (ord_all hw))
theorem ord_of_end {ps : List Tx} {i : Nat} (h : (bq ps i).length ≤ i) (hi : i ≤ ps.length) : bq ps i = ord ps := by
  have := bq_const h (ps.length - i)
  rw [← this, ord]
  congr 1
  omega
/-- As many as there are nodes: that's the whole order. -/
theorem ord_of_full {ps : List Tx} (hw : Wf ps) {i q : Nat} (hi : i < (bq ps i).length) (h : (bq ps i ++ (kidsT ps (bq ps i)[i]).take q).length = ps.length) : bq ps i ++ (kidsT ps (bq ps i)[i]).take q = ord ps := by
  have hil : i + 1 ≤ ps.length := Nat.lt_of_lt_of_le hi (bq_len hw i)
  obtain ⟨m, e⟩ := bq_more ps (i + 1) (ps.length - (i + 1))
  rw [show i + 1 + (ps.length - (i + 1)) = ps.length by omega, bq_succ hi, ← List.take_append_drop q (kidsT ps (bq ps i)[i]), ← List.append_assoc, List.append_assoc] at e
  have hl := ord_len hw
  unfold ord at hl ⊢
  rw [e, List.length_append, h] at hl
  rw [e, List.eq_nil_of_length_eq_zero (l := List.drop q (kidsT ps (bq ps i)[i]) ++ m) (by omega), List.append_nil]
end Go.Proofs.Ytlpjghhmacobdaa.Lnk
/- Links and numbers in memory. -/
namespace Go.Proofs.Ytlpjghhmacobdaa.Lnk
open Go.RowKit Go.Maps Go.Proofs.Ytlpjghhmacobdaa.Tri
set_option maxRecDepth 100000

/-- A slice of numbers that reads as xs, below block B. -/
def Is (W : World) (B : Nat) (a : Option Addr) (xs : List Int) : Prop :=
  0 < xs.length → ∃ b off, a = some ⟨b, off, none⟩ ∧ b < B ∧ ∀ i (h : i < xs.length), W.cell? ⟨b, off + i, none⟩ = some (.int .i64 xs[i])
theorem Is.keep {W W' : World} {B : Nat} {a : Option Addr} {xs : List Int} (h : Is W B a xs) (hb : Below B W W') : Is W' B a xs := fun h0 => by
  obtain ⟨b, off, e, hlt, hc⟩ := h h0
  exact ⟨b, off, e, hlt, fun i hi => (hb.cell (p := ⟨b, _, none⟩) hlt).trans (hc i hi)⟩
theorem Is.more {W : World} {B B' : Nat} {a : Option Addr} {xs : List Int} (h : Is W B a xs) (hB : B ≤ B') : Is W B' a xs := fun h0 => by
  obtain ⟨b, off, e, hlt, hc⟩ := h h0
  exact ⟨b, off, e, by omega, hc⟩
/-- Numbers as cells. -/
def ivals (l : List Int) : List Value := l.map fun x => Value.int .i64 x
theorem ivals_snoc (l : List Int) (x : Int) : ivals (l ++ [x]) = ivals l ++ [.int .i64 x] := by simp [ivals]
theorem ivals_append (l m : List Int) : ivals (l ++ m) = ivals l ++ ivals m := by simp [ivals]
theorem ivals_length (l : List Int) : (ivals l).length = l.length := by simp [ivals]
theorem ivals_at (l : List Int) (i : Nat) (h : i < l.length) : (ivals l)[i]? = some (.int .i64 l[i]) := by simp [ivals, h]
theorem ivals_one (l : List Int) : ∀ v ∈ ivals l, v.oneCell' = true := by
  intro v hv
  simp only [ivals, List.mem_map] at hv
  obtain ⟨c, _, rfl⟩ := hv
  rfl
theorem info3 : (Try.prog.info? 3).map (fun i => (i.zero, i.size, i.bytes)) = some (some (.int .i64 0), 1, 8) := by kernel_rfl
theorem und32 : Try.prog.underlying 23 = some (.slice 3) := by kernel_rfl
theorem own_is {w : World} {base n : Nat} {v : Value} {l : List Int} (h : w.ownsRow base 3 1 v n (ivals l)) : ∃ a cap, v = .slice a l.length cap ∧ Is w w.heap.size a l ∧ (a = none → cap = 0) := by
  have hn : l.length = n := by have := h.1; simpa [ivals] using this
  rcases h.2 with ⟨rfl, h0⟩ | ⟨g, cap, cur, rfl, hg, hh, hnc, _, hs, ht⟩
  · exact ⟨none, 0, by rw [hn, h0], (fun h1 => by omega), fun _ => rfl⟩
  · refine ⟨some ⟨g, 0, none⟩, cap, by rw [hn], fun _ => ⟨g, 0, rfl, txt_lt hh, fun i hi => ?_⟩, fun e => by cases e⟩
    have e : (cur.toList.take (n * 1))[i]? = (ivals l)[i]? := by rw [ht]
    rw [List.getElem?_take_of_lt (by omega)] at e
    rw [Nat.zero_add, cell_of_row w g _ _ 3 (0, 0) hh, ← Array.getElem?_toList, e]
    simp [ivals, hi]
theorem cell_new_at {w : World} {g : Nat} (u : Value) (t : TypeId) (hg : g = w.heap.size) : ∀ j x, [u][j]? = some x → (w.alloc (.cells #[u] t)).cell? ((⟨g, 0, none⟩ : Addr).add j) = some x := by
  subst hg
  exact cell_new1 w u t
theorem own_put3 {w : World} {g base e size n : Nat} {v v0 v1 v2 : Value} {xs : List Value} (h : w.ownsRow base e size v n xs) (hg : g < base) : (put3 w g v0 v1 v2).ownsRow base e size v n xs :=
  own_far_block h fun k hk => put3_other (by have := own_ge h hk; omega)
/-- A number appended to a row of the call's own. -/
theorem app_is {w : World} {ops : Array Oper} {rest : List Oper} {o : Oper} {a : Act} {Q : Exit → Act → World → Prop} (hgd : o.guard = none) (s x : Operand)
    (ho : o.op = .call { callee := .builtin .append, args := #[s, x], argTypes := #[23, 23] })
    (base : Nat) (v : Value) (n : Nat) (xs : List Int) (y : Int) (hs : a.eval s = v) (hown : w.ownsRow base 3 1 v n (ivals xs))
    (ad : Addr) (hx : a.eval x = .slice (some ad) 1 1) (hc : ∀ j u, [Value.int .i64 y][j]? = some u → w.cell? (ad.add j) = some u)
    (hn : n ≤ 1000000000) (hbase : base ≤ w.heap.size)
    (h : ∀ v' w', w'.ownsRow base 3 1 v' (n + 1) (ivals (xs ++ [y])) → w.grownBy w' v.ownBlock → wpList Try.prog ops Q rest (a.put o.dst v') w') : wpList Try.prog ops Q (o :: rest) a w := by
  obtain ⟨i0, hi, hz0, hz1, hz2⟩ := info_parts info3
  rw [ivals_snoc] at h
  exact wpList_append_own w hgd s x 23 ho base 3 i0 (.int .i64 0) 1 8 und32 hi hz0 hz1 hz2 rfl (by decide) v n (ivals xs) hs hown ad 1 1 [.int .i64 y] hx rfl hc (by simp [Value.oneCell']) (by unfold maxLen; omega) (by omega) hbase (fun v' w' h1 h2 _ => h v' w' h1 h2)
theorem wp_app_is {w : World} {o : Oper} {a : Act} {K : Act → World → Prop} {Q : Exit → Act → World → Prop} (s x : Operand)
    (ho : o.op = .call { callee := .builtin .append, args := #[s, x], argTypes := #[23, 23] })
    (base : Nat) (v : Value) (n : Nat) (xs : List Int) (y : Int) (hs : a.eval s = v) (hown : w.ownsRow base 3 1 v n (ivals xs))
    (ad : Addr) (hx : a.eval x = .slice (some ad) 1 1) (hc : ∀ j u, [Value.int .i64 y][j]? = some u → w.cell? (ad.add j) = some u)
    (hn : n ≤ 1000000000) (hbase : base ≤ w.heap.size)
    (h : ∀ v' w', w'.ownsRow base 3 1 v' (n + 1) (ivals (xs ++ [y])) → w.grownBy w' v.ownBlock → K (a.put o.dst v') w') : o.wp Try.prog a w K Q := by
  obtain ⟨i0, hi, hz0, hz1, hz2⟩ := info_parts info3
  rw [ivals_snoc] at h
  exact wp_append_own w s x 23 ho base 3 i0 (.int .i64 0) 1 8 und32 hi hz0 hz1 hz2 rfl (by decide) v n (ivals xs) hs hown ad 1 1 [.int .i64 y] hx rfl hc (by simp [Value.oneCell']) (by unfold maxLen; omega) (by omega) hbase (fun v' w' h1 h2 _ => h v' w' h1 h2)
/-- Numbers appended to a row of the call's own. -/
theorem app_isl {w : World} {ops : Array Oper} {rest : List Oper} {o : Oper} {a : Act} {Q : Exit → Act → World → Prop} (hgd : o.guard = none) (s x : Operand)
    (ho : o.op = .call { callee := .builtin .append, args := #[s, x], argTypes := #[23, 23] })
    (base : Nat) (v : Value) (n : Nat) (xs : List Int) (hs : a.eval s = v) (hown : w.ownsRow base 3 1 v n (ivals xs))
    (A : Option Addr) (l : List Int) (c B : Nat) (hx : a.eval x = .slice A l.length c) (hb : Is w B A l) (hnil : A = none → c = 0)
    (hn : n + l.length ≤ 1000000000) (hbase : base ≤ w.heap.size)
    (h : ∀ v' w', w'.ownsRow base 3 1 v' (n + l.length) (ivals (xs ++ l)) → w.grownBy w' v.ownBlock → wpList Try.prog ops Q rest (a.put o.dst v') w') : wpList Try.prog ops Q (o :: rest) a w := by
  obtain ⟨i0, hi, hz0, hz1, hz2⟩ := info_parts info3
  rw [ivals_append] at h
  cases A with
  | none =>
    have hl : l = [] := by
      rcases Nat.eq_zero_or_pos l.length with h0 | h0
      · exact List.eq_nil_of_length_eq_zero h0
      · obtain ⟨_, _, e, _⟩ := hb h0; cases e
    subst hl
    rw [hnil rfl] at hx
    refine wpList_append_own_none hgd s x 23 ho base 3 i0 1 und32 hi v n (ivals xs) hs hown hx (h v w ?_ (World.grownBy.refl w _))
    simpa [ivals] using hown
  | some ad =>
    refine wpList_append_own w hgd s x 23 ho base 3 i0 (.int .i64 0) 1 8 und32 hi hz0 hz1 hz2 rfl (by decide) v n (ivals xs) hs hown ad l.length c (ivals l) hx (by simp [ivals]) ?_ (ivals_one l) (by unfold maxLen; omega) (by omega) hbase (fun v' w' h1 h2 _ => h v' w' h1 h2)
    intro j u hj
    have hjl : j < l.length := by
      have := (List.getElem?_eq_some_iff.1 hj).1
      simpa [ivals] using this
    obtain ⟨b, off, e, _, hc⟩ := hb (by omega)
    obtain rfl := Option.some.inj e
    rw [add_at, hc j hjl]
    simpa [ivals, hjl] using hj
/-- A call that hands out numbers, and leaves what was there as it was. -/
def GivesInts (w : World) (l : List Int) (e : Ending) (w' : World) : Prop := ∃ a cap, e = .returned (.slice a l.length cap) ∧ Is w' w'.heap.size a l ∧ (a = none → cap = 0) ∧ Below w.heap.size w w'
/-- A link's cells. -/
def lcells (r : Lk) : List Value := [.int .i64 r.fail, .int .i64 r.out, .int .i64 (r.own : Int)]
abbrev lkV (r : Lk) : Value := .agg #[.int .i64 r.fail, .int .i64 r.out, .int .i64 (r.own : Int)]
def lvals (l : List Lk) : List Value := l.flatMap lcells
theorem lvals_length (l : List Lk) : (lvals l).length = l.length * 3 := by
  induction l with
  | nil => rfl
  | cons p l ih => simp only [lvals, List.flatMap_cons, List.length_append, List.length_cons] at ih ⊢; rw [ih]; simp [lcells]; omega
theorem lvals_at : ∀ (xs : List Lk) (i j : Nat), j < 3 → (h : i < xs.length) → (lvals xs)[i * 3 + j]? = (lcells xs[i])[j]?
  | [], i, j, _, h => absurd h (by simp)
  | x :: xs, 0, j, hj, _ => by
    unfold lvals
    rw [List.flatMap_cons, List.getElem?_append_left (by simp [lcells]; omega)]
    simp
  | x :: xs, i + 1, j, hj, h => by
    have h' : i < xs.length := by simpa using h
    unfold lvals
    rw [List.flatMap_cons, List.getElem?_append_right (by simp [lcells]; omega)]
    have e : (i + 1) * 3 + j - (lcells x).length = i * 3 + j := by simp [lcells]; omega
    rw [e]
    exact lvals_at xs i j hj h'
theorem lvals_set : ∀ (xs : List Lk) (i : Nat) (r : Lk), i < xs.length → (((lvals xs).set (i * 3) (.int .i64 r.fail)).set (i * 3 + 1) (.int .i64 r.out)).set (i * 3 + 2) (.int .i64 (r.own : Int)) = lvals (xs.set i r)
  | [], i, _, h => absurd h (by simp)
  | y :: xs, 0, r, _ => by simp [lvals, lcells]
  | y :: xs, i + 1, r, h => by
    have h' : i < xs.length := by simpa using h
    have ih := lvals_set xs i r h'
    unfold lvals at ih ⊢
    rw [List.flatMap_cons, List.set_append_right _ _ (by simp [lcells]; omega), List.set_append_right _ _ (by simp [lcells]; omega), List.set_append_right _ _ (by simp [lcells]; omega)]
    have e : (i + 1) * 3 - (lcells y).length = i * 3 := by simp [lcells]; omega
    have e1 : (i + 1) * 3 + 1 - (lcells y).length = i * 3 + 1 := by simp [lcells]; omega
    have e2 : (i + 1) * 3 + 2 - (lcells y).length = i * 3 + 2 := by simp [lcells]; omega
    rw [e, e1, e2, ih]
    simp
/-- What is kept of a number. -/
def lkAt (ps l : List Tx) (n : Int) : Lk := match pathOf ps n with | some p => lkOf ps l p | none => ⟨-1, -1, 0⟩
theorem lkAt_in {ps : List Tx} (l : List Tx) {i : Nat} (h : i < ps.length) : lkAt ps l (i : Int) = lkOf ps l ps[i] := by rw [lkAt, pathOf_at h]
theorem lkAt_out {ps : List Tx} (l : List Tx) {n : Int} (h : ¬ (0 ≤ n ∧ n < ps.length)) : lkAt ps l n = ⟨-1, -1, 0⟩ := by rw [lkAt, pathOf_none h]
theorem lkAt_place {ps : List Tx} (l : List Tx) {p : Tx} (h : p ∈ ps) : lkAt ps l (place ps p) = lkOf ps l p := by
  obtain ⟨i, hi, e, e2, _⟩ := place_mem h
  rw [e, lkAt_in l hi, e2]
end Go.Proofs.Ytlpjghhmacobdaa.Lnk
/- Contracts of none, at, Fail, Out, Longest. -/
namespace Go.Proofs.Ytlpjghhmacobdaa.Lnk
open Go.RowKit Go.Maps Go.Proofs.Ytlpjghhmacobdaa.Tri
set_option maxRecDepth 100000

/-- The longest text that is an end. -/
def longOf (l : List Tx) (p : Tx) : Int := (endsOf l p).headD 0
theorem out_neg {ps : List Tx} {l : List Tx} {n : Int} (h : pathOf ps n = none) : lkAt ps l n = ⟨-1, -1, 0⟩ := by rw [lkAt, h]
theorem pathD_none {ps : List Tx} {n : Int} (h : ¬ (0 ≤ n ∧ n < ps.length)) : pathD ps n = [] := by rw [pathD, pathOf_none h]; rfl
/-- What is kept tells the longest. -/
theorem long_eq {ps l : List Tx} (hl : ∀ x ∈ l, x ∈ ps) (n : Int) : longOf l (pathD ps n) = if 0 < (lkAt ps l n).own then ((lkAt ps l n).own : Int) else ((lkAt ps l (lkAt ps l n).out).own : Int) := by
  by_cases hin : 0 ≤ n ∧ n < ps.length
  · obtain ⟨i, rfl⟩ : ∃ i : Nat, n = (i : Int) := ⟨n.toNat, by omega⟩
    have hi : i < ps.length := by omega
    rw [lkAt_in l hi, pathD_at hi, longOf, ends_split]
    show _ = if 0 < own l ps[i] then (own l ps[i] : Int) else ((lkAt ps l (outOf ps l ps[i])).own : Int)
    by_cases ho : 0 < own l ps[i]
    · rw [if_pos ho, if_pos ho]; rfl
    · rw [if_neg ho, if_neg ho, List.nil_append]
      rcases out_split hl ps[i] with ⟨h1, h2⟩ | ⟨z, h1, h2, h3, h4, h5, h6, h7⟩
      · rw [h1, h2, lkAt_out l (by omega)]; rfl
      · rw [h5, h6, lkAt_place l h3, ends_split, if_pos (own_pos.2 ⟨h2, h1⟩)]; rfl
  · have e : lkAt ps l (-1) = ⟨-1, -1, 0⟩ := lkAt_out l (by omega)
    rw [pathD_none hin, lkAt_out l hin]
    show _ = if 0 < 0 then ((0 : Nat) : Int) else ((lkAt ps l (-1)).own : Int)
    rw [e]; rfl
end Go.Proofs.Ytlpjghhmacobdaa.Lnk
/- The contract of Ends. -/
namespace Go.Proofs.Ytlpjghhmacobdaa.Lnk
open Go.RowKit Go.Maps Go.Proofs.Ytlpjghhmacobdaa.Tri
set_option maxRecDepth 100000

/-- How long a slice is. -/
def lenOf : Value → Nat
  | .slice _ n _ => n
  | _ => 0
/-- What ends in a number's path: what is kept of it tells it. -/
theorem lk_path (ps l : List Tx) (n : Int) : lkAt ps l n = ⟨failOf ps (pathD ps n), outOf ps l (pathD ps n), own l (pathD ps n)⟩ := by
  by_cases hin : 0 ≤ n ∧ n < ps.length
  · obtain ⟨i, rfl⟩ : ∃ i : Nat, n = (i : Int) := ⟨n.toNat, by omega⟩
    have hi : i < ps.length := by omega
    rw [lkAt_in l hi, pathD_at hi]; rfl
  · rw [pathD_none hin, lkAt_out l hin, own_nil]; rfl
theorem ends_len (l : List Tx) : ∀ p : Tx, (endsOf l p).length ≤ p.length
  | [] => by simp [endsOf]
  | c :: p => by
    have := ends_len l p
    unfold endsOf
    split <;> simp <;> omega
theorem eql_nil32 : ∀ (w : World) (a : Option Addr) (n c n' c' : Nat), (binOp .eql 23 (.slice a n c) (.slice none n' c')).run Try.prog w = .ok (.bool a.isNone) w :=
  fun w a n c n' c' => Lib.run_eql_slice_nil w _ _ a n c n' c' und32
/-- The order, as numbers. -/
def ordN (ps : List Tx) : List Int := (ord ps).map (place ps)
theorem ordN_len {ps : List Tx} (hw : Wf ps) : (ordN ps).length = ps.length := by rw [ordN, List.length_map, ord_len hw]
end Go.Proofs.Ytlpjghhmacobdaa.Lnk
/- Contracts of the closure that falls back, of linked and ownText. -/
namespace Go.Proofs.Ytlpjghhmacobdaa.Lnk
open Go.RowKit Go.Maps Go.Proofs.Ytlpjghhmacobdaa.Tri
set_option maxRecDepth 100000

theorem own_word (ps l : List Tx) {p : Tx} (hp : p ∈ ps) : wordOf ps l (place ps p) = place l p ∧ pathD ps (place ps p) = p := by
  obtain ⟨i, hi, e, e2, _⟩ := place_mem hp
  rw [e, wordOf_at l hi, pathD_at hi, e2]
  exact ⟨rfl, rfl⟩
/-- How deep a number is. -/
def mz (ps : List Tx) (n : Int) : Nat := if n < 0 then 0 else (pathD ps n).length + 1
theorem mz_place {ps : List Tx} {z : Tx} (h : z ∈ ps) : mz ps (place ps z) = z.length + 1 := by
  have h0 := (place_nonneg ps z).2 h
  rw [mz, if_neg (by omega), (own_word ps [] h).2]
theorem mz_fail {ps : List Tx} (hw : Wf ps) (z : Tx) : mz ps (failOf ps z) ≤ z.length := by
  by_cases hz : z = []
  · subst hz; rw [fail_nil, mz, if_pos (by omega)]; simp
  · obtain ⟨u, z', e, hu, h1, h2, h3, _⟩ := fail_step hw z hz
    rw [h3, mz_place h1]; omega
end Go.Proofs.Ytlpjghhmacobdaa.Lnk
/- What fill changes, block by block. -/
namespace Go.Proofs.Ytlpjghhmacobdaa.Lnk
open Go.RowKit Go.Maps Go.Proofs.Ytlpjghhmacobdaa.Tri
set_option maxRecDepth 100000

/-- A block of one cell. -/
def Blk1 (w : World) (g : Nat) (t : TypeId) (u : Value) : Prop := w.heap[g]? = some (.cells #[u] t (0, 0))
theorem Blk1.lt {w : World} {g : Nat} {t : TypeId} {u : Value} (h : Blk1 w g t u) : g < w.heap.size := txt_lt h
theorem Blk1.cell {w : World} {g : Nat} {t : TypeId} {u : Value} (h : Blk1 w g t u) : w.cell? ⟨g, 0, none⟩ = some u := by
  unfold Blk1 at h
  rw [cell_of_row w g _ _ t (0, 0) h]; rfl
/-- A link stored. -/
def putL (w : World) (g m : Nat) (r : Lk) : World := ((w.setCell ⟨g, m * 3, none⟩ (.int .i64 r.fail)).setCell ⟨g, m * 3 + 1, none⟩ (.int .i64 r.out)).setCell ⟨g, m * 3 + 2, none⟩ (.int .i64 (r.own : Int))
theorem putL_other {w : World} {g m k : Nat} {r : Lk} (h : k ≠ g) : (putL w g m r).heap[k]? = w.heap[k]? := by
  unfold putL
  rw [Below.heap_setCell _ _ _ _ h, Below.heap_setCell _ _ _ _ h, Below.heap_setCell _ _ _ _ h]
theorem below_putL {B : Nat} {a w : World} (h : Below B a w) {g : Nat} (hg : B ≤ g) (m : Nat) (r : Lk) : Below B a (putL w g m r) :=
  ((h.setCell (p := ⟨g, m * 3, none⟩) hg _).setCell (p := ⟨g, m * 3 + 1, none⟩) hg _).setCell (p := ⟨g, m * 3 + 2, none⟩) hg _
theorem putL_size (w : World) (g m : Nat) (r : Lk) : (putL w g m r).heap.size = w.heap.size := by simp [putL]
end Go.Proofs.Ytlpjghhmacobdaa.Lnk
/- The contract of fill. -/
namespace Go.Proofs.Ytlpjghhmacobdaa.Lnk
open Go.RowKit Go.Maps Go.Proofs.Ytlpjghhmacobdaa.Tri Go.Proofs.Ytlpjghhmacobdaa.Reg
set_option maxRecDepth 100000

theorem kidsT_at (ps : List Tx) (p : Tx) (j : Nat) (h : j < (rkids ps p).length) : (kidsT ps p)[j]'(by unfold kidsT; simpa using h) = p ++ [(rkids ps p)[j]] := by simp [kidsT]
theorem kidsT_len (ps : List Tx) (p : Tx) : (kidsT ps p).length = (rkids ps p).length := by simp [kidsT]
theorem kidsT_take (ps : List Tx) (p : Tx) (j : Nat) (h : j < (rkids ps p).length) : (kidsT ps p).take (j + 1) = (kidsT ps p).take j ++ [p ++ [(rkids ps p)[j]]] := by
  rw [List.take_succ_eq_append_getElem (by rw [kidsT_len]; exact h), kidsT_at ps p j h]
end Go.Proofs.Ytlpjghhmacobdaa.Lnk
/- The contract of Build. -/
namespace Go.Proofs.Ytlpjghhmacobdaa.Lnk
open Go.RowKit Go.Maps Go.Proofs.Ytlpjghhmacobdaa.Tri Go.Proofs.Ytlpjghhmacobdaa.Reg
set_option maxRecDepth 100000

theorem made_links (n : Nat) : (madeCells (Value.agg #[.int .i64 0, .int .i64 0, .int .i64 0]).cells (n * 3)).toList = lvals (List.replicate n ⟨0, 0, 0⟩) := by
  have e : lvals (List.replicate n ⟨0, 0, 0⟩) = List.replicate (n * 3) (.int .i64 0) := by
    induction n with
    | zero => rfl
    | succ n ih =>
      unfold lvals at ih ⊢
      rw [List.replicate_succ, List.flatMap_cons, ih, show (n + 1) * 3 = n * 3 + 1 + 1 + 1 by omega, List.replicate_succ, List.replicate_succ, List.replicate_succ]
      rfl
  rw [e]
  show (madeCells #[.int .i64 0, .int .i64 0, .int .i64 0] (n * 3)).toList = _
  apply List.ext_getElem?
  intro j
  by_cases hj : j < n * 3
  · simp only [madeCells, Array.toList_map, Array.toList_range]
    rw [List.getElem?_map, List.getElem?_range hj, List.getElem?_replicate, if_pos hj]
    show some (#[Value.int .i64 0, .int .i64 0, .int .i64 0][j % 3]!) = _
    rcases (show j % 3 = 0 ∨ j % 3 = 1 ∨ j % 3 = 2 by omega) with h | h | h <;> rw [h] <;> rfl
  · simp [madeCells, hj]
end Go.Proofs.Ytlpjghhmacobdaa.Lnk
/- Contracts of the reference: Fail, Out, Ends, Same. -/
namespace Go.Proofs.Ytlpjghhmacobdaa.Lnk
open Go.RowKit Go.Maps Go.Proofs.Ytlpjghhmacobdaa.Tri
set_option maxRecDepth 100000

theorem str_drop (x : Tx) (k : Nat) : (str x).extract k x.length = str (x.drop k) := by
  unfold str
  rw [ByteArray.extract_mk]
  congr 1
  show (List.take (x.length - k) (x.drop k)).toArray = _
  rw [List.take_of_length_le (by simp)]
theorem drop_at (s : Tx) (k : Nat) (h : k < s.length) : s.drop k = s[k] :: s.drop (k + 1) := List.drop_eq_getElem_cons h
theorem ib_eq (x y : Int) : (x != y) = decide (x ≠ y) := by
  rw [Bool.eq_iff_iff]; simp
set_option maxHeartbeats 1000000 in
/-- Same leaves what is there as it is: it draws alone. -/
theorem isame_any (w : World) (xs ys : List Int) (a b : Option Addr) (ca cb B : Nat) (hx : Is w B a xs) (hy : Is w B b ys) (hl : xs.length ≤ 1000000000) (hl2 : ys.length ≤ 1000000000) :
    Calls Try.prog 11 #[.slice a xs.length ca, .slice b ys.length cb] w fun e w' => e = .returned (.bool (decide (xs = ys))) ∧ ∃ q, w' = w.drewN q := by
  by_cases hlen : xs.length = ys.length
  · have hne : ((xs.length : Int) != (ys.length : Int)) = false := by rw [ib_eq]; simp; omega
    have HX := Lib.hid hx
    have HY := Lib.hid hy
    have HLE := Lib.hid hlen
    clear hx hy hlen
    go_enter Try.func11, Try.ntmps11
    go_wp2
    go_loopw [5] (fun i wr => ∃ (k q : Nat), k ≤ xs.length ∧ i = .int .i64 (k : Int) ∧ (∀ j (h1 : j < xs.length) (h2 : j < ys.length), j < k → xs[j] = ys[j]) ∧ wr = w.drewN q) (fun i _ => xs.length - (intOf i).toNat)
    case atStart => exact ⟨0, 0, Nat.zero_le _, rfl, fun j _ _ h => by omega, rfl⟩
    case round =>
      obtain ⟨k, q, hk, rfl, hall, rfl⟩ := hrel
      have HA := Lib.hid hall
      clear hall
      by_cases hlt : k < xs.length
      · have hlt2 : k < ys.length := by have := HLE.out; omega
        obtain ⟨b1, o1, rfl, hb1, hc1⟩ := HX.out (by omega)
        obtain ⟨b2, o2, rfl, hb2, hc2⟩ := HY.out (by omega)
        have hk1 : w.cell? ⟨b1, o1 + k, none⟩ = some (.int .i64 xs[k]) := hc1 k hlt
        have hk2 : w.cell? ⟨b2, o2 + k, none⟩ = some (.int .i64 ys[k]) := hc2 k hlt2
        have hkl : (k : Int) < (xs.length : Int) := by omega
        have hkl2 : (k : Int) < (ys.length : Int) := by omega
        have hk1 : (w.drewN q).cell? ⟨b1, o1 + k, none⟩ = some (.int .i64 xs[k]) := hk1
        have hk2 : (w.drewN q).cell? ⟨b2, o2 + k, none⟩ = some (.int .i64 ys[k]) := hk2
        clear hc1 hc2
        by_cases he : xs[k] = ys[k]
        · have hd : (xs[k] != ys[k]) = false := by rw [ib_eq]; simp [he]
          have HE := Lib.hid he
          clear he
          go_wp2
          go_quiet (fail)
          go_wp2
          exact ⟨⟨k + 1, q + nq, by omega, by go_num, fun j h1 h2 hj => by
            by_cases hjk : j = k
            · subst hjk; exact HE.out
            · exact HA.out j h1 h2 (by omega), rfl⟩, by simp [intOf]; omega⟩
        · have hd : (xs[k] != ys[k]) = true := by rw [ib_eq]; simp [he]
          have HE : Hid (decide (xs = ys) = false) := Lib.hid (decide_eq_false fun e => he (by subst e; rfl))
          clear he
          go_wp2
          go_quiet (fail)
          go_wp2
          go_ret
          exact ⟨ret_bool HE.out.symm, q + nq, by simp⟩
      · have HE : Hid (decide (xs = ys) = true) := Lib.hid (decide_eq_true (List.ext_getElem HLE.out fun j h1 h2 => HA.out j h1 h2 (by omega)))
        go_wp2
        go_ret
        exact ⟨ret_bool HE.out.symm, q, rfl⟩
  · have hne : ((xs.length : Int) != (ys.length : Int)) = true := by rw [ib_eq]; simp; omega
    have HE : Hid (decide (xs = ys) = false) := Lib.hid (decide_eq_false fun e => hlen (by rw [e]))
    clear hx hy hlen
    go_enter Try.func11, Try.ntmps11
    go_wp2
    go_ret
    exact ⟨ret_bool HE.out.symm, 0, rfl⟩
end Go.Proofs.Ytlpjghhmacobdaa.Lnk
/- The contract of the reference's Order. -/
namespace Go.Proofs.Ytlpjghhmacobdaa.Lnk
open Go.RowKit Go.Maps Go.Proofs.Ytlpjghhmacobdaa.Tri
set_option maxRecDepth 100000

theorem str_piece (x : Tx) (k : Nat) (h : k < x.length) : (str x).extract k (k + 1) = str [x[k]] := by
  unfold str
  rw [ByteArray.extract_mk]
  congr 1
  show (List.take (k + 1 - k) (x.drop k)).toArray = _
  rw [List.drop_eq_getElem_cons h, show k + 1 - k = 1 by omega]
  rfl
theorem run_piece (x : Tx) (k : Nat) (h : k < x.length) (w : World) : (Instr.slice 9 (.string (str x)) (some (.int .i64 (k : Int))) (some (.int .i64 ((k : Int) + 1))) none).run Try.prog w = .ok (.string (str [x[k]])) w := by
  have hz := str_size x
  rw [run_slice_string (P := Try.prog) w 9 (str x) .i64 .i64 (k : Int) ((k : Int) + 1) und9 (by omega) (by omega) (by rw [hz]; omega)]
  have e1 : (k : Int).toNat = k := by omega
  have e2 : ((k : Int) + 1).toNat = k + 1 := by omega
  rw [e1, e2, str_piece x k h]
theorem rkidsT_at (ps : List Tx) (p : Tx) (j : Nat) (h : j < (rkids ps p).length) : (kidsT ps p)[j]'(by unfold kidsT; simpa using h) = p ++ [(rkids ps p)[j]] := by simp [kidsT]
theorem rkidsT_len (ps : List Tx) (p : Tx) : (kidsT ps p).length = (rkids ps p).length := by simp [kidsT]
theorem rkidsT_take (ps : List Tx) (p : Tx) (j : Nat) (h : j < (rkids ps p).length) : (kidsT ps p).take (j + 1) = (kidsT ps p).take j ++ [p ++ [(rkids ps p)[j]]] := by
  rw [List.take_succ_eq_append_getElem (by rw [rkidsT_len]; exact h), rkidsT_at ps p j h]
end Go.Proofs.Ytlpjghhmacobdaa.Lnk
