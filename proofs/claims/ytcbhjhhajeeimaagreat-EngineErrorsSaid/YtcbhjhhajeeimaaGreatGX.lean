/- Package by package: K7. -/
import Derived.Test.YtcbhjhhajeeimaaGreatGK
import Derived.Test.YtcbhjhhajeeimaaGreatGS
/- Mathematics of stage 13: all pieces of a line that are one text. -/
namespace Go.Proofs.YtcbhjhhajeeimaaGreat.Two
open Go.Proofs.YtcbhjhhajeeimaaGreat.Crt Go.Proofs.YtcbhjhhajeeimaaGreat.Prs
set_option maxRecDepth 100000
/-- The piece at a place. -/
def pieceAt (b : Crt.Tx) (p : Nat) : Pr := ⟨(p : Int), ((p + b.length : Nat) : Int)⟩
/-- The pieces at places below k, rising. -/
def pcsTo (b line : Crt.Tx) : Nat → List Pr
  | 0 => []
  | k + 1 => if Stands line b k then pcsTo b line k ++ [pieceAt b k] else pcsTo b line k
/-- All pieces. -/
def pcs (b line : Crt.Tx) : List Pr := pcsTo b line (line.length + 1)
theorem mem_pcsTo (b line : Crt.Tx) (r : Pr) : ∀ k, r ∈ pcsTo b line k ↔ ∃ p, p < k ∧ Stands line b p ∧ r = pieceAt b p
  | 0 => by simp [pcsTo]
  | k + 1 => by
    have ih := mem_pcsTo b line r k
    rw [pcsTo]
    constructor
    · intro h
      by_cases hs : Stands line b k
      · rw [if_pos hs, List.mem_append, List.mem_singleton, ih] at h
        rcases h with ⟨p, h1, h2, h3⟩ | h
        · exact ⟨p, by omega, h2, h3⟩
        · exact ⟨k, by omega, hs, h⟩
      · rw [if_neg hs, ih] at h
        obtain ⟨p, h1, h2, h3⟩ := h
        exact ⟨p, by omega, h2, h3⟩
    · rintro ⟨p, h1, h2, h3⟩
      by_cases hs : Stands line b k
      · rw [if_pos hs, List.mem_append, List.mem_singleton, ih]
        by_cases e : p = k
        · exact .inr (by rw [h3, e])
        · exact .inl ⟨p, by omega, h2, h3⟩
      · rw [if_neg hs, ih]
        exact ⟨p, by
          by_cases e : p = k
          · subst e; exact absurd h2 hs
          · omega, h2, h3⟩
theorem rise_snoc : ∀ (l : List Pr) (p : Pr), Rise l → (∀ r ∈ l, lt r p = true) → Rise (l ++ [p])
  | [], p, _, _ => by simp [Rise]
  | q :: l, p, h, hl => by
    refine ⟨?_, rise_snoc l p h.2 fun r hr => hl r (List.mem_cons_of_mem _ hr)⟩
    intro r hr
    rcases List.mem_append.1 hr with hr | hr
    · exact h.1 r hr
    · rw [List.mem_singleton] at hr
      subst hr
      exact hl q (List.mem_cons_self ..)
theorem rise_pcsTo (b line : Crt.Tx) : ∀ k, Rise (pcsTo b line k)
  | 0 => trivial
  | k + 1 => by
    rw [pcsTo]
    split
    · refine rise_snoc _ _ (rise_pcsTo b line k) fun r hr => ?_
      obtain ⟨p, h1, _, rfl⟩ := (mem_pcsTo b line r k).1 hr
      exact (lt_iff _ _).2 (.inl (by show (p : Int) < (k : Int); omega))
    · exact rise_pcsTo b line k
theorem pcsTo_skip (b line : Crt.Tx) (k : Nat) : ∀ d, (∀ q, k ≤ q → q < k + d → ¬ Stands line b q) → pcsTo b line (k + d) = pcsTo b line k
  | 0, _ => rfl
  | d + 1, h => by
    rw [← Nat.add_assoc, pcsTo, if_neg (h (k + d) (by omega) (by omega)), pcsTo_skip b line k d fun q h1 h2 => h q h1 (by omega)]
/-- The next one is found: it is put behind those that were there. -/
theorem pcsTo_hit {b line : Crt.Tx} {k p : Nat} (h : First b line k p) : pcsTo b line (p + 1) = pcsTo b line k ++ [pieceAt b p] := by
  obtain ⟨d, rfl⟩ : ∃ d, p = k + d := ⟨p - k, by have := h.1; omega⟩
  rw [pcsTo, if_pos h.2.1, pcsTo_skip b line k d fun q h1 h2 => h.2.2 q h1 h2]
/-- None is left: those are all. -/
theorem pcsTo_over {b line : Crt.Tx} {k : Nat} (hb : b ≠ []) (h : ∀ q, k ≤ q → ¬ Stands line b q) : pcsTo b line k = pcs b line := by
  rw [pcs]
  rcases Nat.le_total k (line.length + 1) with h1 | h1
  · obtain ⟨d, hd⟩ : ∃ d, line.length + 1 = k + d := ⟨line.length + 1 - k, by omega⟩
    rw [hd, pcsTo_skip b line k d fun q h2 _ => h q h2]
  · obtain ⟨d, hd⟩ : ∃ d, k = line.length + 1 + d := ⟨k - (line.length + 1), by omega⟩
    rw [hd, pcsTo_skip b line (line.length + 1) d fun q h2 _ hs => by have := hs.le hb; omega]
theorem pcsTo_len (b line : Crt.Tx) : ∀ k, (pcsTo b line k).length ≤ k
  | 0 => Nat.le_refl _
  | k + 1 => by
    have := pcsTo_len b line k
    rw [pcsTo]
    split
    · rw [List.length_append]; simp; exact this
    · omega
theorem pcsTo_none {b line : Crt.Tx} (hb : b ≠ []) (h : line.length < b.length) : pcs b line = [] := by
  have := pcsTo_over (k := 0) hb (line := line) fun q _ hs => by have := hs.le hb; omega
  rw [← this]; rfl
/-- They are what is found of the one text (P13.3). -/
theorem pcs_scan {b line : Crt.Tx} (hb : b ≠ []) : pcs b line = Spa.scanOf [b] line := by
  refine rise_ext _ _ (rise_pcsTo b line _) (Spa.rise_scan [b] line) fun r => ?_
  rw [pcs, mem_pcsTo, Spa.mem_scan]
  have hbl := List.length_pos_iff.2 hb
  constructor
  · rintro ⟨p, h1, h2, rfl⟩
    have hle := h2.le hb
    refine ⟨p, p + b.length, by omega, hle, ?_, rfl⟩
    rw [List.mem_singleton]
    have := (stands_take line b p).1 h2
    rw [show List.drop p (List.take (p + b.length) line) = (line.drop p).take b.length by rw [List.drop_take]; congr 1; omega]
    exact this
  · rintro ⟨x, y, h1, h2, h3, rfl⟩
    rw [List.mem_singleton] at h3
    have hlen := congrArg List.length h3
    rw [List.length_drop, List.length_take] at hlen
    have hy : y = x + b.length := by omega
    subst hy
    refine ⟨x, by omega, (stands_take line b x).2 ?_, rfl⟩
    rw [List.drop_take, show x + b.length - x = b.length by omega] at h3
    exact h3
theorem pcs_front {b line : Crt.Tx} (hb : b ≠ []) (k : Nat) (hk : k ≤ line.length) : pcs b (line.take k) = (pcs b line).filter fun p => decide (p.e ≤ (k : Int)) := by
  rw [pcs_scan hb, pcs_scan hb, Spa.scan_front [b] line k hk]
/-- The places alone. -/
def plTo (b line : Crt.Tx) : Nat → List Nat
  | 0 => []
  | k + 1 => if Stands line b k then plTo b line k ++ [k] else plTo b line k
def pl (b line : Crt.Tx) : List Nat := plTo b line (line.length + 1)
theorem pcsTo_pl (b line : Crt.Tx) : ∀ k, pcsTo b line k = (plTo b line k).map (pieceAt b)
  | 0 => rfl
  | k + 1 => by
    rw [pcsTo, plTo, pcsTo_pl b line k]
    split <;> simp
theorem pcs_pl (b line : Crt.Tx) : pcs b line = (pl b line).map (pieceAt b) := pcsTo_pl b line _
theorem mem_plTo (b line : Crt.Tx) (p : Nat) : ∀ k, p ∈ plTo b line k ↔ p < k ∧ Stands line b p
  | 0 => by simp [plTo]
  | k + 1 => by
    have ih := mem_plTo b line p k
    rw [plTo]
    by_cases hs : Stands line b k
    · rw [if_pos hs, List.mem_append, List.mem_singleton, ih]
      constructor
      · rintro (⟨h1, h2⟩ | rfl)
        · exact ⟨by omega, h2⟩
        · exact ⟨by omega, hs⟩
      · rintro ⟨h1, h2⟩
        by_cases e : p = k
        · exact .inr e
        · exact .inl ⟨by omega, h2⟩
    · rw [if_neg hs, ih]
      constructor
      · rintro ⟨h1, h2⟩; exact ⟨by omega, h2⟩
      · rintro ⟨h1, h2⟩
        exact ⟨by
          by_cases e : p = k
          · subst e; exact absurd h2 hs
          · omega, h2⟩
theorem mem_pl {b line : Crt.Tx} (hb : b ≠ []) (p : Nat) : p ∈ pl b line ↔ Stands line b p := by
  rw [pl, mem_plTo]
  exact ⟨fun h => h.2, fun h => ⟨by have := h.le hb; omega, h⟩⟩
theorem plTo_rise (b line : Crt.Tx) : ∀ k, (plTo b line k).Pairwise (· < ·)
  | 0 => List.Pairwise.nil
  | k + 1 => by
    rw [plTo]
    split
    · refine List.pairwise_append.2 ⟨plTo_rise b line k, List.pairwise_singleton _ _, fun x hx y hy => ?_⟩
      rw [List.mem_singleton] at hy
      subst hy
      exact ((mem_plTo b line x y).1 hx).1
    · exact plTo_rise b line k
theorem pl_lt (b line : Crt.Tx) {i j : Nat} (hj : j < (pl b line).length) (h : i < j) : (pl b line)[i] < (pl b line)[j] :=
  (List.pairwise_iff_getElem.1 (plTo_rise b line _)) i j _ _ h
/-- From where on the i-th place is the first one. -/
def fromAt (l : List Nat) : Nat → Nat
  | 0 => 0
  | i + 1 => l.getD i 0 + 1
theorem fromAt_succ (l : List Nat) (i : Nat) (h : i < l.length) : fromAt l (i + 1) = l[i] + 1 := by
  rw [fromAt, List.getD_eq_getElem?_getD, List.getElem?_eq_getElem h]; rfl
theorem pl_before {b line : Crt.Tx} (hb : b ≠ []) {i q : Nat} (hi : i ≤ (pl b line).length) (hq : fromAt (pl b line) i ≤ q) (hs : Stands line b q) : ∃ j, i ≤ j ∧ ∃ h : j < (pl b line).length, (pl b line)[j] = q := by
  obtain ⟨j, hj, e⟩ := List.mem_iff_getElem.1 ((mem_pl hb q).2 hs)
  refine ⟨j, ?_, hj, e⟩
  rcases Nat.lt_or_ge j i with h | h
  · exfalso
    obtain ⟨i', rfl⟩ : ∃ i', i = i' + 1 := ⟨i - 1, by omega⟩
    rw [fromAt_succ _ _ (by omega)] at hq
    rcases Nat.lt_or_ge j i' with h2 | h2
    · have := pl_lt b line (i := j) (j := i') (by omega) h2
      omega
    · obtain rfl : j = i' := by omega
      omega
  · exact h
theorem pl_first {b line : Crt.Tx} (hb : b ≠ []) {i : Nat} (hi : i < (pl b line).length) : First b line (fromAt (pl b line) i) (pl b line)[i] := by
  refine ⟨?_, (mem_pl hb _).1 (List.getElem_mem hi), fun q h1 h2 hs => ?_⟩
  · cases i with
    | zero => exact Nat.zero_le _
    | succ i =>
      rw [fromAt_succ _ _ (by omega)]
      exact pl_lt b line hi (by omega)
  · obtain ⟨j, hj, hj2, e⟩ := pl_before hb (by omega) h1 hs
    rcases Nat.lt_or_ge i j with h3 | h3
    · have := pl_lt b line hj2 h3
      omega
    · obtain rfl : j = i := by omega
      omega
theorem pl_none {b line : Crt.Tx} (hb : b ≠ []) : ∀ q, fromAt (pl b line) (pl b line).length ≤ q → ¬ Stands line b q := fun q hq hs => by
  obtain ⟨j, hj, hj2, _⟩ := pl_before hb (Nat.le_refl _) hq hs
  omega
/-- From a place on, that place is the first one. -/
theorem first_self {b line : Crt.Tx} {p : Nat} (h : Stands line b p) : First b line p p := ⟨Nat.le_refl _, h, fun q h1 h2 => by omega⟩
/-- A text stands where it is put. -/
theorem stands_mid (a b c : Crt.Tx) : Stands (a ++ b ++ c) b a.length := fun i hi => by
  rw [List.append_assoc, List.getElem?_append_right (by omega), Nat.add_sub_cancel_left, List.getElem?_append_left hi]
end Go.Proofs.YtcbhjhhajeeimaaGreat.Two
