/- Mathematics of classes of bytes: S tells which bytes stand in a text. -/
import Derived.Test.YtlepabeibniabaaBase
namespace Go.Proofs.Ytlepabeibniabaa.Cls
set_option maxRecDepth 100000
abbrev Tx := List UInt8
/-- The bytes below k that f tells, rising. -/
def upTo (f : UInt8 → Bool) (k : Nat) : List UInt8 := ((List.range k).map UInt8.ofNat).filter f
theorem upTo_succ (f : UInt8 → Bool) (k : Nat) : upTo f (k + 1) = if f (UInt8.ofNat k) then upTo f k ++ [UInt8.ofNat k] else upTo f k := by
  unfold upTo
  rw [List.range_succ, List.map_append, List.filter_append]
  by_cases h : f (UInt8.ofNat k) = true
  · simp [h]
  · simp [h]
theorem upTo_zero (f : UInt8 → Bool) : upTo f 0 = [] := rfl
theorem upTo_len (f : UInt8 → Bool) (k : Nat) : (upTo f k).length ≤ k := by
  unfold upTo
  refine Nat.le_trans (List.length_filter_le _ _) ?_
  simp
theorem ofNat_u8 (k : Nat) (h : k < 256) : (UInt8.ofNat k).toNat = k := by
  rw [UInt8.toNat_ofNat']; omega
theorem ofNat_toNat (c : UInt8) : UInt8.ofNat c.toNat = c := by simp
theorem mem_upTo (f : UInt8 → Bool) (c : UInt8) (k : Nat) (hk : k ≤ 256) : c ∈ upTo f k ↔ f c = true ∧ c.toNat < k := by
  unfold upTo
  rw [List.mem_filter, List.mem_map]
  constructor
  · rintro ⟨⟨i, hi, rfl⟩, h⟩
    rw [List.mem_range] at hi
    exact ⟨h, by rw [ofNat_u8 i (by omega)]; exact hi⟩
  · rintro ⟨h, hc⟩
    exact ⟨⟨c.toNat, List.mem_range.2 hc, ofNat_toNat c⟩, h⟩
theorem mem_all (f : UInt8 → Bool) (c : UInt8) : c ∈ upTo f 256 ↔ f c = true := by
  rw [mem_upTo f c 256 (Nat.le_refl _)]
  exact ⟨fun h => h.1, fun h => ⟨h, c.toNat_lt⟩⟩
/-- They rise. -/
theorem upTo_rise (f : UInt8 → Bool) : ∀ k, k ≤ 256 → (upTo f k).Pairwise fun a b => a.toNat < b.toNat
  | 0, _ => by simp [upTo]
  | k + 1, h => by
    have ih := upTo_rise f k (by omega)
    rw [upTo_succ]
    split
    · rw [List.pairwise_append]
      refine ⟨ih, by simp, fun a ha b hb => ?_⟩
      rw [List.mem_singleton.1 hb, ofNat_u8 k (by omega)]
      exact ((mem_upTo f a k (by omega)).1 ha).2
    · exact ih
theorem upTo_step (f : UInt8 → Bool) (j : Nat) (h : j + 1 < (upTo f 256).length) : ((upTo f 256)[j]).toNat < ((upTo f 256)[j + 1]).toNat :=
  List.pairwise_iff_getElem.1 (upTo_rise f 256 (Nat.le_refl _)) j (j + 1) (by omega) h (by omega)
theorem upTo_congr {f g : UInt8 → Bool} (h : ∀ c, f c = g c) (k : Nat) : upTo f k = upTo g k := by
  rw [show f = g from funext h]
theorem upTo_le (f : UInt8 → Bool) (a : Nat) : ∀ d, (upTo f a).length ≤ (upTo f (a + d)).length
  | 0 => Nat.le_refl _
  | d + 1 => by
    have := upTo_le f a d
    rw [← Nat.add_assoc, upTo_succ]
    split
    · simp; omega
    · exact this
theorem upTo_mono (f : UInt8 → Bool) {a b : Nat} (h : a ≤ b) : (upTo f a).length ≤ (upTo f b).length := by
  have := upTo_le f a (b - a)
  rwa [show a + (b - a) = b by omega] at this
theorem upTo_hit (f : UInt8 → Bool) (c : UInt8) (h : f c = true) : (upTo f (c.toNat + 1)).length = (upTo f c.toNat).length + 1 := by
  rw [upTo_succ, ofNat_toNat, if_pos h]; simp
/-- The class of a byte. -/
def cls (f : UInt8 → Bool) (c : UInt8) : Nat := if f c = true then (upTo f (c.toNat + 1)).length else 0
/-- How many bytes have a class above 0. -/
def cnt (f : UInt8 → Bool) : Nat := (upTo f 256).length
theorem cnt_le (f : UInt8 → Bool) : cnt f ≤ 256 := upTo_len f 256
theorem cls_zero {f : UInt8 → Bool} {c : UInt8} (h : f c = false) : cls f c = 0 := by simp [cls, h]
theorem cls_hit {f : UInt8 → Bool} {c : UInt8} (h : f c = true) : cls f c = (upTo f c.toNat).length + 1 := by
  rw [cls, if_pos h, upTo_hit f c h]
theorem cls_pos (f : UInt8 → Bool) (c : UInt8) : 0 < cls f c ↔ f c = true := by
  by_cases h : f c = true
  · rw [cls_hit h]; simp [h]
  · simp [cls, h]
theorem cls_le (f : UInt8 → Bool) (c : UInt8) : cls f c ≤ cnt f := by
  unfold cls
  split
  · exact upTo_mono f (by have := c.toNat_lt; omega)
  · omega
theorem cls_lt {f : UInt8 → Bool} {a b : UInt8} (ha : f a = true) (hb : f b = true) (h : a.toNat < b.toNat) : cls f a < cls f b := by
  rw [cls_hit hb]
  have := upTo_mono f (show a.toNat + 1 ≤ b.toNat by omega)
  rw [cls, if_pos ha]; omega
theorem cls_inj {f : UInt8 → Bool} {a b : UInt8} (ha : f a = true) (hb : f b = true) (h : cls f a = cls f b) : a = b := by
  rcases Nat.lt_trichotomy a.toNat b.toNat with h1 | h1 | h1
  · have := cls_lt ha hb h1; omega
  · exact UInt8.toNat_inj.1 h1
  · have := cls_lt hb ha h1; omega
/-- Two bytes are of one class just if they are the same, or neither stands in a text. -/
theorem cls_eq (f : UInt8 → Bool) (a b : UInt8) : cls f a = cls f b ↔ a = b ∨ (f a = false ∧ f b = false) := by
  constructor
  · intro h
    by_cases ha : f a = true
    · have hb : f b = true := (cls_pos f b).1 (by rw [← h]; exact (cls_pos f a).2 ha)
      exact .inl (cls_inj ha hb h)
    · have hb : ¬ f b = true := fun hb => by
        have := (cls_pos f b).2 hb
        rw [← h, cls_zero (by simpa using ha)] at this
        omega
      exact .inr ⟨by simpa using ha, by simpa using hb⟩
  · rintro (rfl | ⟨ha, hb⟩)
    · rfl
    · rw [cls_zero ha, cls_zero hb]
/-- The class of the i-th byte that has one is i + 1. -/
theorem take_upTo (f : UInt8 → Bool) : ∀ k, k ≤ 256 → ∀ i (h : i < (upTo f k).length), cls f ((upTo f k)[i]) = i + 1
  | 0, _, i, h => by simp [upTo] at h
  | k + 1, hk, i, h => by
    have ih := take_upTo f k (by omega)
    have e := upTo_succ f k
    by_cases hf : f (UInt8.ofNat k) = true
    · rw [if_pos hf] at e
      have h2 : i < (upTo f k).length + 1 := by rw [e] at h; simpa using h
      have e3 : (upTo f (k + 1))[i] = (upTo f k ++ [UInt8.ofNat k])[i]'(by simpa using h2) := by simp only [e]
      rw [e3]
      by_cases hi : i < (upTo f k).length
      · rw [List.getElem_append_left hi]
        exact ih i hi
      · have hi2 : i = (upTo f k).length := by omega
        rw [List.getElem_append_right (by omega)]
        simp only [hi2, Nat.sub_self, List.getElem_cons_zero]
        rw [cls_hit hf, ofNat_u8 k (by omega)]
    · rw [if_neg hf] at e
      have h2 : i < (upTo f k).length := by rw [e] at h; exact h
      have e3 : (upTo f (k + 1))[i] = (upTo f k)[i] := by simp only [e]
      rw [e3]; exact ih i h2
/-- The bytes of a class. -/
def ofCls (f : UInt8 → Bool) (k : Nat) : List UInt8 := upTo (fun c => decide (cls f c = k)) 256
theorem mem_ofCls (f : UInt8 → Bool) (k : Nat) (c : UInt8) : c ∈ ofCls f k ↔ cls f c = k := by
  rw [ofCls, mem_all]; simp
theorem ofCls_one (f : UInt8 → Bool) (k : Nat) (h0 : 0 < k) (h : k ≤ cnt f) : ∃ c, ofCls f k = [c] := by
  have hi : k - 1 < (upTo f 256).length := by unfold cnt at h; omega
  have hc := take_upTo f 256 (Nat.le_refl _) (k - 1) hi
  rw [show k - 1 + 1 = k by omega] at hc
  generalize (upTo f 256)[k - 1] = c at hc
  refine ⟨c, ?_⟩
  have hp := upTo_rise (fun c => decide (cls f c = k)) 256 (Nat.le_refl _)
  have hm := mem_ofCls f k
  change (ofCls f k).Pairwise _ at hp
  have hfc : f c = true := (cls_pos f c).1 (by omega)
  have hall : ∀ d ∈ ofCls f k, d = c := fun d hd => by
    have hd' := (hm d).1 hd
    exact cls_inj ((cls_pos f d).1 (by omega)) hfc (by omega)
  have hin : c ∈ ofCls f k := (hm c).2 hc
  match hL : ofCls f k with
  | [] => rw [hL] at hin; cases hin
  | [x] => rw [hL] at hin; rw [List.mem_singleton.1 hin]
  | x :: y :: r =>
    rw [hL] at hall hp
    have h1 := hall x (by simp)
    have h2 := hall y (by simp)
    have := (List.pairwise_cons.1 hp).1 y (by simp)
    rw [h1, h2] at this
    omega
theorem ofCls_none (f : UInt8 → Bool) (k : Nat) (h : cnt f < k) : ofCls f k = [] := by
  refine List.eq_nil_iff_forall_not_mem.2 fun c hc => ?_
  have := (mem_ofCls f k c).1 hc
  have := cls_le f c
  omega
theorem len_both (f : UInt8 → Bool) : ∀ k, (upTo f k).length + (upTo (fun c => !f c) k).length = k
  | 0 => rfl
  | k + 1 => by
    have := len_both f k
    rw [upTo_succ, upTo_succ]
    cases h : f (UInt8.ofNat k) <;> simp <;> omega
theorem ofCls_zero (f : UInt8 → Bool) : (ofCls f 0).length + cnt f = 256 := by
  have e : ofCls f 0 = upTo (fun c => !f c) 256 := upTo_congr (fun c => by
    by_cases h : f c = true
    · have := (cls_pos f c).2 h
      simp [h]; omega
    · simp [cls, h]) 256
  have := len_both f 256
  rw [e]; unfold cnt; omega
/-- How many bytes the first k classes have. -/
def sumTo (f : UInt8 → Bool) : Nat → Nat
  | 0 => 0
  | k + 1 => sumTo f k + (ofCls f k).length
theorem sum_eq (f : UInt8 → Bool) : ∀ k, k ≤ cnt f → sumTo f (k + 1) = 256 - cnt f + k
  | 0, _ => by
    have := ofCls_zero f
    simp [sumTo]; omega
  | k + 1, h => by
    obtain ⟨c, e⟩ := ofCls_one f (k + 1) (by omega) h
    rw [sumTo, sum_eq f k (by omega), e]
    simp; omega
theorem sum_all (f : UInt8 → Bool) : sumTo f (cnt f + 1) = 256 := by
  have := cnt_le f
  rw [sum_eq f (cnt f) (Nat.le_refl _)]; omega
/-- The last class that was given, of the bytes below k. -/
def lastTo (f : UInt8 → Bool) (k : Nat) : Nat := (upTo f k).length
theorem last_succ (f : UInt8 → Bool) (k : Nat) (h : k < 256) : lastTo f (k + 1) = if f (UInt8.ofNat k) = true then cls f (UInt8.ofNat k) else lastTo f k := by
  unfold lastTo
  by_cases hf : f (UInt8.ofNat k) = true
  · rw [upTo_succ, if_pos hf, if_pos hf, cls_hit hf, ofNat_u8 k h]; simp
  · rw [upTo_succ, if_neg hf, if_neg hf]
theorem last_next (f : UInt8 → Bool) (k : Nat) (h : k < 256) (hf : f (UInt8.ofNat k) = true) : cls f (UInt8.ofNat k) = lastTo f k + 1 := by
  rw [cls_hit hf, ofNat_u8 k h]; rfl
/-- Does a byte stand in a text? -/
def stands (l : List Tx) (c : UInt8) : Bool := l.any fun t => t.contains c
theorem stands_iff (l : List Tx) (c : UInt8) : stands l c = true ↔ ∃ t ∈ l, c ∈ t := by
  simp [stands]
theorem stands_congr {l m : List Tx} (h : ∀ t, t ∈ l ↔ t ∈ m) (c : UInt8) : stands l c = stands m c := by
  rw [Bool.eq_iff_iff, stands_iff, stands_iff]
  constructor
  · rintro ⟨t, ht, hc⟩; exact ⟨t, (h t).1 ht, hc⟩
  · rintro ⟨t, ht, hc⟩; exact ⟨t, (h t).2 ht, hc⟩
theorem stands_flat (l : List Tx) (c : UInt8) : stands l c = l.flatten.contains c := by
  rw [Bool.eq_iff_iff, stands_iff]; simp
end Go.Proofs.Ytlepabeibniabaa.Cls
