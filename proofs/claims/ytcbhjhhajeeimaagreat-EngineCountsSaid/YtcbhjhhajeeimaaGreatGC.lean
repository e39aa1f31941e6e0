/- Package by package: CMath Ca Cb Cc Cd Ce Cf Cg Ch. -/
import Derived.Test.YtcbhjhhajeeimaaGreatGB
import Derived.Test.YtcbhjhhajeeimaaGreatGF
import Derived.Test.YtcbhjhhajeeimaaGreatGT
import Derived.Deep.WholeRow
import Derived.Laws.CopyOwn
/- Mathematics of classes of bytes: S tells which bytes stand in a text. -/
namespace Go.Proofs.YtcbhjhhajeeimaaGreat.Cls
set_option maxRecDepth 100000
abbrev Tx := List UInt8
/-- The bytes below k that f tells, rising. -/
def upTo (f : UInt8 → Bool) (k : Nat) : List UInt8 := ((List.range k).map UInt8.ofNat).filter f
theorem upTo_succ (f : UInt8 → Bool) (k : Nat) : upTo f (k + 1) = if f (UInt8.ofNat k) then upTo f k ++ [UInt8.ofNat k] else upTo f k := by
  unfold upTo
  rw [List.range_succ, List.map_append, List.filter_append]
  by_cases h : f (UInt8.ofNat k) = true
  · simp [h]
  · simp [h]
theorem upTo_zero (f : UInt8 → Bool) : upTo f 0 = [] := rfl
theorem upTo_len (f : UInt8 → Bool) (k : Nat) : (upTo f k).length ≤ k := by
  unfold upTo
  refine Nat.le_trans (List.length_filter_le _ _) ?_
  simp
theorem ofNat_u8 (k : Nat) (h : k < 256) : (UInt8.ofNat k).toNat = k := by
  rw [UInt8.toNat_ofNat']; omega
theorem ofNat_toNat (c : UInt8) : UInt8.ofNat c.toNat = c := by simp
theorem mem_upTo (f : UInt8 → Bool) (c : UInt8) (k : Nat) (hk : k ≤ 256) : c ∈ upTo f k ↔ f c = true ∧ c.toNat < k := by
  unfold upTo
  rw [List.mem_filter, List.mem_map]
  constructor
  · rintro ⟨⟨i, hi, rfl⟩, h⟩
    rw [List.mem_range] at hi
    exact ⟨h, by rw [ofNat_u8 i (by omega)]; exact hi⟩
  · rintro ⟨h, hc⟩
    exact ⟨⟨c.toNat, List.mem_range.2 hc, ofNat_toNat c⟩, h⟩
theorem mem_all (f : UInt8 → Bool) (c : UInt8) : c ∈ upTo f 256 ↔ f c = true := by
  rw [mem_upTo f c 256 (Nat.le_refl _)]
  exact ⟨fun h => h.1, fun h => ⟨h, c.toNat_lt⟩⟩
/-- They rise. -/
theorem upTo_rise (f : UInt8 → Bool) : ∀ k, k ≤ 256 → (upTo f k).Pairwise fun a b => a.toNat < b.toNat
  | 0, _ => by simp [upTo]
  | k + 1, h => by
    have ih := upTo_rise f k (by omega)
    rw [upTo_succ]
    split
    · rw [List.pairwise_append]
      refine ⟨ih, by simp, fun a ha b hb => ?_⟩
      rw [List.mem_singleton.1 hb, ofNat_u8 k (by omega)]
      exact ((mem_upTo f a k (by omega)).1 ha).2
    · exact ih
theorem upTo_step (f : UInt8 → Bool) (j : Nat) (h : j + 1 < (upTo f 256).length) : ((upTo f 256)[j]).toNat < ((upTo f 256)[j + 1]).toNat :=
  List.pairwise_iff_getElem.1 (upTo_rise f 256 (Nat.le_refl _)) j (j + 1) (by omega) h (by omega)
theorem upTo_congr {f g : UInt8 → Bool} (h : ∀ c, f c = g c) (k : Nat) : upTo f k = upTo g k := by
  rw [show f = g from funext h]
theorem upTo_le (f : UInt8 → Bool) (a : Nat) : ∀ d, (upTo f a).length ≤ (upTo f (a + d)).length
  | 0 => Nat.le_refl _
  | d + 1 => by
    have := upTo_le f a d
    rw [← Nat.add_assoc, upTo_succ]
    split
    · simp; omega
    · exact this
theorem upTo_mono (f : UInt8 → Bool) {a b : Nat} (h : a ≤ b) : (upTo f a).length ≤ (upTo f b).length := by
  have := upTo_le f a (b - a)
  rwa [show a + (b - a) = b by omega] at this
theorem upTo_hit (f : UInt8 → Bool) (c : UInt8) (h : f c = true) : (upTo f (c.toNat + 1)).length = (upTo f c.toNat).length + 1 := by
  rw [upTo_succ, ofNat_toNat, if_pos h]; simp
/-- The class of a byte. -/
def cls (f : UInt8 → Bool) (c : UInt8) : Nat := if f c = true then (upTo f (c.toNat + 1)).length else 0
/-- How many bytes have a class above 0. -/
def cnt (f : UInt8 → Bool) : Nat := (upTo f 256).length
theorem cnt_le (f : UInt8 → Bool) : cnt f ≤ 256 := upTo_len f 256
theorem cls_zero {f : UInt8 → Bool} {c : UInt8} (h : f c = false) : cls f c = 0 := by simp [cls, h]
theorem cls_hit {f : UInt8 → Bool} {c : UInt8} (h : f c = true) : cls f c = (upTo f c.toNat).length + 1 := by
  rw [cls, if_pos h, upTo_hit f c h]
theorem cls_pos (f : UInt8 → Bool) (c : UInt8) : 0 < cls f c ↔ f c = true := by
  by_cases h : f c = true
  · rw [cls_hit h]; simp [h]
  · simp [cls, h]
theorem cls_le (f : UInt8 → Bool) (c : UInt8) : cls f c ≤ cnt f := by
  unfold cls
  split
  · exact upTo_mono f (by have := c.toNat_lt; omega)
  · omega
theorem cls_lt {f : UInt8 → Bool} {a b : UInt8} (ha : f a = true) (hb : f b = true) (h : a.toNat < b.toNat) : cls f a < cls f b := by
  rw [cls_hit hb]
  have := upTo_mono f (show a.toNat + 1 ≤ b.toNat by omega)
  rw [cls, if_pos ha]; omega
theorem cls_inj {f : UInt8 → Bool} {a b : UInt8} (ha : f a = true) (hb : f b = true) (h : cls f a = cls f b) : a = b := by
  rcases Nat.lt_trichotomy a.toNat b.toNat with h1 | h1 | h1
  · have := cls_lt ha hb h1; omega
  · exact UInt8.toNat_inj.1 h1
  · have := cls_lt hb ha h1; omega
/-- Two bytes are of one class just if they are the same, or neither stands in a text. -/
theorem cls_eq (f : UInt8 → Bool) (a b : UInt8) : cls f a = cls f b ↔ a = b ∨ (f a = false ∧ f b = false) := by
  constructor
  · intro h
    by_cases ha : f a = true
    · have hb : f b = true := (cls_pos f b).1 (by rw [← h]; exact (cls_pos f a).2 ha)
      exact .inl (cls_inj ha hb h)
    · have hb : ¬ f b = true := fun hb => by
        have := (cls_pos f b).2 hb
        rw [← h, cls_zero (by simpa using ha)] at this
        omega
      exact .inr ⟨by simpa using ha, by simpa using hb⟩
  · rintro (rfl | ⟨ha, hb⟩)
    · rfl
    · rw [cls_zero ha, cls_zero hb]
/-- The class of the i-th byte that has one is i + 1. -/
theorem take_upTo (f : UInt8 → Bool) : ∀ k, k ≤ 256 → ∀ i (h : i < (upTo f k).length), cls f ((upTo f k)[i]) = i + 1
  | 0, _, i, h => by simp [upTo] at h
  | k + 1, hk, i, h => by
    have ih := take_upTo f k (by omega)
    have e := upTo_succ f k
    by_cases hf : f (UInt8.ofNat k) = true
    · rw [if_pos hf] at e
      have h2 : i < (upTo f k).length + 1 := by rw [e] at h; simpa using h
      have e3 : (upTo f (k + 1))[i] = (upTo f k ++ [UInt8.ofNat k])[i]'(by simpa using h2) := by simp only [e]
      rw [e3]
      by_cases hi : i < (upTo f k).length
      · rw [List.getElem_append_left hi]
        exact ih i hi
      · have hi2 : i = (upTo f k).length := by omega
        rw [List.getElem_append_right (by omega)]
        simp only [hi2, Nat.sub_self, List.getElem_cons_zero]
        rw [cls_hit hf, ofNat_u8 k (by omega)]
    · rw [if_neg hf] at e
      have h2 : i < (upTo f k).length := by rw [e] at h; exact h
      have e3 : (upTo f (k + 1))[i] = (upTo f k)[i] := by simp only [e]
      rw [e3]; exact ih i h2
/-- The bytes of a class. -/
def ofCls (f : UInt8 → Bool) (k : Nat) : List UInt8 := upTo (fun c => decide (cls f c = k)) 256
theorem mem_ofCls (f : UInt8 → Bool) (k : Nat) (c : UInt8) : c ∈ ofCls f k ↔ cls f c = k := by
  rw [ofCls, mem_all]; simp
theorem ofCls_one (f : UInt8 → Bool) (k : Nat) (h0 : 0 < k) (h : k ≤ cnt f) : ∃ c, ofCls f k = [c] := by
  have hi : k - 1 < (upTo f 256).length := by unfold cnt at h; omega
  have hc := take_upTo f 256 (Nat.le_refl _) (k - 1) hi
  rw [show k - 1 + 1 = k by omega] at hc
  generalize (upTo f 256)[k - 1] = c at hc
  refine ⟨c, ?_⟩
  have hp := upTo_rise (fun c => decide (cls f c = k)) 256 (Nat.le_refl _)
  have hm := mem_ofCls f k
  change (ofCls f k).Pairwise _ at hp
  have hfc : f c = true := (cls_pos f c).1 (by omega)
  have hall : ∀ d ∈ ofCls f k, d = c := fun d hd => by
    have hd' := (hm d).1 hd
    exact cls_inj ((cls_pos f d).1 (by omega)) hfc (by omega)
  have hin : c ∈ ofCls f k := (hm c).2 hc
  match hL : ofCls f k with
  | [] => rw [hL] at hin; cases hin
  | [x] => rw [hL] at hin; rw [List.mem_singleton.1 hin]
  | x :: y :: r =>
    rw [hL] at hall hp
    have h1 := hall x (by simp)
    have h2 := hall y (by simp)
    have := (List.pairwise_cons.1 hp).1 y (by simp)
    rw [h1, h2] at this
    omega
theorem ofCls_none (f : UInt8 → Bool) (k : Nat) (h : cnt f < k) : ofCls f k = [] := by
  refine List.eq_nil_iff_forall_not_mem.2 fun c hc => ?_
  have := (mem_ofCls f k c).1 hc
  have := cls_le f c
  omega
theorem len_both (f : UInt8 → Bool) : ∀ k, (upTo f k).length + (upTo (fun c => !f c) k).length = k
  | 0 => rfl
  | k + 1 => by
    have := len_both f k
    rw [upTo_succ, upTo_succ]
    cases h : f (UInt8.ofNat k) <;> simp <;> omega
theorem ofCls_zero (f : UInt8 → Bool) : (ofCls f 0).length + cnt f = 256 := by
  have e : ofCls f 0 = upTo (fun c => !f c) 256 := upTo_congr (fun c => by
    by_cases h : f c = true
    · have := (cls_pos f c).2 h
      simp [h]; omega
    · simp [cls, h]) 256
  have := len_both f 256
  rw [e]; unfold cnt; omega
/-- How many bytes the first k classes have. -/
def sumTo (f : UInt8 → Bool) : Nat → Nat
  | 0 => 0
  | k + 1 => sumTo f k + (ofCls f k).length
theorem sum_eq (f : UInt8 → Bool) : ∀ k, k ≤ cnt f → sumTo f (k + 1) = 256 - cnt f + k
  | 0, _ => by
    have := ofCls_zero f
    simp [sumTo]; omega
  | k + 1, h => by
    obtain ⟨c, e⟩ := ofCls_one f (k + 1) (by omega) h
    rw [sumTo, sum_eq f k (by omega), e]
    simp; omega
theorem sum_all (f : UInt8 → Bool) : sumTo f (cnt f + 1) = 256 := by
  have := cnt_le f
  rw [sum_eq f (cnt f) (Nat.le_refl _)]; omega
/-- The last class that was given, of the bytes below k. -/
def lastTo (f : UInt8 → Bool) (k : Nat) : Nat := (upTo f k).length
theorem last_succ (f : UInt8 → Bool) (k : Nat) (h : k < 256) : lastTo f (k + 1) = if f (UInt8.ofNat k) = true then cls f (UInt8.ofNat k) else lastTo f k := by
  unfold lastTo
  by_cases hf : f (UInt8.ofNat k) = true
  · rw [upTo_succ, if_pos hf, if_pos hf, cls_hit hf, ofNat_u8 k h]; simp
  · rw [upTo_succ, if_neg hf, if_neg hf]
theorem last_next (f : UInt8 → Bool) (k : Nat) (h : k < 256) (hf : f (UInt8.ofNat k) = true) : cls f (UInt8.ofNat k) = lastTo f k + 1 := by
  rw [cls_hit hf, ofNat_u8 k h]; rfl
/-- Does a byte stand in a text? -/
def stands (l : List Tx) (c : UInt8) : Bool := l.any fun t => t.contains c
theorem stands_iff (l : List Tx) (c : UInt8) : stands l c = true ↔ ∃ t ∈ l, c ∈ t := by
  simp [stands]
theorem stands_congr {l m : List Tx} (h : ∀ t, t ∈ l ↔ t ∈ m) (c : UInt8) : stands l c = stands m c := by
  rw [Bool.eq_iff_iff, stands_iff, stands_iff]
  constructor
  · rintro ⟨t, ht, hc⟩; exact ⟨t, (h t).1 ht, hc⟩
  · rintro ⟨t, ht, hc⟩; exact ⟨t, (h t).2 ht, hc⟩
theorem stands_flat (l : List Tx) (c : UInt8) : stands l c = l.flatten.contains c := by
  rw [Bool.eq_iff_iff, stands_iff]; simp
end Go.Proofs.YtcbhjhhajeeimaaGreat.Cls
/- Arrays of 256 numbers by value; the contracts of Class and Table. -/
namespace Go.Proofs.YtcbhjhhajeeimaaGreat.Cls
open Go.RowKit Go.Maps
set_option maxRecDepth 100000

/-- Numbers as cells. -/
def ivals (l : List Int) : List Value := l.map fun x => Value.int .i64 x
def icells (l : List Int) : Array Value := (ivals l).toArray
theorem icells_size (l : List Int) : (icells l).size = l.length := by simp [icells, ivals]
theorem icells_at (l : List Int) (i : Nat) (h : i < l.length) : (icells l)[i]? = some (.int .i64 l[i]) := by simp [icells, ivals, h]
theorem icells_one (l : List Int) : (icells l).all (·.oneCell') = true := by
  rw [Array.all_eq_true_iff_forall_mem]
  intro v hv
  simp only [icells, ivals, List.mem_toArray, List.mem_map] at hv
  obtain ⟨x, _, rfl⟩ := hv
  rfl
theorem icells_set (l : List Int) (i : Nat) (x : Int) : (icells l).setIfInBounds i (.int .i64 x) = icells (l.set i x) := by
  simp [icells, ivals]
theorem icells_inj {l m : List Int} (h : icells l = icells m) : l = m := by
  have h2 : ivals l = ivals m := by simpa [icells] using h
  unfold ivals at h2
  refine List.map_inj_right (fun a b e => ?_) |>.1 h2
  injection e

/-- The classes of all bytes, as far as class k alone. -/
def pt (f : UInt8 → Bool) (k : Nat) : List Int := (List.range 256).map fun c => if cls f (UInt8.ofNat c) ≤ k then (cls f (UInt8.ofNat c) : Int) else 0
/-- The classes of all bytes. -/
def tab (f : UInt8 → Bool) : List Int := (List.range 256).map fun c => (cls f (UInt8.ofNat c) : Int)
theorem pt_length (f : UInt8 → Bool) (k : Nat) : (pt f k).length = 256 := by simp [pt]
theorem tab_length (f : UInt8 → Bool) : (tab f).length = 256 := by simp [tab]
theorem tab_at (f : UInt8 → Bool) (c : Nat) (h : c < (tab f).length) : (tab f)[c] = (cls f (UInt8.ofNat c) : Int) := by simp [tab]
theorem pt_zero (f : UInt8 → Bool) : pt f 0 = List.replicate 256 0 := by
  apply List.ext_getElem
  · simp [pt]
  · intro i h1 h2
    simp only [pt, List.getElem_map, List.getElem_range, List.getElem_replicate]
    split
    · omega
    · rfl
theorem pt_all (f : UInt8 → Bool) : pt f (cnt f) = tab f := by
  apply List.ext_getElem
  · simp [pt, tab]
  · intro i h1 h2
    simp only [pt, tab, List.getElem_map, List.getElem_range]
    rw [if_pos (cls_le f _)]
theorem pt_set (f : UInt8 → Bool) (k : Nat) (h : k < (upTo f 256).length) : (pt f k).set ((upTo f 256)[k]).toNat ((k : Int) + 1) = pt f (k + 1) := by
  have hc := take_upTo f 256 (Nat.le_refl _) k h
  have hm : f ((upTo f 256)[k]) = true := (mem_all f _).1 (List.getElem_mem h)
  generalize (upTo f 256)[k] = b at hc hm
  apply List.ext_getElem
  · simp [pt]
  · intro i h1 h2
    have hi : i < 256 := by simpa [pt] using h2
    rw [List.getElem_set]
    simp only [pt, List.getElem_map, List.getElem_range]
    by_cases e : b.toNat = i
    · rw [if_pos e, ← e, ofNat_toNat, hc, if_pos (Nat.le_refl _)]; omega
    · rw [if_neg e]
      by_cases q : cls f (UInt8.ofNat i) = k + 1
      · exfalso
        have q1 : f (UInt8.ofNat i) = true := (cls_pos f _).1 (by omega)
        have q2 := cls_inj hm q1 (by rw [hc, q])
        apply e
        rw [q2, ofNat_u8 i hi]
      · by_cases q3 : cls f (UInt8.ofNat i) ≤ k
        · rw [if_pos q3, if_pos (by omega)]
        · rw [if_neg q3, if_neg (by omega)]
theorem tab_none : tab (fun _ => false) = List.replicate 256 0 := by
  rw [← pt_all, ← pt_zero (fun _ => false)]
  have e : cnt (fun _ => false) = 0 := by simp [cnt, upTo]
  rw [e]
theorem tab_inj {f g : UInt8 → Bool} (h : ∀ c, f c = g c) : tab f = tab g := by
  have e : f = g := funext h
  rw [e]
/-- The cells of the classes of all bytes. -/
def cc (f : UInt8 → Bool) : Array Value := icells (tab f)
theorem cc_size (f : UInt8 → Bool) : (cc f).size = 256 := by rw [cc, icells_size, tab_length]
theorem cc_at (f : UInt8 → Bool) (c : UInt8) : (cc f)[c.toNat]? = some (.int .i64 (cls f c : Int)) := by
  have h : c.toNat < (tab f).length := by rw [tab_length]; exact c.toNat_lt
  rw [cc, icells_at _ _ h, tab_at, ofNat_toNat]
theorem cc_one (f : UInt8 → Bool) : (cc f).all (·.oneCell') = true := icells_one _
theorem info29 : (Tryz.prog.info? 108).map (fun i => (i.zero, i.size)) = some (some (.agg (Array.replicate 256 (.int .i64 0))), 256) := by kernel_rfl
theorem info27 : (Tryz.prog.info? 106).map (fun i => (i.zero, i.size)) = some (some (.agg (Array.replicate 256 (.int .i64 0))), 256) := by kernel_rfl
theorem size29 : (Tryz.prog.info? 108).map (·.size) = some 256 := (zero_of_info info29).2
theorem size27 : (Tryz.prog.info? 106).map (·.size) = some 256 := (zero_of_info info27).2
theorem und27 : Tryz.prog.underlying 106 = some (.array 256 3) := by kernel_rfl
theorem some29 : ∃ fs, Tryz.prog.underlying 108 = some (.struct fs) := by
  have h : (Tryz.prog.underlying 108).map (fun d => match d with | .struct _ => true | _ => false) = some true := by kernel_rfl
  cases hq : Tryz.prog.underlying 108 with
  | none => rw [hq] at h; cases h
  | some d =>
    rw [hq] at h
    cases d with
    | struct fs => exact ⟨fs, rfl⟩
    | _ => simp at h
/-- A block with the classes of all bytes. -/
def Blkc (w : World) (g t : Nat) (f : UInt8 → Bool) : Prop := w.heap[g]? = some (.cells (cc f) t (0, 0))
theorem Blkc.keep {w w' : World} {g t : Nat} {f : UInt8 → Bool} (h : Blkc w g t f) (hb : Below w.heap.size w w') : Blkc w' g t f := by
  have hl : g < w.heap.size := by
    rcases Nat.lt_or_ge g w.heap.size with h1 | h1
    · exact h1
    · unfold Blkc at h; rw [Array.getElem?_eq_none h1] at h; cases h
  exact (hb.block g hl).trans h
theorem Blkc.cell {w : World} {g t : Nat} {f : UInt8 → Bool} (h : Blkc w g t f) (c : UInt8) : w.cell? ⟨g, c.toNat, none⟩ = some (.int .i64 (cls f c : Int)) :=
  (cell_of_row w g _ _ t (0, 0) h).trans (cc_at f c)

end Go.Proofs.YtcbhjhhajeeimaaGreat.Cls
/- The contracts of Table, Len and Bytes. -/
namespace Go.Proofs.YtcbhjhhajeeimaaGreat.Cls
open Go.RowKit Go.Maps
set_option maxRecDepth 100000

theorem zeros : cc (fun _ => false) = Array.replicate 256 (.int .i64 0) := by
  simp only [cc, tab_none, icells, ivals, List.map_replicate, List.toArray_replicate]
theorem zero27 (w : World) : (zeroValue 106).run Tryz.prog w = .ok (.agg (cc (fun _ => false))) w := by
  rw [zeros]; exact (zero_of_info info27).1 w
theorem zero29 (w : World) : (zeroValue 108).run Tryz.prog w = .ok (.agg (cc (fun _ => false))) w := by
  rw [zeros]; exact (zero_of_info info29).1 w
set_option maxHeartbeats 1000000 in
theorem table_any (f : UInt8 → Bool) (w : World) :
    Calls Tryz.prog 49 #[.agg (cc f)] w fun e w' => e = .returned (.agg (cc f)) ∧ Below w.heap.size w w' := by
  have hz := zero27
  have HS := Lib.hid (cc_size f)
  have HO := Lib.hid (cc_one f)
  have hz0 := cc_size (fun _ => false)
  generalize cc (fun _ => false) = z at *
  generalize cc f = cs at *
  have HG1 := Lib.hid (heap_alloc2_old w (.cells cs 108) (.cells z 106))
  have HG2 := Lib.hid (heap_alloc2_new w (.cells cs 108) (.cells z 106))
  have HB : Hid (Below w.heap.size w ((w.alloc (.cells cs 108)).alloc (.cells z 106))) := Lib.hid (((Below.refl _ _).alloc (Nat.le_refl _) _).alloc (by simp) _)
  have HZ := Lib.hid hz0
  clear hz0
  go_enter Tryz.func49, Tryz.ntmps49
  go_wp2_with (first
    | (with_reducible refine wpList_load_row rfl 106 (.tmp 3) rfl w.heap.size rfl 108 cs (0, 0) _ HG1.out und27 rfl (by rw [HS.out]; exact size27) ?_)
    | (with_reducible refine wpList_store_row rfl 106 (.tmp 2) (.tmp 4) rfl (w.heap.size + 1) cs rfl rfl 106 z HG2.out (by rw [HS.out]; exact size27) (by rw [HS.out, HZ.out]) HO.out ?_))
  have es : ((w.alloc (.cells cs 108)).alloc (.cells z 106)).setRow (w.heap.size + 1) cs = (w.alloc (.cells cs 108)).alloc (.cells cs 106) := by
    have h := World.setRow_alloc_new (w.alloc (.cells cs 108)) z cs 106
    rw [World.size_alloc] at h
    exact h
  rw [es]
  refine bodyPost_ret (v := .agg cs) ?_ rfl ⟨rfl, ((Below.refl _ _).alloc (Nat.le_refl _) _).alloc (by simp) _⟩
  exact results_cell_row (p := 2) (ty := 106) Tryz.results49 _ _ (w.heap.size + 1) 106 cs (0, 0) _ rfl (heap_alloc2_new w _ _) und27 rfl (by rw [HS.out]; exact size27)
set_option maxHeartbeats 1000000 in
theorem len_any (f : UInt8 → Bool) (w : World) :
    Calls Tryz.prog 50 #[.agg (cc f)] w fun e w' => e = .returned (.int .i64 ((cnt f : Int) + 1)) ∧ Below w.heap.size w w' := by
  have hb : Below w.heap.size w (w.alloc (.cells (cc f) 108)) := (Below.refl _ _).alloc (Nat.le_refl _) _
  have HC : Hid (∀ c : UInt8, (w.alloc (.cells (cc f) 108)).cell? ⟨w.heap.size, c.toNat, none⟩ = some (.int .i64 (cls f c : Int))) := Lib.hid (fun c => Blkc.cell (heap_alloc_new w _) c)
  have HB := Lib.hid hb
  clear hb
  have hcn : cnt f = lastTo f 256 := rfl
  rw [hcn]
  clear hcn
  generalize cc f = cs at *
  go_enter Tryz.func50, Tryz.ntmps50
  go_wp2
  generalize w.alloc (.cells cs 108) = w1 at *
  go_loopw [3, 5] (fun v i wr => ∃ k : Nat, k ≤ 256 ∧ i = .int .i64 (k : Int) ∧ v = .int .i64 (lastTo f k : Int) ∧ wr = w1) (fun _ i _ => 256 - (intOf i).toNat)
  case atStart => exact ⟨0, by omega, rfl, rfl, rfl⟩
  case round =>
    obtain ⟨k, hk, rfl, rfl, rfl⟩ := hrel
    have hle := upTo_len f k
    by_cases hlt : k < 256
    · have hc := HC.out (UInt8.ofNat k)
      rw [ofNat_u8 k hlt] at hc
      have hk2 : (k : Int) < 256 := by omega
      have HS := Lib.hid (last_succ f k hlt)
      have HN := Lib.hid (last_next f k hlt)
      have HP := Lib.hid (cls_pos f (UInt8.ofNat k))
      have HX : Hid (max (lastTo f k) (cls f (UInt8.ofNat k)) = lastTo f (k + 1)) := Lib.hid (by
        rw [HS.out]
        by_cases q : f (UInt8.ofNat k) = true
        · rw [if_pos q, HN.out q]; omega
        · rw [if_neg q]
          have := mt HP.out.1 q
          omega)
      clear HS HN HP
      generalize cls f (UInt8.ofNat k) = x at *
      go_wp2
      refine ⟨⟨k + 1, by omega, by go_num, ?_, trivial⟩, by simp [intOf]; omega⟩
      rw [← HX.out]
      congr 1
      omega
    · obtain rfl : k = 256 := by omega
      obtain ⟨y, hy⟩ : ∃ y, y = lastTo f 256 := ⟨_, rfl⟩
      have hy2 : y ≤ 256 := by rw [hy]; exact hle
      rw [← hy]
      have HY := Lib.hid hy
      clear hy hle
      go_wp2
      go_ret
      rw [← HY.out]
      exact ⟨rfl, HB.out⟩
end Go.Proofs.YtcbhjhhajeeimaaGreat.Cls
/- The contract of the bytes that stand in texts. -/
namespace Go.Proofs.YtcbhjhhajeeimaaGreat.Cls
open Go.RowKit Go.Maps Go.Proofs.YtcbhjhhajeeimaaGreat.Reg
set_option maxRecDepth 100000

/-- The set of the bytes of texts. -/
def setT (l : List Tx) : Nat := setOf l.flatten
theorem setOf_append (a b : Tx) : setOf (a ++ b) = setOf a ||| setOf b := by
  apply Nat.eq_of_testBit_eq
  intro i
  rw [Nat.testBit_or, setOf_bit, setOf_bit, setOf_bit, List.any_append]
theorem setT_nil : setT [] = 0 := rfl
theorem setT_snoc (l : List Tx) (t : Tx) : setT (l ++ [t]) = setT l ||| setOf t := by
  simp only [setT, List.flatten_append, List.flatten_cons, List.flatten_nil, List.append_nil]
  exact setOf_append _ _
theorem setT_lt (l : List Tx) : setT l < 2 ^ 256 := setOf_lt _
theorem setT_bit (l : List Tx) (c : UInt8) : (setT l).testBit c.toNat = stands l c := by
  rw [setT, setOf_bit, stands_flat, Bool.eq_iff_iff, List.any_eq_true, List.contains_iff_mem]
  constructor
  · rintro ⟨x, hx, e⟩
    have e2 : x.toNat = c.toNat := by simpa using e
    rw [← UInt8.toNat_inj.1 e2]; exact hx
  · intro h
    exact ⟨c, h, by simp⟩
def every : Nat := 2 ^ 256 - 1
theorem every_lt : every < 2 ^ 256 := by decide
theorem every_bit (k : Nat) : every.testBit k = decide (k < 256) := Nat.testBit_two_pow_sub_one 256 k
theorem or_every (N : Nat) (h : N < 2 ^ 256) : every ||| N = every := by
  apply Nat.eq_of_testBit_eq
  intro i
  rw [Nat.testBit_or, every_bit]
  by_cases hi : i < 256
  · simp [hi]
  · rw [Nat.testBit_lt_two_pow (Nat.lt_of_lt_of_le h (Nat.pow_le_pow_right (by decide) (by omega)))]
    simp
theorem setT_full (l : List Tx) (k : Nat) (h : setT (l.take k) = every) : setT l = every := by
  have e : setT l = setT (l.take k) ||| setT (l.drop k) := by
    unfold setT
    rw [← setOf_append, ← List.flatten_append, List.take_append_drop]
  rw [e, h, or_every _ (setT_lt _)]
theorem every_wd (i : Nat) (h : i < 4) : wd every i = 18446744073709551615 := by
  match i, h with
  | 0, _ => decide
  | 1, _ => decide
  | 2, _ => decide
  | 3, _ => decide
theorem list_up (l : List Tx) : listTo (setT l) 256 = upTo (stands l) 256 := by
  have key : ∀ k, k ≤ 256 → listTo (setT l) k = upTo (stands l) k := by
    intro k
    induction k with
    | zero => intro _; rfl
    | succ k ih =>
      intro hk
      have hb := setT_bit l (UInt8.ofNat k)
      rw [ofNat_u8 k (by omega)] at hb
      rw [upTo_succ]
      cases hq : stands l (UInt8.ofNat k) with
      | true => rw [listTo_yes _ _ (by rw [hb, hq]), ih (by omega)]; rfl
      | false => rw [listTo_no _ _ (by rw [hb, hq]), ih (by omega)]; rfl
  exact key 256 (Nat.le_refl _)
set_option maxHeartbeats 4000000 in
theorem standing_any (xs : List TxV) (a : Option Addr) (cap : Nat) (w : World) (hts : Ts w a xs) (hl : xs.length ≤ 6000000000000) (hm : ∀ x ∈ xs, x.text.length ≤ 1000000000000) :
    Calls Tryz.prog 67 #[.slice a xs.length cap] w fun e w' => e = .returned (setV (setT (xs.map TxV.text))) ∧ Below w.heap.size w w' := by
  have HT := Lib.hid hts
  have HM := Lib.hid hm
  clear hts hm
  go_enter Tryz.func67, Tryz.ntmps67
  go_wp2
  go_loopw [10] (fun i wr => ∃ k : Nat, k ≤ xs.length ∧ i = .int .i64 (k : Int) ∧ Blk4 wr w.heap.size 0 ∧ Blk4 wr (w.heap.size + 1) every ∧ Blk4 wr (w.heap.size + 1 + 1) (setT ((xs.map TxV.text).take k)) ∧ Below w.heap.size w wr)
    (fun i _ => xs.length - (intOf i).toNat)
  case atStart =>
    refine ⟨0, Nat.zero_le _, rfl, ?_, ?_, ?_, ?_⟩
    · unfold Blk4
      rw [heap_alloc_old _ _ (by simp; omega), heap_alloc2_old]
      rfl
    · unfold Blk4
      rw [heap_alloc_old _ _ (by simp), heap_alloc2_new, every_wd 0 (by decide), every_wd 1 (by decide), every_wd 2 (by decide), every_wd 3 (by decide)]
      rfl
    · rw [List.take_zero, setT_nil]
      have h := heap_alloc2_new (w.alloc (.cells #[.int .u64 0, .int .u64 0, .int .u64 0, .int .u64 0] 150)) (.cells #[.int .u64 18446744073709551615, .int .u64 18446744073709551615, .int .u64 18446744073709551615, .int .u64 18446744073709551615] 150) (.cells #[.int .u64 0, .int .u64 0, .int .u64 0, .int .u64 0] 150)
      rw [World.size_alloc] at h
      exact h
    · exact (((Below.refl _ _).alloc (Nat.le_refl _) _).alloc (by simp) _).alloc (by simp; omega) _
  case round =>
    obtain ⟨k, hk, rfl, hr, hev, hs, hbel⟩ := hrel
    obtain ⟨N, hN⟩ : ∃ N, N = setT ((xs.map TxV.text).take k) := ⟨_, rfl⟩
    rw [← hN] at hs
    have HN := Lib.hid hN
    have HR := Lib.hid hr
    have HE := Lib.hid hev
    have HS := Lib.hid hs
    have HBL := Lib.hid hbel
    obtain ⟨b0, b1, b2, b3⟩ := hs.cells
    clear hr hev hN
    by_cases hlt : k < xs.length
    · obtain ⟨⟨b, off, rfl, hbl, hc⟩, hbs⟩ : (∃ b off, a = some ⟨b, off, none⟩ ∧ b < w.heap.size ∧ ∀ i (h : i < xs.length), w.cell? ⟨b, off + i, none⟩ = some (.slice xs[i].a xs[i].text.length xs[i].cap)) ∧ Bs w w.heap.size xs[k].a xs[k].text :=
        ⟨HT.out.1 (by omega), HT.out.2 _ (List.getElem_mem hlt)⟩
      have hck : wr.cell? ⟨b, off + k, none⟩ = some (.slice xs[k].a xs[k].text.length xs[k].cap) := (hbel.cell (p := ⟨b, off + k, none⟩) hbl).trans (hc k hlt)
      have hkl : (k : Int) < (xs.length : Int) := by omega
      have HBS : Hid (Bs wr.drew wr.drew.heap.size xs[k].a xs[k].text) := Lib.hid ((hbs.keep hbel).more hbel.size)
      have HXM := Lib.hid (HM.out _ (List.getElem_mem hlt))
      have HSN : Hid (setT ((xs.map TxV.text).take (k + 1)) = N ||| setOf xs[k].text) := Lib.hid (by
        rw [HN.out, List.take_succ_eq_append_getElem (by simpa using hlt), setT_snoc]; simp)
      have HB0 := Lib.hid (below_drews HBL.out 1)
      change Hid (Below _ _ wr.drew) at HB0
      have HR0 : Hid (Blk4 wr.drew w.heap.size 0) := Lib.hid HR.out
      have HE0 : Hid (Blk4 wr.drew (w.heap.size + 1) every) := Lib.hid HE.out
      have HS0 : Hid (Blk4 wr.drew (w.heap.size + 1 + 1) N) := Lib.hid HS.out
      have HU : Hid (∀ x1, Calls Tryz.prog 88 #[.agg #[.int .u64 (wd N 0), .int .u64 (wd N 1), .int .u64 (wd N 2), .int .u64 (wd N 3)], setV (setOf xs[k].text)] x1 fun e w' => e = .returned (setV (N ||| setOf xs[k].text)) ∧ Below x1.heap.size x1 w') := Lib.hid (fun x1 => union_any N (setOf xs[k].text) x1)
      clear hc hbs hs hbel HR HE HS HBL
      go_wp2
      go_region_with (first
        | (go_at_call 89; (with_reducible refine (of_any xs[k].text xs[k].a xs[k].cap _ HXM.out HBS.out).mono ?_); rintro e x1 ⟨rfl, hb1⟩; have HS1 := Lib.hid (HS0.out.keep hb1 HS0.out.lt); have HB1 := Lib.hid hb1; clear hb1; obtain ⟨c0, c1, c2, c3⟩ := HS1.out.cells)
        | (go_at_call 88; (with_reducible refine (HU.out _).mono ?_); rintro e x2 ⟨rfl, hb2⟩; have HS2 := Lib.hid (HS1.out.keep hb2 HS1.out.lt); have HB2 := Lib.hid (HB1.out.trans (hb2.mono HB1.out.size)); clear hb2; rw [setV_eq (N ||| setOf xs[k].text)]; obtain ⟨f0, f1, f2, f3⟩ := HS2.out.free; obtain ⟨d0, d1, d2, d3⟩ := HS2.out.cells))
      all_goals
        have s0 := HB0.out.size
        have R1 := (HR0.out.keep HB2.out HR0.out.lt).far (g' := w.heap.size + 1 + 1) (by omega) (N ||| setOf xs[k].text)
        have R2 := (HE0.out.keep HB2.out HE0.out.lt).far (g' := w.heap.size + 1 + 1) (by omega) (N ||| setOf xs[k].text)
        have R3 := HS2.out.put (N ||| setOf xs[k].text)
        have R4 := below_put4 (g := w.heap.size + 1 + 1) (HB0.out.trans (HB2.out.mono s0)) (by omega) (N ||| setOf xs[k].text)
        change Exit.then _ _ _ _ (put4 x2 (w.heap.size + 1 + 1) (N ||| setOf xs[k].text))
        generalize put4 x2 (w.heap.size + 1 + 1) (N ||| setOf xs[k].text) = W at *
        have HML : Hid (N ||| setOf xs[k].text < 2 ^ 256) := Lib.hid (by rw [← HSN.out]; exact setT_lt _)
        clear HS1 HB1 HS2 HB2 f0 f1 f2 f3 d0 d1 d2 d3 HR0 HE0 HS0 HB0 HU x2
        generalize hMM : N ||| setOf xs[k].text = M at *
        clear hMM
        obtain ⟨e0, e1, e2, e3⟩ := R2.cells
        obtain ⟨m0, m1, m2, m3⟩ := R3.cells
        have hq := equal_sets HML.out every_lt W 9998
        rw [show 9998 + 2 = 10000 from rfl, setV_eq, setV_eq] at hq
        have H1 := Lib.hid R1
        have H2 := Lib.hid R2
        have H3 := Lib.hid R3
        have H4 := Lib.hid R4
        clear R1 R2 R3 R4
        by_cases hx : M = every
        · have hb : (M == every) = true := by simp [hx]
          have HX := Lib.hid hx
          obtain ⟨f0, f1, f2, f3⟩ := H1.out.free
          obtain ⟨d0, d1, d2, d3⟩ := H1.out.cells
          clear hx
          go_wp2
          refine bodyPost_ret (v := setV M) ?_ rfl ⟨?_, below_put4 H4.out (Nat.le_refl _) M⟩
          · obtain ⟨g0, g1, g2, g3⟩ := (H1.out.put M).cells
            unfold put4 at g0 g1 g2 g3
            simp [results, Tryz.results67, go_sem, setV, g0, g1, g2, g3]
          · rw [setT_full (xs.map TxV.text) (k + 1) (by rw [HSN.out, HX.out]), HX.out]
        · have hb : (M == every) = false := by simp [hx]
          clear hx
          go_wp2
          go_roundw
          case rel => exact ⟨k + 1, by omega, by go_num, H1.out, H2.out, by rw [HSN.out]; exact H3.out, H4.out⟩
          case measure => simp [intOf]; omega
    · obtain ⟨f0, f1, f2, f3⟩ := HR.out.free
      obtain ⟨d0, d1, d2, d3⟩ := HR.out.cells
      go_wp2
      refine bodyPost_ret (v := setV N) ?_ rfl ⟨?_, below_put4 HBL.out (Nat.le_refl _) N⟩
      · obtain ⟨g0, g1, g2, g3⟩ := (HR.out.put N).cells
        unfold put4 at g0 g1 g2 g3
        simp [results, Tryz.results67, go_sem, setV, g0, g1, g2, g3]
      · rw [HN.out, List.take_of_length_le (by simp; omega)]
end Go.Proofs.YtcbhjhhajeeimaaGreat.Cls
/- The contract of Of. -/
namespace Go.Proofs.YtcbhjhhajeeimaaGreat.Cls
open Go.RowKit Go.Maps Go.Proofs.YtcbhjhhajeeimaaGreat.Reg
set_option maxRecDepth 100000

theorem not_byte (l : List Int) (i : Nat) (c : Int) : (icells l)[i]? ≠ some (.int .u8 c) := by
  intro h
  by_cases hi : i < l.length
  · rw [icells_at l i hi] at h
    injection h with h
    injection h with h1 h2
    cases h1
  · rw [Array.getElem?_eq_none (by rw [icells_size]; omega)] at h
    cases h
theorem zero_pt (f : UInt8 → Bool) : icells (pt f 0) = cc (fun _ => false) := by
  rw [pt_zero, cc, tab_none]
theorem up_lt (f : UInt8 → Bool) : (upTo f 256).length ≤ 256 := upTo_len f 256
set_option maxHeartbeats 4000000 in
theorem of_any9 (xs : List TxV) (a : Option Addr) (cap : Nat) (w : World) (hts : Ts w a xs) (hl : xs.length ≤ 6000000000000) (hm : ∀ x ∈ xs, x.text.length ≤ 1000000000000) :
    Calls Tryz.prog 48 #[.slice a xs.length cap] w fun e w' => e = .returned (.agg (cc (stands (xs.map TxV.text)))) ∧ Below w.heap.size w w' := by
  obtain ⟨f, hf⟩ : ∃ f, f = stands (xs.map TxV.text) := ⟨_, rfl⟩
  have hz := zero29
  have HZF := Lib.hid (zero_pt f)
  have HZS := Lib.hid (cc_size (fun _ => false))
  generalize cc (fun _ => false) = z at *
  have B0 : Hid (Below w.heap.size w ((w.alloc (.cells z 108)).alloc (.cells z 108))) := Lib.hid (((Below.refl _ _).alloc (Nat.le_refl _) _).alloc (by simp) _)
  have HST := Lib.hid (standing_any xs a cap _ (hts.keep B0.out) hl hm)
  have HG1 := Lib.hid (heap_alloc2_old w (.cells z 108) (.cells z 108))
  have HG2 := Lib.hid (heap_alloc2_new w (.cells z 108) (.cells z 108))
  have hs0 : ((w.alloc (.cells z 108)).alloc (.cells z 108)).heap.size = w.heap.size + 1 + 1 := by simp
  have HLU := Lib.hid (list_up (xs.map TxV.text))
  rw [← hf] at HLU ⊢
  clear hts
  go_enter Tryz.func48, Tryz.ntmps48
  go_wp2_with (first
    | (go_at_call 67; (with_reducible refine HST.out.mono ?_); rintro e w1 ⟨rfl, hb1⟩)
    | (go_at_call 68; (with_reducible refine (list_any _ w1).mono ?_); rintro e w2 ⟨al, cl, rfl, hbs, hb2⟩))
  rw [HLU.out] at hbs ⊢
  have hul := up_lt f
  have hx1 : w2.heap[w.heap.size]? = some (.cells z 108 (0, 0)) := (hb2.block _ (by have := hb1.size; omega)).trans ((hb1.block _ (by omega)).trans HG1.out)
  have hx2 : w2.heap[w.heap.size + 1]? = some (.cells z 108 (0, 0)) := (hb2.block _ (by have := hb1.size; omega)).trans ((hb1.block _ (by omega)).trans HG2.out)
  have hx3 : Below w.heap.size w w2 := (B0.out.trans (hb1.mono (by omega))).trans (hb2.mono (by have := hb1.size; omega))
  rw [← HZF.out] at hx2
  have X1 := Lib.hid hx1
  have X2 := Lib.hid hx2
  have X3 := Lib.hid hx3
  have HBS := Lib.hid hbs
  have HCN : Hid (cnt f = (upTo f 256).length) := Lib.hid rfl
  have HTK := Lib.hid (pt_set f)
  clear hx1 hx2 hx3 hbs hb1 hb2 HST HG1 HG2 hs0 B0 hz hf
  generalize upTo f 256 = ls at *
  go_loopw [10] (fun i wr => ∃ k : Nat, k ≤ ls.length ∧ i = .int .i64 (k : Int) ∧ wr.heap[w.heap.size]? = some (.cells z 108 (0, 0)) ∧ wr.heap[w.heap.size + 1]? = some (.cells (icells (pt f k)) 108 (0, 0)) ∧ (∀ g, g ≠ w.heap.size + 1 → wr.heap[g]? = w2.heap[g]?) ∧ Below w.heap.size w wr)
    (fun i _ => ls.length - (intOf i).toNat)
  case atStart => exact ⟨0, Nat.zero_le _, rfl, X1.out, X2.out, fun _ _ => rfl, X3.out⟩
  case round =>
    obtain ⟨k, hk, rfl, y1, y2, y3, y4⟩ := hrel
    have Y1 := Lib.hid y1
    have Y2 := Lib.hid y2
    have Y3 := Lib.hid y3
    have Y4 := Lib.hid y4
    clear y1 y2 y3 y4
    by_cases hlt : k < ls.length
    · obtain ⟨b, off, rfl, hbl, hc⟩ := HBS.out (by omega)
      have hne : b ≠ w.heap.size + 1 := by
        rintro rfl
        have h := hc k hlt
        rw [cell_of_row w2 _ _ _ 108 (0, 0) X2.out] at h
        exact not_byte _ _ _ h
      have hcell : wr.cell? ⟨b, off + k, none⟩ = some (.int .u8 (ls[k].toNat : Int)) := (World.cell?_of_block (w := w2) (w' := wr) (a := ⟨b, off + k, none⟩) (Y3.out b hne)).trans (hc k hlt)
      have hkl : (k : Int) < (ls.length : Int) := by omega
      have hcl : (ls[k].toNat : Int) < 256 := by have := ls[k].toNat_lt; omega
      have hold : wr.cell? ⟨w.heap.size + 1, ls[k].toNat, none⟩ = some (.int .i64 ((pt f k)[ls[k].toNat]'(by rw [pt_length]; exact ls[k].toNat_lt))) := (cell_of_row wr _ _ _ 108 (0, 0) Y2.out).trans (icells_at _ _ _)
      have hfz : wr.frozen? ⟨w.heap.size + 1, ls[k].toNat, none⟩ = false := by simp [World.frozen?, Y2.out]
      have HS := Lib.hid (heap_set_same (i := ls[k].toNat) (u := .int .i64 ((k : Int) + 1)) Y2.out)
      have HP := Lib.hid (HTK.out k hlt)
      have HN := Lib.hid hne
      clear hc hne
      generalize ls[k] = x at *
      generalize (pt f k)[x.toNat]'_ = old at *
      go_wp2
      have hk0 : ∀ g, g ≠ w.heap.size + 1 → (wr.setCell ⟨w.heap.size + 1, x.toNat, none⟩ (.int .i64 ((k : Int) + 1))).heap[g]? = wr.heap[g]? := fun g hg => Below.heap_setCell wr _ _ g hg
      refine ⟨⟨k + 1, by omega, by go_num, (hk0 _ (by omega)).trans Y1.out, ?_, fun g hg => (hk0 g hg).trans (Y3.out g hg), Y4.out.setCell (p := ⟨w.heap.size + 1, x.toNat, none⟩) (Nat.le_succ _) _⟩, by simp [intOf]; omega⟩
      rw [HS.out, icells_set, HP.out]
    · obtain rfl : k = ls.length := by omega
      rw [← HCN.out, pt_all] at Y2
      change Hid (wr.heap[w.heap.size + 1]? = some (.cells (cc f) 108 (0, 0))) at Y2
      have HCS := Lib.hid (cc_size f)
      have HCO := Lib.hid (cc_one f)
      obtain ⟨cs, hcs⟩ : ∃ cs, cs = cc f := ⟨_, rfl⟩
      rw [← hcs] at Y2 HCS HCO
      have HCC := Lib.hid hcs
      clear hcs
      obtain ⟨fs, hd1⟩ := some29
      have HD1 := Lib.hid hd1
      clear hd1
      go_wp2_with (first
        | (with_reducible refine wpList_load_row rfl 108 (.tmp 3) rfl (w.heap.size + 1) rfl 108 cs (0, 0) _ Y2.out HD1.out rfl (by rw [HCS.out]; exact size29) ?_)
        | (with_reducible refine wpList_store_row rfl 108 (.tmp 2) (.tmp 21) rfl w.heap.size cs rfl rfl 108 z Y1.out (by rw [HCS.out]; exact size29) (by rw [HCS.out, HZS.out]) HCO.out ?_))
      refine bodyPost_ret (v := .agg cs) ?_ rfl ⟨by rw [HCC.out], below_setRow Y4.out (Nat.le_refl _) cs⟩
      exact results_cell_row (p := 2) (ty := 108) Tryz.results48 _ _ w.heap.size 108 cs (0, 0) _ rfl (setRow_heap wr _ z cs 108 (0, 0) Y1.out) HD1.out rfl (by rw [HCS.out]; exact size29)
end Go.Proofs.YtcbhjhhajeeimaaGreat.Cls
/- The contracts of the reference and of the statements' own 'stands'. -/
namespace Go.Proofs.YtcbhjhhajeeimaaGreat.Cls
open Go.RowKit Go.Maps Go.Proofs.YtcbhjhhajeeimaaGreat.Reg Go.Proofs.YtcbhjhhajeeimaaGreat.Tri
set_option maxRecDepth 100000

theorem flat_take (l : List Tx) (k : Nat) : (l.take k).flatten.length ≤ l.flatten.length := by
  have h : l.flatten = (l.take k).flatten ++ (l.drop k).flatten := by rw [← List.flatten_append, List.take_append_drop]
  rw [h, List.length_append]; omega
theorem flat_succ (l : List Tx) (k : Nat) (h : k < l.length) : (l.take (k + 1)).flatten = (l.take k).flatten ++ l[k] := by
  rw [List.take_succ_eq_append_getElem h, List.flatten_append, List.flatten_cons, List.flatten_nil, List.append_nil]
theorem testBit_flat (l : List Tx) (c : UInt8) : (setOf l.flatten).testBit c.toNat = stands l c := setT_bit l c
end Go.Proofs.YtcbhjhhajeeimaaGreat.Cls
/- The contract of 'awake': the document's example. -/
namespace Go.Proofs.YtcbhjhhajeeimaaGreat.Cls
open Go.RowKit Go.Maps Go.Proofs.YtcbhjhhajeeimaaGreat.Reg Go.Proofs.YtcbhjhhajeeimaaGreat.Tri
set_option maxRecDepth 100000

theorem idx27 {cs : Array Value} (k : Nat) (hk : k < 256) {v : Value} (h : cs[k]? = some v) (kd : IntKind) (w : World) : (Instr.index 106 (.agg cs) (.int kd (k : Int))).run Tryz.prog w = .ok v w := by
  simp [Instr.index, go_sem, hk, h]
abbrev exl : List Tx := [[97, 98], [98]]
theorem ex_cnt : cnt (stands exl) = 2 := by decide +kernel
theorem ex_a : cls (stands exl) 97 = 1 := by decide +kernel
theorem ex_b : cls (stands exl) 98 = 2 := by decide +kernel
theorem ex_c : cls (stands exl) 99 = 0 := by decide +kernel
theorem ex_two : upTo (fun c => decide ((cls (stands exl) c : Int) = 2)) 256 = [98] := by decide +kernel
theorem ex_nil : (upTo (fun c => decide ((cls (stands exl) c : Int) = 0)) 256).length = 254 := by decide +kernel
theorem const_at (w : World) (g : Nat) (hg : g = w.heap.size) (C : Array Value) (n c : Nat) :
    (convert 23 23 (.slice (some ⟨g, 0, none⟩) n c)).run Tryz.prog (w.alloc (.cells C 5)) = .ok (.slice (some ⟨g, 0, none⟩) n c) (w.alloc (.cells C 5 (C.size, C.size + 1))) := by
  subst hg
  exact Lib.run_convert_bytes_const w 23 5 C n c und22 und5
theorem bs_lit_at (w : World) (g : Nat) (l : List UInt8) (fr : Nat × Nat) (cs : Array Value) (hg : g = w.heap.size) (hcs : cs = (l.map fun c => Value.int .u8 (c.toNat : Int)).toArray) :
    Bs (w.alloc (.cells cs 5 fr)) (w.alloc (.cells cs 5 fr)).heap.size (some ⟨g, 0, none⟩) l := by
  subst hg; exact bs_lit w l fr cs hcs
theorem below_new (w : World) (x : Obj) : Below w.heap.size w (w.alloc x) := (Below.refl _ _).alloc (Nat.le_refl _) _
abbrev exw (w : World) : World := ((w.alloc (.cells #[.int .u8 97, .int .u8 98] 5 (2, 3))).alloc (.cells #[.int .u8 98] 5 (1, 2))).alloc (.cells #[.slice (some ⟨w.heap.size, 0, none⟩) 2 2, .slice (some ⟨w.heap.size + 1, 0, none⟩) 1 1] 23)
def exx (w : World) : List TxV := [⟨[97, 98], some ⟨w.heap.size, 0, none⟩, 2, fun e => by cases e⟩, ⟨[98], some ⟨w.heap.size + 1, 0, none⟩, 1, fun e => by cases e⟩]
theorem ex_ts (w : World) : Ts (exw w) (some ⟨w.heap.size + 1 + 1, 0, none⟩) (exx w) := by
  refine ⟨fun _ => ⟨_, _, rfl, by simp, fun i hi => ?_⟩, fun x hx => ?_⟩
  · have hh : (exw w).heap[w.heap.size + 1 + 1]? = some (.cells #[.slice (some ⟨w.heap.size, 0, none⟩) 2 2, .slice (some ⟨w.heap.size + 1, 0, none⟩) 1 1] 23 (0, 0)) := by
      have := heap_alloc_new ((w.alloc (.cells #[.int .u8 97, .int .u8 98] 5 (2, 3))).alloc (.cells #[.int .u8 98] 5 (1, 2))) (.cells #[.slice (some ⟨w.heap.size, 0, none⟩) 2 2, .slice (some ⟨w.heap.size + 1, 0, none⟩) 1 1] 23)
      simpa using this
    rw [cell_of_row _ _ _ _ 23 (0, 0) hh]
    have hi' : i < 2 := hi
    rcases i with _ | _ | i
    · rfl
    · rfl
    · omega
  · have b1 := below_new w (.cells #[.int .u8 97, .int .u8 98] 5 (2, 3))
    have b2 := below_new (w.alloc (.cells #[.int .u8 97, .int .u8 98] 5 (2, 3))) (.cells #[.int .u8 98] 5 (1, 2))
    have b3 := below_new ((w.alloc (.cells #[.int .u8 97, .int .u8 98] 5 (2, 3))).alloc (.cells #[.int .u8 98] 5 (1, 2))) (.cells #[.slice (some ⟨w.heap.size, 0, none⟩) 2 2, .slice (some ⟨w.heap.size + 1, 0, none⟩) 1 1] 23)
    have k1 := bs_lit_at w w.heap.size [97, 98] (2, 3) #[.int .u8 97, .int .u8 98] rfl rfl
    have k2 := bs_lit_at (w.alloc (.cells #[.int .u8 97, .int .u8 98] 5 (2, 3))) (w.heap.size + 1) [98] (1, 2) #[.int .u8 98] (by simp) rfl
    simp only [exx, List.mem_cons, List.not_mem_nil, or_false] at hx
    rcases hx with rfl | rfl
    · exact ((((k1.keep b2).more b2.size).keep b3).more b3.size)
    · exact ((k2.keep b3).more b3.size)
theorem ex_below (w : World) : Below w.heap.size w (exw w) := (((Below.refl _ _).alloc (Nat.le_refl _) _).alloc (by simp) _).alloc (by simp; omega) _
end Go.Proofs.YtcbhjhhajeeimaaGreat.Cls
/- Loads of whole rows in drawn regions. -/
namespace Go.Proofs.YtcbhjhhajeeimaaGreat.Cls
open Go.RowKit
set_option maxRecDepth 100000
theorem exec_load {P : Program} {o : Oper} {a : Act} {ty : TypeId} {x : Operand} {p : Addr} {v : Value} {w : World} (ho : o.op = .load ty x) (hx : a.eval x = .pointer (some p)) (h : (loadVar ty p).run P w = .ok v w) :
    (execOp a.eval o).run P w = .ok (.value v) w := by
  unfold execOp
  simp only [ho, hx, Instr.loadAt, Instr.sureAddr, Sem.run_bind, Sem.run_pure, Result.andThen_ok, h]
theorem load29 {X Y : World} {g : Nat} {cs : Array Value} (hs : cs.size = 256) (h : X.heap[g]? = some (.cells cs 108 (0, 0))) (hb : Below X.heap.size X Y) : (loadVar 108 ⟨g, 0, none⟩).run Tryz.prog Y = .ok (.agg cs) Y := by
  obtain ⟨fs, hd⟩ := Cls.some29
  exact run_loadVar_row Y g 108 108 cs (0, 0) _ ((hb.block _ (txt_lt h)).trans h) hd rfl (by rw [hs]; exact size29)
theorem load27 {X Y : World} {g : Nat} {cs : Array Value} (hs : cs.size = 256) (h : X.heap[g]? = some (.cells cs 106 (0, 0))) (hb : Below X.heap.size X Y) : (loadVar 106 ⟨g, 0, none⟩).run Tryz.prog Y = .ok (.agg cs) Y := by
  exact run_loadVar_row Y g 106 106 cs (0, 0) _ ((hb.block _ (txt_lt h)).trans h) und27 rfl (by rw [hs]; exact size27)
end Go.Proofs.YtcbhjhhajeeimaaGreat.Cls
/- Rows of 256 numbers held against each other. -/
namespace Go.Proofs.YtcbhjhhajeeimaaGreat.Cls
open Go.RowKit Go.Maps
set_option maxRecDepth 100000
theorem plain3 : Tryz.prog.plainKey 3 = true := by kernel_rfl
theorem cells3 : Tryz.prog.cellsOf 3 = 1 := by kernel_rfl
theorem some3 : (Tryz.prog.info? 3).isSome = true := by kernel_rfl
theorem info3 : ∃ i, Tryz.prog.info? 3 = some i := Option.isSome_iff_exists.1 some3
theorem eq_items (l : List Int) (hl : l.length = 256) (d : Nat) (w : World) : ∀ js : List Nat, (∀ j ∈ js, j < 256) → (Op.eqItems (d + 1) 3 1 (icells l) (icells l) js).run Tryz.prog w = .ok true w
  | [], _ => by simp [Op.eqItems]
  | j :: js, h => by
    have hj : j < l.length := by rw [hl]; exact h j (by simp)
    have q := run_equalIn_int (P := Tryz.prog) w d 3 .i64 .i64 l[j] l[j] Tryz.underlying3
    have p : (part 3 (icells l) j).run Tryz.prog w = .ok (.int .i64 l[j]) w := run_part_plain w plain3 (icells_at l j hj)
    have ih := eq_items l hl d w js (fun j hj => h j (by simp [hj]))
    simp only [Op.eqItems, Sem.run_bind, Nat.mul_one, p, q, Result.andThen_ok]
    simp [ih]
theorem equal_rows (l : List Int) (hl : l.length = 256) (d : Nat) (w : World) : (Op.equalIn (d + 2) 106 (.agg (icells l)) (.agg (icells l))).run Tryz.prog w = .ok true w := by
  obtain ⟨i, hi⟩ := Cls.info3
  rw [run_equalIn_array w (d + 1) _ _ und27 hi]
  rw [cells3]
  exact eq_items l hl d w _ (fun j hj => by simpa using hj)
theorem equal_cc (f : UInt8 → Bool) (w : World) : (Op.equalIn 10000 106 (.agg (cc f)) (.agg (cc f))).run Tryz.prog w = .ok true w := equal_rows (tab f) (tab_length f) 9998 w
end Go.Proofs.YtcbhjhhajeeimaaGreat.Cls
