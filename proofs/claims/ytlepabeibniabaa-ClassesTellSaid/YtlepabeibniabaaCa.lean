/- Arrays of 256 numbers by value; the contracts of Class and Table. -/
import Derived.Test.YtlepabeibniabaaCMath
import Derived.Test.YtlepabeibniabaaReg
import Derived.Deep.WholeRow
namespace Go.Proofs.Ytlepabeibniabaa.Cls
open Go.RowKit Go.Maps
set_option maxRecDepth 100000

/-- Numbers as cells. -/
def ivals (l : List Int) : List Value := l.map fun x => Value.int .i64 x
def icells (l : List Int) : Array Value := (ivals l).toArray
theorem icells_size (l : List Int) : (icells l).size = l.length := by simp [icells, ivals]
theorem icells_at (l : List Int) (i : Nat) (h : i < l.length) : (icells l)[i]? = some (.int .i64 l[i]) := by simp [icells, ivals, h]
theorem icells_one (l : List Int) : (icells l).all (·.oneCell') = true := by
  rw [Array.all_eq_true_iff_forall_mem]
  intro v hv
  simp only [icells, ivals, List.mem_toArray, List.mem_map] at hv
  obtain ⟨x, _, rfl⟩ := hv
  rfl
theorem icells_set (l : List Int) (i : Nat) (x : Int) : (icells l).setIfInBounds i (.int .i64 x) = icells (l.set i x) := by
  simp [icells, ivals]
theorem icells_inj {l m : List Int} (h : icells l = icells m) : l = m := by
  have h2 : ivals l = ivals m := by simpa [icells] using h
  unfold ivals at h2
  refine List.map_inj_right (fun a b e => ?_) |>.1 h2
  injection e

/-- The classes of all bytes, as far as class k alone. -/
def pt (f : UInt8 → Bool) (k : Nat) : List Int := (List.range 256).map fun c => if cls f (UInt8.ofNat c) ≤ k then (cls f (UInt8.ofNat c) : Int) else 0
/-- The classes of all bytes. -/
def tab (f : UInt8 → Bool) : List Int := (List.range 256).map fun c => (cls f (UInt8.ofNat c) : Int)
theorem pt_length (f : UInt8 → Bool) (k : Nat) : (pt f k).length = 256 := by simp [pt]
theorem tab_length (f : UInt8 → Bool) : (tab f).length = 256 := by simp [tab]
theorem tab_at (f : UInt8 → Bool) (c : Nat) (h : c < (tab f).length) : (tab f)[c] = (cls f (UInt8.ofNat c) : Int) := by simp [tab]
theorem pt_zero (f : UInt8 → Bool) : pt f 0 = List.replicate 256 0 := by
  apply List.ext_getElem
  · simp [pt]
  · intro i h1 h2
    simp only [pt, List.getElem_map, List.getElem_range, List.getElem_replicate]
    split
    · omega
    · rfl
theorem pt_all (f : UInt8 → Bool) : pt f (cnt f) = tab f := by
  apply List.ext_getElem
  · simp [pt, tab]
  · intro i h1 h2
    simp only [pt, tab, List.getElem_map, List.getElem_range]
    rw [if_pos (cls_le f _)]
theorem pt_set (f : UInt8 → Bool) (k : Nat) (h : k < (upTo f 256).length) : (pt f k).set ((upTo f 256)[k]).toNat ((k : Int) + 1) = pt f (k + 1) := by
  have hc := take_upTo f 256 (Nat.le_refl _) k h
  have hm : f ((upTo f 256)[k]) = true := (mem_all f _).1 (List.getElem_mem h)
  generalize (upTo f 256)[k] = b at hc hm
  apply List.ext_getElem
  · simp [pt]
  · intro i h1 h2
    have hi : i < 256 := by simpa [pt] using h2
    rw [List.getElem_set]
    simp only [pt, List.getElem_map, List.getElem_range]
    by_cases e : b.toNat = i
    · rw [if_pos e, ← e, ofNat_toNat, hc, if_pos (Nat.le_refl _)]; omega
    · rw [if_neg e]
      by_cases q : cls f (UInt8.ofNat i) = k + 1
      · exfalso
        have q1 : f (UInt8.ofNat i) = true := (cls_pos f _).1 (by omega)
        have q2 := cls_inj hm q1 (by rw [hc, q])
        apply e
        rw [q2, ofNat_u8 i hi]
      · by_cases q3 : cls f (UInt8.ofNat i) ≤ k
        · rw [if_pos q3, if_pos (by omega)]
        · rw [if_neg q3, if_neg (by omega)]
theorem tab_none : tab (fun _ => false) = List.replicate 256 0 := by
  rw [← pt_all, ← pt_zero (fun _ => false)]
  have e : cnt (fun _ => false) = 0 := by simp [cnt, upTo]
  rw [e]
theorem tab_inj {f g : UInt8 → Bool} (h : ∀ c, f c = g c) : tab f = tab g := by
  have e : f = g := funext h
  rw [e]
/-- The cells of the classes of all bytes. -/
def cc (f : UInt8 → Bool) : Array Value := icells (tab f)
theorem cc_size (f : UInt8 → Bool) : (cc f).size = 256 := by rw [cc, icells_size, tab_length]
theorem cc_at (f : UInt8 → Bool) (c : UInt8) : (cc f)[c.toNat]? = some (.int .i64 (cls f c : Int)) := by
  have h : c.toNat < (tab f).length := by rw [tab_length]; exact c.toNat_lt
  rw [cc, icells_at _ _ h, tab_at, ofNat_toNat]
theorem cc_one (f : UInt8 → Bool) : (cc f).all (·.oneCell') = true := icells_one _
theorem info29 : (Try.prog.info? 29).map (fun i => (i.zero, i.size)) = some (some (.agg (Array.replicate 256 (.int .i64 0))), 256) := by kernel_rfl
theorem info27 : (Try.prog.info? 27).map (fun i => (i.zero, i.size)) = some (some (.agg (Array.replicate 256 (.int .i64 0))), 256) := by kernel_rfl
theorem size29 : (Try.prog.info? 29).map (·.size) = some 256 := (zero_of_info info29).2
theorem size27 : (Try.prog.info? 27).map (·.size) = some 256 := (zero_of_info info27).2
theorem und27 : Try.prog.underlying 27 = some (.array 256 3) := by kernel_rfl
theorem some29 : ∃ fs, Try.prog.underlying 29 = some (.struct fs) := by
  have h : (Try.prog.underlying 29).map (fun d => match d with | .struct _ => true | _ => false) = some true := by kernel_rfl
  cases hq : Try.prog.underlying 29 with
  | none => rw [hq] at h; cases h
  | some d =>
    rw [hq] at h
    cases d with
    | struct fs => exact ⟨fs, rfl⟩
    | _ => simp at h
/-- A block with the classes of all bytes. -/
def Blkc (w : World) (g t : Nat) (f : UInt8 → Bool) : Prop := w.heap[g]? = some (.cells (cc f) t (0, 0))
theorem Blkc.keep {w w' : World} {g t : Nat} {f : UInt8 → Bool} (h : Blkc w g t f) (hb : Below w.heap.size w w') : Blkc w' g t f := by
  have hl : g < w.heap.size := by
    rcases Nat.lt_or_ge g w.heap.size with h1 | h1
    · exact h1
    · unfold Blkc at h; rw [Array.getElem?_eq_none h1] at h; cases h
  exact (hb.block g hl).trans h
theorem Blkc.cell {w : World} {g t : Nat} {f : UInt8 → Bool} (h : Blkc w g t f) (c : UInt8) : w.cell? ⟨g, c.toNat, none⟩ = some (.int .i64 (cls f c : Int)) :=
  (cell_of_row w g _ _ t (0, 0) h).trans (cc_at f c)

set_option maxHeartbeats 1000000 in
theorem class_any (f : UInt8 → Bool) (c : UInt8) (w : World) :
    Calls Try.prog 11 #[.agg (cc f), .int .u8 (c.toNat : Int)] w fun e w' => e = .returned (.int .i64 (cls f c : Int)) ∧ Below w.heap.size w w' := by
  have hb : Below w.heap.size w (w.alloc (.cells (cc f) 29)) := (Below.refl _ _).alloc (Nat.le_refl _) _
  have hc : (w.alloc (.cells (cc f) 29)).cell? ⟨w.heap.size, c.toNat, none⟩ = some (.int .i64 (cls f c : Int)) := Blkc.cell (heap_alloc_new w _) c
  have hlt := c.toNat_lt
  have hlt2 : (c.toNat : Int) < 256 := by omega
  have HB := Lib.hid hb
  clear hb
  generalize cc f = cs at *
  generalize (cls f c : Int) = k at *
  go_enter Try.func11, Try.ntmps11
  go_wp2
  go_ret
  exact ⟨rfl, HB.out⟩
end Go.Proofs.Ytlepabeibniabaa.Cls
