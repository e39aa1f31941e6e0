/- The document's examples: the contract of awake. -/
import Derived.Test.YtkooanahgffjgaaMf
namespace Go.Proofs.Ytkooanahgffjgaa.Met
open Go.RowKit Go.Maps
set_option maxRecDepth 100000

theorem below_new (w : World) (x : Obj) : Below w.heap.size w (w.alloc x) := (Below.refl _ _).alloc (Nat.le_refl _) _
theorem new_mt (w : World) : Calls Try.prog 12 #[] w fun e w' => e = .returned (.pointer (some ⟨w.heap.size, 0, none⟩)) ∧ Mt w' (some ⟨w.heap.size, 0, none⟩) 0 0 0 0 ∧ Below w.heap.size w w' :=
  (new_any w).mono fun e w' ⟨he, hw⟩ => ⟨he, by rw [hw]; exact Or.inr ⟨_, rfl, Blk4.new _ _ _ _ _ _⟩, by rw [hw]; exact below_new _ _⟩
theorem Mt.cnt {w : World} {g : Nat} {s l h m : Int} (hM : Mt w (some ⟨g, 0, none⟩) s l h m) : Cnt w g s l h m := by
  rcases hM with hM | ⟨g', e, hM⟩
  · cases hM
  · cases e; exact hM
theorem counts_mt (w : World) (g : Nat) (s l h m : Int) (hM : Mt w (some ⟨g, 0, none⟩) s l h m) : Calls Try.prog 17 #[.pointer (some ⟨g, 0, none⟩)] w fun e w' => e = .returned (.agg #[.int .i64 s, .int .i64 l, .int .i64 h, .int .i64 m]) ∧ Below w.heap.size w w' :=
  counts_some w g s l h m hM.cnt
/-- What a meter's handles change lies where the meter lies. -/
theorem below_adds {B g : Nat} {w wi wj : World} (h : Below B w wi) (hg : wi.grownBy wj (blk (some ⟨g, 0, none⟩))) (hB : B ≤ g) (hs : B ≤ w.heap.size) : Below B w wj :=
  h.grown hg (Nat.le_trans hs h.size) (fun k hk => by cases hk; exact hB)
theorem bs_lit_at (w : World) (g : Nat) (l : List UInt8) (fr : Nat × Nat) (cs : Array Value) (hg : g = w.heap.size) (hcs : cs = (l.map fun c => Value.int .u8 (c.toNat : Int)).toArray) :
    Bs (w.alloc (.cells cs 5 fr)) (w.alloc (.cells cs 5 fr)).heap.size (some ⟨g, 0, none⟩) l := by
  subst hg; exact bs_lit w l fr cs hcs
theorem make_3 (w : World) : (Instr.makeSlice 23 (.int .i64 3) (.int .i64 3)).run Try.prog w = .ok (.slice (some ⟨w.heap.size, 0, none⟩) 3 3) (w.alloc (.cells #[.int .u8 0, .int .u8 0, .int .u8 0] 5)) := by
  obtain ⟨i0, hi, hz0, hz1, hz2⟩ := info_parts info5
  have := run_make (P := Try.prog) w 23 5 i0 _ und22 hi hz0 .i64 .i64 3 3 (by omega) (by omega) (by rw [hz2]; decide) (by omega)
  rw [hz1, show madeCells (Value.int .u8 0).cells ((3 : Int).toNat * 1) = #[.int .u8 0, .int .u8 0, .int .u8 0] by kernel_rfl] at this
  exact this
theorem make_5 (w : World) : (Instr.makeSlice 23 (.int .i64 5) (.int .i64 5)).run Try.prog w = .ok (.slice (some ⟨w.heap.size, 0, none⟩) 5 5) (w.alloc (.cells #[.int .u8 0, .int .u8 0, .int .u8 0, .int .u8 0, .int .u8 0] 5)) := by
  obtain ⟨i0, hi, hz0, hz1, hz2⟩ := info_parts info5
  have := run_make (P := Try.prog) w 23 5 i0 _ und22 hi hz0 .i64 .i64 5 5 (by omega) (by omega) (by rw [hz2]; decide) (by omega)
  rw [hz1, show madeCells (Value.int .u8 0).cells ((5 : Int).toNat * 1) = #[.int .u8 0, .int .u8 0, .int .u8 0, .int .u8 0, .int .u8 0] by kernel_rfl] at this
  exact this
/-- A text in a new block. -/
theorem txt_new (w : World) (l : List UInt8) (cs : Array Value) (hcs : cs = (l.map fun c => Value.int .u8 (c.toNat : Int)).toArray) : Txt (w.alloc (.cells cs 5)) w.heap.size (some ⟨w.heap.size, 0, none⟩) l := fun _ =>
  ⟨w.heap.size, cs, rfl, Nat.le_refl _, heap_alloc_new w _, fun i hi => by rw [hcs]; simp [hi]⟩
end Go.Proofs.Ytkooanahgffjgaa.Met
