/- The document's examples: the contract of awake. -/
import Derived.Test.YteadlgmajakomaaMf
namespace Go.Proofs.Yteadlgmajakomaa
open Go.RowKit Go.Maps

theorem below_new (w : World) (x : Obj) : Below w.heap.size w (w.alloc x) := (Below.refl _ _).alloc (Nat.le_refl _) _
theorem new_mt (w : World) : Calls Try.prog 9 #[] w fun e w' => e = .returned (.pointer (some ⟨w.heap.size, 0, none⟩)) ∧ Mt w' (some ⟨w.heap.size, 0, none⟩) 0 0 0 0 ∧ Below w.heap.size w w' :=
  (new_any w).mono fun e w' ⟨he, hw⟩ => ⟨he, by rw [hw]; exact Or.inr ⟨_, rfl, Blk4.new _ _ _ _ _ _⟩, by rw [hw]; exact below_new _ _⟩
theorem Mt.cnt {w : World} {g : Nat} {s l h m : Int} (hM : Mt w (some ⟨g, 0, none⟩) s l h m) : Cnt w g s l h m := by
  rcases hM with hM | ⟨g', e, hM⟩
  · cases hM
  · cases e; exact hM
theorem counts_mt (w : World) (g : Nat) (s l h m : Int) (hM : Mt w (some ⟨g, 0, none⟩) s l h m) : Calls Try.prog 12 #[.pointer (some ⟨g, 0, none⟩)] w fun e w' => e = .returned (.agg #[.int .i64 s, .int .i64 l, .int .i64 h, .int .i64 m]) ∧ Below w.heap.size w w' :=
  counts_some w g s l h m hM.cnt
/-- What a meter's handles change lies where the meter lies. -/
theorem below_adds {B g : Nat} {w wi wj : World} (h : Below B w wi) (hg : wi.grownBy wj (blk (some ⟨g, 0, none⟩))) (hB : B ≤ g) (hs : B ≤ w.heap.size) : Below B w wj :=
  h.grown hg (Nat.le_trans hs h.size) (fun k hk => by cases hk; exact hB)
theorem bs_lit_at (w : World) (g : Nat) (l : List UInt8) (fr : Nat × Nat) (cs : Array Value) (hg : g = w.heap.size) (hcs : cs = (l.map fun c => Value.int .u8 (c.toNat : Int)).toArray) :
    Bs (w.alloc (.cells cs 5 fr)) (w.alloc (.cells cs 5 fr)).heap.size (some ⟨g, 0, none⟩) l := by
  subst hg; exact bs_lit w l fr cs hcs
theorem make_3 (w : World) : (Instr.makeSlice 22 (.int .i64 3) (.int .i64 3)).run Try.prog w = .ok (.slice (some ⟨w.heap.size, 0, none⟩) 3 3) (w.alloc (.cells #[.int .u8 0, .int .u8 0, .int .u8 0] 5)) := by
  obtain ⟨i0, hi, hz0, hz1, hz2⟩ := info_parts info5
  have := run_make (P := Try.prog) w 22 5 i0 _ und22 hi hz0 .i64 .i64 3 3 (by omega) (by omega) (by rw [hz2]; decide) (by omega)
  rw [hz1, show madeCells (Value.int .u8 0).cells ((3 : Int).toNat * 1) = #[.int .u8 0, .int .u8 0, .int .u8 0] by kernel_rfl] at this
  exact this
theorem make_5 (w : World) : (Instr.makeSlice 22 (.int .i64 5) (.int .i64 5)).run Try.prog w = .ok (.slice (some ⟨w.heap.size, 0, none⟩) 5 5) (w.alloc (.cells #[.int .u8 0, .int .u8 0, .int .u8 0, .int .u8 0, .int .u8 0] 5)) := by
  obtain ⟨i0, hi, hz0, hz1, hz2⟩ := info_parts info5
  have := run_make (P := Try.prog) w 22 5 i0 _ und22 hi hz0 .i64 .i64 5 5 (by omega) (by omega) (by rw [hz2]; decide) (by omega)
  rw [hz1, show madeCells (Value.int .u8 0).cells ((5 : Int).toNat * 1) = #[.int .u8 0, .int .u8 0, .int .u8 0, .int .u8 0, .int .u8 0] by kernel_rfl] at this
  exact this
/-- A text in a new block. -/
theorem txt_new (w : World) (l : List UInt8) (cs : Array Value) (hcs : cs = (l.map fun c => Value.int .u8 (c.toNat : Int)).toArray) : Txt (w.alloc (.cells cs 5)) w.heap.size (some ⟨w.heap.size, 0, none⟩) l := fun _ =>
  ⟨w.heap.size, cs, rfl, Nat.le_refl _, heap_alloc_new w _, fun i hi => by rw [hcs]; simp [hi]⟩
set_option maxRecDepth 100000 in
set_option maxHeartbeats 4000000 in
theorem awake_any (w : World) : Calls Try.prog 8 #[] w fun e w' => e = .returned (.bool true) ∧ Below w.heap.size w w' := by
  go_enter Try.func8, Try.ntmps8
  go_wp2_with fail
  refine (new_mt w).mono ?_
  rintro e w1 ⟨rfl, hM1, hb1⟩
  generalize hB : w.heap.size = B at *
  have HB := Lib.hid hB
  have hsz1 : w.heap.size ≤ w1.heap.size := hb1.size
  clear hB
  go_wp2_with fail
  refine (text_any (w1.alloc (.cells #[.int .u8 7, .int .u8 8] 5)) (some ⟨B, 0, none⟩) [7, 8] (some ⟨w1.heap.size, 0, none⟩) 2 (by simp) (bs_lit w1 [7, 8] (0, 0) _ rfl)).mono ?_
  rintro e w2 ⟨t, rfl, ht2, hb2⟩
  have hM2 := (hM1.keep (below_new w1 (.cells #[.int .u8 7, .int .u8 8] 5))).keep hb2
  have hbb2 : Below B w w2 := (hb1.alloc (by have := HB.out; omega) _).trans (hb2.mono (by have := HB.out; simp; omega))
  clear hM1 hb1 hb2 hsz1
  have HT2 := Lib.hid ht2
  clear ht2
  generalize (w1.alloc (Obj.cells #[Value.int IntKind.u8 7, Value.int IntKind.u8 8] 5)).heap.size = s1 at *
  go_wp2_with fail
  refine (at_in w2 _ t _ [7, 8] HT2.out 1 (by simp) (by simp) 0 0 0 0 hM2 (by omega) (by omega) (by omega) (by omega)).mono ?_
  rintro e w3 ⟨rfl, hM3, hg3⟩
  have HT3 := Lib.hid (HT2.out.adds hg3 hM2)
  have hbb3 := below_adds hbb2 hg3 (Nat.le_refl _) (by rw [HB.out]; exact Nat.le_refl _)
  clear hM2 hg3 hbb2 HT2
  go_wp2_with fail
  refine (at_out w3 _ t _ [7, 8] HT3.out 5 (by simp)).mono ?_
  rintro e w' ⟨rfl, rfl⟩
  have hs3 := hbb3.size
  go_wp2_with fail
  refine (sparse_any (w3.alloc (.cells #[.int .i64 0, .int .u8 97, .int .i64 1, .int .i64 0, .int .u8 97, .int .i64 2] 41)) (some ⟨B, 0, none⟩) [⟨0, 97, 1⟩, ⟨0, 97, 2⟩] (some ⟨w3.heap.size, 0, none⟩) 2 (by simp) ?_ ?_).mono ?_
  · intro _
    refine ⟨w3.heap.size, 0, rfl, by simp, fun i hi => ?_⟩
    rw [cell_of_row _ w3.heap.size _ _ 41 (0, 0) (heap_alloc_new w3 _), cell_of_row _ w3.heap.size _ _ 41 (0, 0) (heap_alloc_new w3 _), cell_of_row _ w3.heap.size _ _ 41 (0, 0) (heap_alloc_new w3 _)]
    match i, hi with
    | 0, _ => exact ⟨rfl, rfl, rfl⟩
    | 1, _ => exact ⟨rfl, rfl, rfl⟩
  · intro r hr
    simp only [List.mem_cons, List.not_mem_nil, or_false] at hr
    rcases hr with rfl | rfl <;> exact ⟨by decide, by decide⟩
  rintro e w4 ⟨t2, rfl, hT4, hb4⟩
  have hb4' := (below_new w3 (.cells #[.int .i64 0, .int .u8 97, .int .i64 1, .int .i64 0, .int .u8 97, .int .i64 2] 41)).trans (hb4.mono (by simp))
  have hM4 := hM3.keep hb4'
  have HT4 := Lib.hid (HT3.out.keep hb4')
  have HU4 := Lib.hid hT4
  have hbb4 : Below B w w4 := hbb3.trans (hb4'.mono (by have := HB.out; omega))
  clear hM3 hb4 hb4' HT3 hT4 hbb3 hs3
  go_wp2_with fail
  refine (look_some w4 _ t2 _ _ HU4.out 0 97 (by decide) _ _ _ _ hM4 (by omega) (by omega) (by omega) (by omega)).mono ?_
  rintro e w5 ⟨rfl, hM5, hg5⟩
  have HT5 := Lib.hid (HT4.out.adds hg5 hM4)
  have HU5 := Lib.hid (HU4.out.adds hg5 hM4)
  have hbb5 := below_adds hbb4 hg5 (Nat.le_refl _) (by rw [HB.out]; exact Nat.le_refl _)
  clear hM4 hg5 hbb4 HT4 HU4
  go_wp2_with fail
  refine (look_some w5 _ t2 _ _ HU5.out 0 98 (by decide) _ _ _ _ hM5 (by omega) (by omega) (by omega) (by omega)).mono ?_
  rintro e w6 ⟨rfl, hM6, hg6⟩
  have HT6 := Lib.hid (HT5.out.adds hg6 hM5)
  have hbb6 := below_adds hbb5 hg6 (Nat.le_refl _) (by rw [HB.out]; exact Nat.le_refl _)
  clear hM5 hg6 hbb5 HT5 HU5
  have e1 : spar [⟨0, 97, 1⟩, ⟨0, 97, 2⟩] 0 97 = 2 := by decide
  have e2 : spar [⟨0, 97, 1⟩, ⟨0, 97, 2⟩] 0 98 = -1 := by decide
  rw [e1, e2]
  clear e1 e2
  have hM6' := hM6.keep (below_new w6 (.cells #[.int .u8 9] 5))
  have HT6' := Lib.hid (HT6.out.keep (below_new w6 (.cells #[.int .u8 9] 5)))
  have hs6 := hbb6.size
  have hbb6' := hbb6.alloc (by have := HB.out; omega) (.cells #[.int .u8 9] 5)
  clear hM6 HT6 hbb6
  go_wp2_with fail
  refine (read_in (w6.alloc (.cells #[.int .u8 9] 5)) _ [9] (some ⟨w6.heap.size, 0, none⟩) 1 (bs_lit w6 [9] (0, 0) _ rfl) 0 (by simp) (by simp) _ _ _ _ hM6' (by omega) (by omega) (by omega) (by omega)).mono ?_
  rintro e w7 ⟨rfl, hM7, hg7⟩
  have HT7 := Lib.hid (HT6'.out.adds hg7 hM6')
  have hbb7 := below_adds hbb6' hg7 (Nat.le_refl _) (by rw [HB.out]; exact Nat.le_refl _)
  clear hM6' hg7 hbb6' HT6' hs6
  have mk := make_3
  have hs7 := hbb7.size
  have n1 := below_new w7 (.cells #[.int .u8 0, .int .u8 0, .int .u8 0] 5)
  have n2 := below_new (w7.alloc (.cells #[.int .u8 0, .int .u8 0, .int .u8 0] 5)) (.cells #[.int .u8 1, .int .u8 2] 5)
  have hM7' := (hM7.keep n1).keep n2
  have HC7 := Lib.hid ((txt_new w7 [0, 0, 0] _ rfl).keep n2)
  have hbs := bs_lit_at (w7.alloc (.cells #[.int .u8 0, .int .u8 0, .int .u8 0] 5)) (w7.heap.size + 1) [1, 2] (0, 0) _ (by simp) rfl
  clear n1 n2
  go_wp2_with fail
  clear mk
  refine (copy_any _ _ (some ⟨w7.heap.size, 0, none⟩) [0, 0, 0] 3 w7.heap.size HC7.out (some ⟨w7.heap.size + 1, 0, none⟩) [1, 2] 2 _ hbs (by simp) _ _ _ _ hM7' (by omega) (by omega) (by omega) (by omega)).mono ?_
  rintro e w8 ⟨rfl, hT8, hM8, w8', r, hr, hg8, hg8'⟩
  have hb8 : Below w7.heap.size w7 w8' := (((Below.refl _ _).alloc (Nat.le_refl _) _).alloc (by simp) _).grown hg8 (by simp; omega) (fun k hk => (hr k hk).1)
  have hM8' := hM7.keep hb8
  have HT8 := Lib.hid ((HT7.out.keep hb8).adds hg8' hM8')
  have hbb8 := below_adds (hbb7.trans (hb8.mono (by have := HB.out; omega))) hg8' (Nat.le_refl _) (by rw [HB.out]; exact Nat.le_refl _)
  have hM : Mt w8 (some ⟨B, 0, none⟩) 1 2 1 2 := hM8
  clear hT8 hM8 hr hg8 hg8' hb8 hM8' hM7 HT7 hbb7 hM7' HC7 hbs hs7
  have C := Lib.hid (counts_mt w8 B 1 2 1 2 hM)
  have L := Lib.hid (len_some w8 _ t _ _ HT8.out)
  clear hM HT8
  go_wp2_with (first | (go_at_call 13; (with_reducible refine L.out.mono ?_); rintro e w' ⟨rfl, rfl⟩) | (go_at_call 12; (with_reducible refine C.out.mono ?_); rintro e w9 ⟨rfl, hb9⟩))
  go_ret
  have h1 := HB.out
  have h2 := hbb8.size
  exact ⟨rfl, by rw [h1]; exact hbb8.trans (hb9.mono (by omega))⟩
end Go.Proofs.Yteadlgmajakomaa
