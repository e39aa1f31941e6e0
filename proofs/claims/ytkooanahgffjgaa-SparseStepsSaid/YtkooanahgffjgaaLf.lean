/- The contract of Build. -/
import Derived.Test.YtkooanahgffjgaaLe
namespace Go.Proofs.Ytkooanahgffjgaa.Lnk
open Go.RowKit Go.Maps Go.Proofs.Ytkooanahgffjgaa.Tri Go.Proofs.Ytkooanahgffjgaa.Reg
set_option maxRecDepth 100000

theorem made_links (n : Nat) : (madeCells (Value.agg #[.int .i64 0, .int .i64 0, .int .i64 0]).cells (n * 3)).toList = lvals (List.replicate n ⟨0, 0, 0⟩) := by
  have e : lvals (List.replicate n ⟨0, 0, 0⟩) = List.replicate (n * 3) (.int .i64 0) := by
    induction n with
    | zero => rfl
    | succ n ih =>
      unfold lvals at ih ⊢
      rw [List.replicate_succ, List.flatMap_cons, ih, show (n + 1) * 3 = n * 3 + 1 + 1 + 1 by omega, List.replicate_succ, List.replicate_succ, List.replicate_succ]
      rfl
  rw [e]
  show (madeCells #[.int .i64 0, .int .i64 0, .int .i64 0] (n * 3)).toList = _
  apply List.ext_getElem?
  intro j
  by_cases hj : j < n * 3
  · simp only [madeCells, Array.toList_map, Array.toList_range]
    rw [List.getElem?_map, List.getElem?_range hj, List.getElem?_replicate, if_pos hj]
    show some (#[Value.int .i64 0, .int .i64 0, .int .i64 0][j % 3]!) = _
    rcases (show j % 3 = 0 ∨ j % 3 = 1 ∨ j % 3 = 2 by omega) with h | h | h <;> rw [h] <;> rfl
  · simp [madeCells, hj]
/-- The root's link. -/
theorem root_store {w : World} {s g cap : Nat} {ps : List Tx} (l : List Tx) (hw : Wf ps) (ho : w.ownsRow s 86 3 (.slice (some ⟨g, 0, none⟩) ps.length cap) ps.length (lvals (List.replicate ps.length ⟨0, 0, 0⟩))) :
    (putL w g 0 ⟨-1, -1, 0⟩).ownsRow s 86 3 (.slice (some ⟨g, 0, none⟩) ps.length cap) ps.length (lvals (lks ps l [[]])) := by
  rw [lks_root hw l, ← lvals_set _ 0 _ (by simpa using hw.pos)]
  exact (((ho.stored (0 * 3) (.int .i64 (-1))).1.stored (0 * 3 + 1) (.int .i64 (-1))).1.stored (0 * 3 + 2) (.int .i64 ((0 : Nat) : Int))).1
/-- A call that hands out links, and leaves what was there as it was. -/
def GivesLi (w : World) (ps l : List Tx) (e : Ending) (w' : World) : Prop := ∃ x, e = .returned (.pointer (some ⟨x, 0, none⟩)) ∧ Li w' w.heap.size x ps l ∧ Below w.heap.size w w'
set_option maxHeartbeats 2000000 in
theorem lbuild_any (w : World) (st tt : Nat) (ps l : List Tx) (htr : Tr w st tt ps l) (hn : ps.length ≤ 1000000) : Calls Try.prog 27 #[.pointer (some ⟨tt, 0, none⟩)] w (GivesLi w ps l) := by
  have HN : Hid (∀ X, Below w.heap.size w X → Calls Try.prog 36 #[.pointer (some ⟨tt, 0, none⟩)] X fun e w' => e = .returned (.int .i64 (ps.length : Int)) ∧ X = w') := Lib.hid fun X hX => nodes_any X st tt ps l (htr.keep hX)
  have HW := Lib.hid htr.2.1
  have HLS := Lib.hid htr.2.2.1
  have HT := Lib.hid htr
  have hpos := htr.2.1.pos
  have hz : ((ps.length : Int) == 0) = false := beq_eq_false_iff_ne.2 (by omega)
  obtain ⟨i0, hi, hz0, hz1, hz2⟩ := info_parts info51
  clear htr
  have hb1 := (Below.refl w.heap.size w).alloc (Nat.le_refl _) (.cells #[.slice none 0 0, .slice none 0 0] 84)
  have hk1 := Blk2.new w 84 (.slice none 0 0) (.slice none 0 0)
  obtain ⟨c0, c1⟩ := hk1.cells
  obtain ⟨f0, f1⟩ := hk1.free
  have HB1 := Lib.hid hb1
  have HK1 := Lib.hid hk1
  have hx1 := hk1.lt
  clear hb1 hk1
  go_enter Try.func27, Try.ntmps27
  go_wp2_with (first
    | (go_at_call 36; (with_reducible refine (HN.out _ HB1.out).mono ?_); rintro e w0 ⟨rfl, rfl⟩)
    | (at_make; refine wpList_make_full _ rfl _ _ 82 rfl w.heap.size 86 i0 (.agg #[.int .i64 0, .int .i64 0, .int .i64 0]) 3 und47 hi hz0 hz1 .i64 .i64 _ _ ps.length rfl rfl (by simp) (by simp) (by rw [hz2]; omega) (by unfold maxLen; omega) (by simp) ?_; intro w2 hown hg2; have hk2 := HK1.out.grown hg2 (fun e => by cases e); obtain ⟨c20, c21⟩ := hk2.cells; obtain ⟨f20, f21⟩ := hk2.free; have hx2 := hk2.lt; have HK2 := Lib.hid hk2; have HO2 := Lib.hid hown; have HG2 := Lib.hid hg2; clear hk2 hown hg2))
  have hne : w.heap.size ≠ w.heap.size + 1 := by omega
  have hk3 := HK2.out.put0 (.slice (some ⟨w.heap.size + 1, 0, none⟩) ps.length ps.length)
  have ho3 := HO2.out
  rw [World.size_alloc, made_links] at ho3
  have ho3 := own_far_block (w' := w2.setCell ⟨w.heap.size, 0, none⟩ (.slice (some ⟨w.heap.size + 1, 0, none⟩) ps.length ps.length)) ho3 (fun k hk => Below.heap_setCell w2 ⟨w.heap.size, 0, none⟩ (.slice (some ⟨w.heap.size + 1, 0, none⟩) ps.length ps.length) k (fun e => by have h1 : w.heap.size + 1 = k := (by simpa [Value.ownBlock] using hk); have h2 : k = w.heap.size := e; omega))
  have hb3 : Below w.heap.size w (w2.setCell ⟨w.heap.size, 0, none⟩ (.slice (some ⟨w.heap.size + 1, 0, none⟩) ps.length ps.length)) := (HB1.out.grown HG2.out (by simp) (fun k hk => by cases hk)).setCell (p := ⟨w.heap.size, 0, none⟩) (Nat.le_refl _) _
  clear c0 c1 f0 f1 c20 c21 f20 f21 hx1 hx2 HK1 HK2 HO2 HG2 HB1
  generalize w2.setCell ⟨w.heap.size, 0, none⟩ (.slice (some ⟨w.heap.size + 1, 0, none⟩) ps.length ps.length) = w3 at *
  have bd : Below w3.heap.size w3 w3.drew := below_drews (Below.refl w3.heap.size w3) 1
  have hk3 := hk3.same (bd.block _ hk3.lt)
  have ho3 := own_keep ho3 bd
  have hb3 : Below w.heap.size w w3.drew := below_drews hb3 1
  obtain ⟨c0, c1⟩ := hk3.cells
  clear bd
  refine wp_region_held_drew (S := fun w' => w'.cell? ⟨w.heap.size, 0, none⟩ = some (.slice (some ⟨w.heap.size + 1, 0, none⟩) ps.length ps.length)) (by kernel_rfl) c0 (fun hH0 => ?_)
  generalize w3.drew = w4 at *
  refine held_take (i := 0) (d := 16) (oi := _) (v := ?_) rfl rfl (by kernel_rfl) (by kernel_rfl) (by kernel_rfl) (fun _ _ _ h => h) (Or.inl ⟨by rfl, ?_⟩) (by assumption) ?_
  rotate_left
  · (intro w hSw; go_simp; (try with_reducible rfl))
  simp only [Act.put, List.setIfInBounds_toArray, List.set_cons_zero, List.set_cons_succ]
  refine held_take (i := 1) (d := 17) (oi := _) (v := ?_) rfl rfl (by kernel_rfl) (by kernel_rfl) (by kernel_rfl) (fun _ _ _ h => h) (Or.inl ⟨by rfl, ?_⟩) (by assumption) ?_
  rotate_left
  · (intro w hSw; go_simp; (try with_reducible rfl))
  simp only [Act.put, List.setIfInBounds_toArray, List.set_cons_zero, List.set_cons_succ]
  refine held_take (i := 2) (d := 18) (oi := _) (v := ?_) rfl rfl (by kernel_rfl) (by kernel_rfl) (by kernel_rfl) (fun _ _ _ h => h) (Or.inl ⟨by rfl, ?_⟩) (by assumption) ?_
  rotate_left
  · (intro w hSw; go_simp; (try with_reducible rfl))
  simp only [Act.put, List.setIfInBounds_toArray, List.set_cons_zero, List.set_cons_succ]
  refine held_take (i := 3) (d := 19) (oi := _) (v := ?_) rfl rfl (by kernel_rfl) (by kernel_rfl) (by kernel_rfl) (fun _ _ _ h => h) (Or.inl ⟨by rfl, ?_⟩) (by assumption) ?_
  rotate_left
  · (intro w hSw; go_simp; (try with_reducible rfl))
  simp only [Act.put, List.setIfInBounds_toArray, List.set_cons_zero, List.set_cons_succ]
  refine wpAnyH_ready (rs := [4]) (by kernel_rfl) (by simp) ?_
  refine AllReadyH.cons rfl (fun K hK => ?_) AllReadyH.nil
  go_simp
  go_wp2_with (go_at_call 40; (with_reducible refine (lnone_any _).mono ?_); rintro e x1 ⟨rfl, rfl⟩)
  have hHa : (w4.alloc (.cells #[.int .i64 (-1), .int .i64 (-1), .int .i64 0] 86)).cell? ⟨w.heap.size, 0, none⟩ = some (.slice (some ⟨w.heap.size + 1, 0, none⟩) ps.length ps.length) := Lib.cell?_alloc_some _ c0
  refine hK.out _ _ hHa (fun _ => ?_)
  clear hK K
  have hk4 := hk3.alloc (.cells #[.int .i64 (-1), .int .i64 (-1), .int .i64 0] 86)
  have ho4 := ho3.alloc (.cells #[.int .i64 (-1), .int .i64 (-1), .int .i64 0] 86)
  have hb4 := hb3.alloc (by have := hk3.lt; omega) (.cells #[.int .i64 (-1), .int .i64 (-1), .int .i64 0] 86)
  clear hk3 ho3 hb3 c0 c1 hH0
  generalize w4.alloc (.cells #[.int .i64 (-1), .int .i64 (-1), .int .i64 0] 86) = w5 at *
  obtain ⟨d0, d1, d2⟩ := own_row3 ho4 (by simp) (i := 0) (by simpa using hpos)
  have e0 := ho4.frozenAt 0
  have e1 := ho4.frozenAt 1
  have e2 := ho4.frozenAt 2
  rw [Nat.zero_mul] at d0
  rw [Nat.zero_mul, Nat.zero_add] at d1 d2
  have hgz : w.heap.size + 1 < w5.heap.size := (own_block_lt ho4 rfl).2.1
  have hpi : (0 : Int) < (ps.length : Int) := by omega
  refine held_take (i := 5) (d := 21) (oi := _) (v := ?_) rfl rfl (by kernel_rfl) (by kernel_rfl) (by kernel_rfl) (fun _ _ _ h => h) (Or.inl ⟨by rfl, ?_⟩) (by assumption) ?_
  rotate_left
  · (intro w hSw; go_simp; (try with_reducible rfl))
  simp only [Act.put, List.setIfInBounds_toArray, List.set_cons_zero, List.set_cons_succ]
  refine wpAnyH_ready (rs := [6]) (by kernel_rfl) (by simp) ?_
  refine AllReadyH.cons rfl (fun K hK => ?_) AllReadyH.nil
  go_simp
  have hk6 := hk4.same (putL_other (w := w5) (g := w.heap.size + 1) (m := 0) (r := ⟨-1, -1, 0⟩) hne)
  have hH6 := hk6.cells.1
  refine hK.out _ _ hH6 (fun _ => ?_)
  clear hK K
  refine wpAnyH_done (by kernel_rfl) ?_ _
  change Exit.then _ _ _ _ (putL w5 (w.heap.size + 1) 0 ⟨-1, -1, 0⟩)
  have ho6 := root_store l HW.out ho4
  have hb6 := below_putL hb4 (g := w.heap.size + 1) (by omega) 0 ⟨-1, -1, 0⟩
  clear hk4 ho4 hb4 d0 d1 d2 e0 e1 e2 hgz hHa hH6
  generalize putL w5 (w.heap.size + 1) 0 ⟨-1, -1, 0⟩ = w6 at *
  obtain ⟨c0, c1⟩ := hk6.cells
  obtain ⟨f0, f1⟩ := hk6.free
  have hx6 := hk6.lt
  have hs7 : (w6.setCell ⟨w.heap.size, 1, none⟩ (.slice (some ⟨w6.heap.size, 0, none⟩) 1 1)).heap.size = w6.heap.size := by simp
  have hk7 := hk6.put1 (.slice (some ⟨w6.heap.size, 0, none⟩) 1 1)
  have ho7 := own_far_block (w' := w6.setCell ⟨w.heap.size, 1, none⟩ (.slice (some ⟨w6.heap.size, 0, none⟩) 1 1)) ho6 (fun k hk => Below.heap_setCell _ _ _ k (fun e => by have h1 : w.heap.size + 1 = k := (by simpa [Value.ownBlock] using hk); have h2 : k = w.heap.size := e; omega))
  have hb7 := hb6.setCell (p := ⟨w.heap.size, 1, none⟩) (Nat.le_refl _) (.slice (some ⟨w6.heap.size, 0, none⟩) 1 1)
  have hr7 := World.ownsRow_lit (base := w.heap.size) (e := 3) (size := 1) (w6.setCell ⟨w.heap.size, 1, none⟩ (.slice (some ⟨w6.heap.size, 0, none⟩) 1 1)) #[.int .i64 0] 1 (by rw [hs7]; omega) (by unfold maxLen; omega) rfl
  rw [hs7] at hr7
  have hli : LiQ ((w6.setCell ⟨w.heap.size, 1, none⟩ (.slice (some ⟨w6.heap.size, 0, none⟩) 1 1)).alloc (.cells #[.int .i64 0] 3)) w.heap.size w.heap.size ps l [[]] := by
    refine ⟨Nat.le_refl _, w.heap.size + 1, ps.length, _, hk7.alloc _, ho7.alloc _, ?_⟩
    rw [show ivals ([[]].map (place ps)) = [.int .i64 0] by simp [ivals, place_nil HW.out]]
    exact hr7
  have hb8 := hb7.alloc (by rw [hs7]; omega) (.cells #[.int .i64 0] 3)
  have HF := Lib.hid (fill_any w _ st tt w.heap.size w.heap.size ps l HT.out hb8 rfl hli hn)
  clear hk6 ho6 hb6 hk7 hb7 ho7 hr7 hli hb8 hs7
  go_wp2_with (go_at_call 41; (with_reducible refine HF.out.mono ?_); rintro e w9 ⟨⟨v, rfl⟩, hl9, hb9⟩; have HL9 := Lib.hid hl9; have HB9 := Lib.hid hb9; clear hl9 hb9)
  go_ret
  exact ⟨_, rfl, ⟨HW.out, HLS.out, hn, HL9.out⟩, HB9.out⟩
end Go.Proofs.Ytkooanahgffjgaa.Lnk
