/- What line answers. -/
import Derived.Test.YtcekifknbljbiaaStrA2
namespace Go.Proofs.Ytcekifknbljbiaa.Str
open Go.Proofs.Ytcekifknbljbiaa.Stm Go.Proofs.Ytcekifknbljbiaa.Reg Go.RowKit Go.Maps
set_option maxRecDepth 100000
set_option linter.unusedVariables false

/-- A block of three cells that is new. -/
theorem new3 (w : World) (t : TypeId) (u0 u1 u2 : Value) : Blk3 (w.alloc (.cells #[u0, u1, u2] t)) w.heap.size t u0 u1 u2 := heap_alloc_new w _
/-- A line that ends with some bytes. -/
def GivesLine (W0 w : World) (p : Nat) (mp : Option Addr) (g : Nat) (d : Option Nat) (s : St) (b : Tx) (e : Ending) (w' : World) : Prop :=
  ∃ a c, e = .returned (.agg #[.int .i64 (s.num : Int), .int .i64 (s.off : Int), .slice a (lineT s b).length c]) ∧ Txt w' w.heap.size a (lineT s b) ∧ ∃ d', Nd w d d' ∧ Sm W0 w' p mp g d' (s.line b) ∧ Ch w w' (Own p g d mp) ∧ Ap p g d' mp a (lineT s b)
/-- The line was made, in a block of its own. -/
structure Half (W0 w y : World) (p : Nat) (mp : Option Addr) (g : Nat) (d d' : Option Nat) (s : St) (b : Tx) (L1 : Nat) (a1 : Option Addr) (c1 : Nat) : Prop where
  fsm : Sm W0 y p mp g d' { s with w := lineW s b }
  ftx : Txt y (w.heap.size + 1) a1 (lineT s b)
  fb0 : Blk3 y w.heap.size 47 (.int .i64 0) (.int .i64 0) (.slice none 0 0)
  fb1 : Blk3 y L1 47 (.int .i64 (s.num : Int)) (.int .i64 (s.off : Int)) (.slice a1 (lineT s b).length c1)
  flt : w.heap.size < L1
  fpl : p < w.heap.size
  fow : ¬ Own p g d' mp w.heap.size
  fnd : Nd w d d'
  fch : Ch w y (Own p g d mp)
  fap : Ap p g d' mp a1 (lineT s b)
theorem ch_put3 (W : World) (b : Nat) (v0 v1 v2 : Value) : Ch W (put3 W b v0 v1 v2) (fun k => k = b) := ⟨rfl, rfl, rfl, by simp [put3], fun k _ h => put3_other h⟩
theorem own_new {w x : World} {W0 : World} {p g : Nat} {mp : Option Addr} {d d' : Option Nat} {s : St} (h : Sm W0 w p mp g d s) (hd : Nd x d d') (hs : w.heap.size < x.heap.size) : ¬ Own p g d' mp w.heap.size := by
  rintro (e | e | e | e)
  · have := h.sblk.lt; omega
  · have := h.sgl; omega
  · rcases hd with rfl | ⟨k, rfl, hk⟩
    · have := h.sdl _ e; omega
    · cases e; omega
  · have := h.smt.lt e.symm; omega
theorem half_a {W0 w x0 x1 : World} {p g : Nat} {mp : Option Addr} {d d' : Option Nat} {s : St} {b : Tx} {a1 : Option Addr} {c1 : Nat} (H : Sm W0 w p mp g d s) (hB : Below w.heap.size w x0) (hs : x0.heap.size = w.heap.size + 1) (hn : Blk3 x0 w.heap.size 47 (.int .i64 0) (.int .i64 0) (.slice none 0 0))
    (hT : Txt x1 x0.heap.size a1 (lineT s b)) (hd : Nd x0 d d') (h1 : Sm W0 x1 p mp g d' { s with w := lineW s b }) (hc : Ch x0 x1 (Own p g d mp)) (ha : Ap p g d' mp a1 (lineT s b)) :
    Half W0 w (x1.alloc (.cells #[.int .i64 (s.num : Int), .int .i64 (s.off : Int), .slice a1 (lineT s b).length c1] 47)) p mp g d d' s b x1.heap.size a1 c1 := by
  have hb2 := Met.below_new x1 (.cells #[.int .i64 (s.num : Int), .int .i64 (s.off : Int), .slice a1 (lineT s b).length c1] 47)
  have hsz := hc.csize
  have hno : ¬ Own p g d mp w.heap.size := own_new (x := x0) H (.inl rfl) (by omega)
  have hc1 : Ch w x1 (Own p g d mp) := (Ch.of_below hB).trans hc (fun _ _ h => h)
  exact ⟨h1.keep hb2, (hT.keep hb2).less (by omega), (hb2.block _ (by omega)).trans ((hc.cblk _ (by omega) hno).trans hn), new3 _ _ _ _ _, by omega, H.sblk.lt, own_new H hd (by omega), Nd.trans (w' := x0) (.inl rfl) hd (by omega), hc1.trans (Ch.of_below (X := fun _ => False) hb2) (fun _ _ h => h.elim), ha⟩
theorem half_b {W0 w x0 x2 : World} {p g : Nat} {mp : Option Addr} {d d' : Option Nat} {s : St} {b : Tx} {a1 : Option Addr} {c1 : Nat} (H : Sm W0 w p mp g d s) (hB : Below w.heap.size w x0) (hs : x0.heap.size = w.heap.size + 1) (hn : Blk3 x0 w.heap.size 47 (.int .i64 0) (.int .i64 0) (.slice none 0 0))
    (hT : Txt x2 (x0.heap.size + 1) a1 (lineT s b)) (hd : Nd (x0.alloc (.cells #[.int .i64 0, .int .i64 0, .slice none 0 0] 47)) d d') (h1 : Sm W0 x2 p mp g d' { s with w := lineW s b }) (hc : Ch (x0.alloc (.cells #[.int .i64 0, .int .i64 0, .slice none 0 0] 47)) x2 (Own p g d mp)) (ha : Ap p g d' mp a1 (lineT s b)) :
    Blk3 x2 (w.heap.size + 1) 47 (.int .i64 0) (.int .i64 0) (.slice none 0 0) ∧ Half W0 w (put3 x2 (w.heap.size + 1) (.int .i64 (s.num : Int)) (.int .i64 (s.off : Int)) (.slice a1 (lineT s b).length c1)) p mp g d d' s b (w.heap.size + 1) a1 c1 := by
  rw [← hs]
  have hb := Met.below_new x0 (.cells #[.int .i64 0, .int .i64 0, .slice none 0 0] 47)
  have hn1 := new3 x0 47 (.int .i64 0) (.int .i64 0) (.slice none 0 0)
  have hs1 : (x0.alloc (.cells #[.int .i64 0, .int .i64 0, .slice none 0 0] 47)).heap.size = x0.heap.size + 1 := by simp
  generalize x0.alloc (.cells #[.int .i64 0, .int .i64 0, .slice none 0 0] 47) = x1 at *
  have hsz := hc.csize
  have hno : ¬ Own p g d mp w.heap.size := own_new (x := x0) H (.inl rfl) (by omega)
  have h0 : Sm W0 x0 p mp g d s := H.keep hB
  have hno1 : ¬ Own p g d' mp x0.heap.size := own_new h0 hd (by omega)
  have hno2 : ¬ Own p g d mp x0.heap.size := own_new (x := x1) h0 (.inl rfl) (by omega)
  have hc1 : Ch w x2 (Own p g d mp) := ((Ch.of_below hB).trans (Ch.of_below (X := fun _ => False) hb) (fun _ _ h => h.elim)).trans hc (fun _ _ h => h)
  have hcp := ch_put3 x2 x0.heap.size (.int .i64 (s.num : Int)) (.int .i64 (s.off : Int)) (.slice a1 (lineT s b).length c1)
  have hW := h0.sbel.size
  have hn2 : Blk3 x2 x0.heap.size 47 (.int .i64 0) (.int .i64 0) (.slice none 0 0) := (hc.cblk _ (by omega) hno2).trans hn1
  refine ⟨hn2, h1.ch hcp (fun k e => by rw [e]; exact ⟨hW, hno1⟩), (hcp.txt hT (fun k e hk _ => by omega)).less (by omega), ?_, ?_, by omega, H.sblk.lt, own_new H hd (by omega), Nd.trans (w' := x1) (.inl rfl) hd (by omega), hc1.trans hcp (fun k hk e => by omega), ha⟩
  · exact (hcp.cblk _ (by omega) (by omega)).trans ((hc.cblk _ (by omega) hno).trans ((hb.block _ (by omega)).trans hn))
  · exact hn2.put _ _ _
theorem cell_beside {w : World} {b c i j : Nat} {v : Value} (h : b ≠ c ∨ i ≠ j) : (w.setCell ⟨b, i, none⟩ v).cell? ⟨c, j, none⟩ = w.cell? ⟨c, j, none⟩ :=
  World.cell?_setCell_other _ _ _ _ (fun e => by injection e with e1 e2; rcases h with h | h; exact h e1; exact h e2)
/-- Behind the new number. -/
theorem Half.nums {W0 w y : World} {p g : Nat} {mp : Option Addr} {d d' : Option Nat} {s : St} {b : Tx} {L1 : Nat} {a1 : Option Addr} {c1 : Nat} (h : Half W0 w y p mp g d d' s b L1 a1 c1) :
    ((y.setCell ⟨p, 3, none⟩ (.int .i64 ((s.num : Int) + 1))).cell? ⟨p, 4, none⟩ = some (.int .i64 (s.off : Int)) ∧ (y.setCell ⟨p, 3, none⟩ (.int .i64 ((s.num : Int) + 1))).frozen? ⟨p, 4, none⟩ = false ∧
      (y.setCell ⟨p, 3, none⟩ (.int .i64 ((s.num : Int) + 1))).cell? ⟨L1, 0, none⟩ = some (.int .i64 (s.num : Int)) ∧ (y.setCell ⟨p, 3, none⟩ (.int .i64 ((s.num : Int) + 1))).cell? ⟨L1, 1, none⟩ = some (.int .i64 (s.off : Int)) ∧ (y.setCell ⟨p, 3, none⟩ (.int .i64 ((s.num : Int) + 1))).cell? ⟨L1, 2, none⟩ = some (.slice a1 (lineT s b).length c1)) ∧
    ((y.setCell ⟨p, 3, none⟩ (.int .i64 ((s.num : Int) + 1))).cell? ⟨w.heap.size, 0, none⟩ = some (.int .i64 0) ∧ (y.setCell ⟨p, 3, none⟩ (.int .i64 ((s.num : Int) + 1))).cell? ⟨w.heap.size, 1, none⟩ = some (.int .i64 0) ∧ (y.setCell ⟨p, 3, none⟩ (.int .i64 ((s.num : Int) + 1))).cell? ⟨w.heap.size, 2, none⟩ = some (.slice none 0 0)) ∧
    (y.setCell ⟨p, 3, none⟩ (.int .i64 ((s.num : Int) + 1))).frozen? ⟨w.heap.size, 0, none⟩ = false ∧ (y.setCell ⟨p, 3, none⟩ (.int .i64 ((s.num : Int) + 1))).frozen? ⟨w.heap.size, 1, none⟩ = false ∧ (y.setCell ⟨p, 3, none⟩ (.int .i64 ((s.num : Int) + 1))).frozen? ⟨w.heap.size, 2, none⟩ = false := by
  obtain ⟨h1, h2, h3, h4, h5, h6, h7, h8, h9, h0⟩ := h
  obtain ⟨k0, k1, k2⟩ := h4.cells
  have hb := h1.sblk
  have e : (y.setCell ⟨p, 3, none⟩ (.int .i64 ((s.num : Int) + 1))).frozen? ⟨p, 4, none⟩ = false := by
    unfold Sb at hb
    simp [World.frozen?, heap_set_same hb]
  refine ⟨⟨(cell_beside (.inr (by decide))).trans hb.cells.2.2.2.2.1, e, (cell_beside (.inl (by omega))).trans k0, (cell_beside (.inl (by omega))).trans k1, (cell_beside (.inl (by omega))).trans k2⟩, ?_⟩
  have h30 : Blk3 (y.setCell ⟨p, 3, none⟩ (.int .i64 ((s.num : Int) + 1))) w.heap.size 47 (.int .i64 0) (.int .i64 0) (.slice none 0 0) := (Below.heap_setCell _ _ _ _ (by show w.heap.size ≠ p; omega)).trans h3
  exact ⟨h30.cells, h30.free⟩
theorem Half.done {W0 w y : World} {p g : Nat} {mp : Option Addr} {d d' : Option Nat} {s : St} {b : Tx} {L1 : Nat} {a1 : Option Addr} {c1 : Nat} (h : Half W0 w y p mp g d d' s b L1 a1 c1) :
    GivesLine W0 w p mp g d s b (.returned (.agg #[.int .i64 (s.num : Int), .int .i64 (s.off : Int), .slice a1 (lineT s b).length c1])) (put3 ((y.setCell ⟨p, 3, none⟩ (.int .i64 ((s.num : Int) + 1))).setCell ⟨p, 4, none⟩ (.int .i64 ((s.off : Int) + (((lineT s b).length : Int) + 1)))) w.heap.size (.int .i64 (s.num : Int)) (.int .i64 (s.off : Int)) (.slice a1 (lineT s b).length c1)).drew := by
  obtain ⟨h1, h2, h3, h4, h5, h6, h7, h8, h9, h0⟩ := h
  have hc1 : Ch y ((y.setCell ⟨p, 3, none⟩ (.int .i64 ((s.num : Int) + 1))).setCell ⟨p, 4, none⟩ (.int .i64 ((s.off : Int) + (((lineT s b).length : Int) + 1)))) (fun k => k = p) := (ch_set _ _ _ _).trans (ch_set _ _ _ _) (fun _ _ h => h)
  have h10 : Sm W0 ((y.setCell ⟨p, 3, none⟩ (.int .i64 ((s.num : Int) + 1))).setCell ⟨p, 4, none⟩ (.int .i64 ((s.off : Int) + (((lineT s b).length : Int) + 1)))) p mp g d' (s.line b) := by
    refine h1.put hc1 ?_ (fun e => e) rfl rfl
    have hb := h1.sblk
    unfold Sb at hb ⊢
    rw [heap_set_same (heap_set_same hb)]
    have e1 : (((s.num + 1 : Nat) : Int)) = (s.num : Int) + 1 := by omega
    have e2 : (((s.off + (s.w.held ++ b).length + 1 : Nat) : Int)) = (s.off : Int) + (((lineT s b).length : Int) + 1) := by rw [lineT]; omega
    simp only [St.line, e1, e2]
    rfl
  have ht := hc1.txt h2 (fun k e hk _ => by omega)
  have hs := hc1.csize
  have hch := h9.trans hc1 (fun k _ e => .inl e)
  generalize ((y.setCell ⟨p, 3, none⟩ (.int .i64 ((s.num : Int) + 1))).setCell ⟨p, 4, none⟩ (.int .i64 ((s.off : Int) + (((lineT s b).length : Int) + 1)))) = z at *
  have hcp : Ch z (put3 z w.heap.size (.int .i64 (s.num : Int)) (.int .i64 (s.off : Int)) (.slice a1 (lineT s b).length c1)).drew (fun k => k = w.heap.size) := (ch_put3 z w.heap.size (.int .i64 (s.num : Int)) (.int .i64 (s.off : Int)) (.slice a1 (lineT s b).length c1)).trans (Ch.of_below (X := fun _ => False) (below_drews (Below.refl _ _) 1)) (fun _ _ h => h.elim)
  have hW := h10.sbel.size
  have hy := h9.csize
  have hp0 := h10.sp0
  refine ⟨a1, c1, rfl, (hcp.txt ht (fun k e hk _ => by omega)).less (by omega), d', h8, h10.ch hcp (fun k e => by rw [e]; exact ⟨by omega, h7⟩), hch.trans hcp (fun k hk e => by omega), h0⟩
set_option maxHeartbeats 2000000 in
theorem sline_any (W0 w : World) (p : Nat) (mp : Option Addr) (g : Nat) (d : Option Nat) (s : St) (h : Sm W0 w p mp g d s) (hbad : s.bad = false) (n : Nat) (hv : Rv n s.w) (hn : n ≤ 1000000) (hh : s.hunt ≤ 1000000000) (hnum : s.num ≤ 1000000000) (hoff : s.off ≤ 1000000000) (b : Tx) (a : Option Addr) (c : Nat) (hb : Bx w p g d mp a b) (hl : b.length ≤ 1000000) :
    Calls Try.prog 27 #[.pointer (some ⟨p, 0, none⟩), .slice a b.length c] w (GivesLine W0 w p mp g d s b) := by
  have hhl : s.w.held.length ≤ 1000000 := by have := hv.rinv.came; omega
  have hal : (lineT s b).length ≤ 2000000 := by rw [lineT_len]; omega
  have HX : Hid (∀ X : World, Below w.heap.size w X → Calls Try.prog 35 #[.pointer (some ⟨p, 0, none⟩), .slice a b.length c] X (GivesWhole W0 X p mp g d s b)) := Lib.hid fun X hX => swhole_any W0 X p mp g d s (h.keep hX) hbad n hv hn hh b a c (hb.keep hX) hl
  have H := Lib.hid h
  obtain ⟨c0, c1, c2, c3, c4, c5, c6⟩ := h.sblk.cells
  have hlt := h.sblk.lt
  have q1 : IntKind.i64.wrap ((s.num : Int) + 1) = (s.num : Int) + 1 := IntWalk.i64_in _ (by omega)
  have q2 : IntKind.i64.wrap (((lineT s b).length : Int) + 1) = ((lineT s b).length : Int) + 1 := IntWalk.i64_in _ (by omega)
  have q3 : IntKind.i64.wrap ((s.off : Int) + (((lineT s b).length : Int) + 1)) = (s.off : Int) + (((lineT s b).length : Int) + 1) := IntWalk.i64_in _ (by omega)
  clear h hb hv c0 c1 c2 c5 c6
  go_enter Try.func27, Try.ntmps27
  go_wp2_with fail
  have hb0 := Met.below_new w (.cells #[.int .i64 0, .int .i64 0, .slice none 0 0] 47)
  have H0 := H.out.keep hb0
  have hn0 := new3 w 47 (.int .i64 0) (.int .i64 0) (.slice none 0 0)
  have hs0 : (w.alloc (.cells #[.int .i64 0, .int .i64 0, .slice none 0 0] 47)).heap.size = w.heap.size + 1 := by simp
  generalize w.alloc (.cells #[.int .i64 0, .int .i64 0, .slice none 0 0] 47) = w0 at *
  obtain ⟨e0, e1, e2, e3, e4, e5, e6⟩ := H0.sblk.cells
  have HN0 := Lib.hid hn0
  have HB0 := Lib.hid hb0
  clear H0 hn0 hb0 e0 e1 e2 e5 e6 c3 c4
  refine wp_region_held_drew (S := fun w' => w'.cell? ⟨p, 3, none⟩ = some (.int .i64 (s.num : Int)) ∧ w'.cell? ⟨p, 4, none⟩ = some (.int .i64 (s.off : Int))) (by kernel_rfl) ⟨e3, e4⟩ (fun hH0 => ?_)
  have HN0 : Hid (Blk3 w0.drew w.heap.size 47 (.int .i64 0) (.int .i64 0) (.slice none 0 0)) := Lib.hid HN0.out
  have HB0 : Hid (Below w.heap.size w w0.drew) := Lib.hid (below_drews HB0.out 1)
  have hs0 : w0.drew.heap.size = w.heap.size + 1 := hs0
  clear e3 e4
  generalize w0.drew = x0 at *
  refine held_take (i := 0) (d := 6) (oi := _) (v := ?_) rfl rfl (by kernel_rfl) (by kernel_rfl) (by kernel_rfl) (fun _ _ _ h => h) (Or.inl ⟨by rfl, ?_⟩) (by assumption) ?_
  rotate_left
  · (intro w hSw; obtain ⟨s0, s1⟩ := hSw; go_simp; (try with_reducible rfl))
  simp only [Act.put, List.setIfInBounds_toArray, List.set_cons_zero, List.set_cons_succ]
  refine held_take (i := 1) (d := 7) (oi := _) (v := ?_) rfl rfl (by kernel_rfl) (by kernel_rfl) (by kernel_rfl) (fun _ _ _ h => h) (Or.inl ⟨by rfl, ?_⟩) (by assumption) ?_
  rotate_left
  · (intro w hSw; obtain ⟨s0, s1⟩ := hSw; go_simp; (try with_reducible rfl))
  simp only [Act.put, List.setIfInBounds_toArray, List.set_cons_zero, List.set_cons_succ]
  refine held_take (i := 2) (d := 8) (oi := _) (v := ?_) rfl rfl (by kernel_rfl) (by kernel_rfl) (by kernel_rfl) (fun _ _ _ h => h) (Or.inl ⟨by rfl, ?_⟩) (by assumption) ?_
  rotate_left
  · (intro w hSw; obtain ⟨s0, s1⟩ := hSw; go_simp; (try with_reducible rfl))
  simp only [Act.put, List.setIfInBounds_toArray, List.set_cons_zero, List.set_cons_succ]
  refine held_take (i := 3) (d := 9) (oi := _) (v := ?_) rfl rfl (by kernel_rfl) (by kernel_rfl) (by kernel_rfl) (fun _ _ _ h => h) (Or.inl ⟨by rfl, ?_⟩) (by assumption) ?_
  rotate_left
  · (intro w hSw; obtain ⟨s0, s1⟩ := hSw; go_simp; (try with_reducible rfl))
  simp only [Act.put, List.setIfInBounds_toArray, List.set_cons_zero, List.set_cons_succ]
  refine held_take (i := 4) (d := 10) (oi := _) (v := ?_) rfl rfl (by kernel_rfl) (by kernel_rfl) (by kernel_rfl) (fun _ _ _ h => h) (Or.inl ⟨by rfl, ?_⟩) (by assumption) ?_
  rotate_left
  · (intro w hSw; obtain ⟨s0, s1⟩ := hSw; go_simp; (try with_reducible rfl))
  simp only [Act.put, List.setIfInBounds_toArray, List.set_cons_zero, List.set_cons_succ]
  refine held_take (i := 5) (d := 11) (oi := _) (v := ?_) rfl rfl (by kernel_rfl) (by kernel_rfl) (by kernel_rfl) (fun _ _ _ h => h) (Or.inl ⟨by rfl, ?_⟩) (by assumption) ?_
  rotate_left
  · (intro w hSw; obtain ⟨s0, s1⟩ := hSw; go_simp; (try with_reducible rfl))
  simp only [Act.put, List.setIfInBounds_toArray, List.set_cons_zero, List.set_cons_succ]
  refine held_take (i := 6) (d := 12) (oi := _) (v := ?_) rfl rfl (by kernel_rfl) (by kernel_rfl) (by kernel_rfl) (fun _ _ _ h => h) (Or.inl ⟨by rfl, ?_⟩) (by assumption) ?_
  rotate_left
  · (intro w hSw; obtain ⟨s0, s1⟩ := hSw; go_simp; (try with_reducible rfl))
  simp only [Act.put, List.setIfInBounds_toArray, List.set_cons_zero, List.set_cons_succ]
  refine held_take (i := 7) (d := 13) (oi := _) (v := ?_) rfl rfl (by kernel_rfl) (by kernel_rfl) (by kernel_rfl) (fun _ _ _ h => h) (Or.inl ⟨by rfl, ?_⟩) (by assumption) ?_
  rotate_left
  · (intro w hSw; obtain ⟨s0, s1⟩ := hSw; go_simp; (try with_reducible rfl))
  simp only [Act.put, List.setIfInBounds_toArray, List.set_cons_zero, List.set_cons_succ]
  refine held_take (i := 8) (d := 14) (oi := _) (v := ?_) rfl rfl (by kernel_rfl) (by kernel_rfl) (by kernel_rfl) (fun _ _ _ h => h) (Or.inl ⟨by rfl, ?_⟩) (by assumption) ?_
  rotate_left
  · (intro w hSw; obtain ⟨s0, s1⟩ := hSw; go_simp; (try with_reducible rfl))
  simp only [Act.put, List.setIfInBounds_toArray, List.set_cons_zero, List.set_cons_succ]
  refine held_take (i := 9) (d := 15) (oi := _) (v := ?_) rfl rfl (by kernel_rfl) (by kernel_rfl) (by kernel_rfl) (fun _ _ _ h => h) (Or.inl ⟨by rfl, ?_⟩) (by assumption) ?_
  rotate_left
  · (intro w hSw; obtain ⟨s0, s1⟩ := hSw; go_simp; (try with_reducible rfl))
  simp only [Act.put, List.setIfInBounds_toArray, List.set_cons_zero, List.set_cons_succ]
  refine wpAnyH_ready (rs := [10, 12]) (by kernel_rfl) (by simp) ?_
  refine AllReadyH.cons rfl (fun K hK => ?_) (AllReadyH.cons rfl (fun K hK => ?_) AllReadyH.nil)
  · go_simp
    go_wp2_with (go_at_call 35; (with_reducible refine (HX.out x0 HB0.out).mono ?_); rintro e x1 ⟨a1, c1, rfl, ht, d', hd, h1, hc, ha⟩; have HT := Lib.hid ht; have HD := Lib.hid hd; have H1 := Lib.hid h1; have HC := Lib.hid hc; have HA := Lib.hid ha; clear ht hd h1 hc ha)
    obtain ⟨e0, e1, e2, e3, e4, e5, e6⟩ := H1.out.sblk.cells
    clear e0 e1 e2 e5 e6
    have hHc : x1.cell? ⟨p, 3, none⟩ = some (.int .i64 (s.num : Int)) ∧ x1.cell? ⟨p, 4, none⟩ = some (.int .i64 (s.off : Int)) := ⟨e3, e4⟩
    refine hK.out _ _ hHc (fun _ => ?_)
    clear hK K hH0
    refine held_take (i := 11) (d := 17) (oi := _) (v := ?_) rfl rfl (by kernel_rfl) (by kernel_rfl) (by kernel_rfl) (fun _ _ _ h => h) (Or.inl ⟨by rfl, ?_⟩) (by assumption) ?_
    rotate_left
    · (intro w hSw; obtain ⟨s0, s1⟩ := hSw; go_simp; (try with_reducible rfl))
    simp only [Act.put, List.setIfInBounds_toArray, List.set_cons_zero, List.set_cons_succ]
    refine wpAnyH_ready (rs := [12]) (by kernel_rfl) (by simp) ?_
    refine AllReadyH.cons rfl (fun K hK => ?_) AllReadyH.nil
    go_simp
    have hHd : (x1.alloc (.cells #[.int .i64 0, .int .i64 0, .slice none 0 0] 47)).cell? ⟨p, 3, none⟩ = some (.int .i64 (s.num : Int)) ∧ (x1.alloc (.cells #[.int .i64 0, .int .i64 0, .slice none 0 0] 47)).cell? ⟨p, 4, none⟩ = some (.int .i64 (s.off : Int)) := by have hb := (H1.out.keep (Met.below_new x1 (.cells #[.int .i64 0, .int .i64 0, .slice none 0 0] 47))).sblk.cells; exact ⟨hb.2.2.2.1, hb.2.2.2.2.1⟩
    refine hK.out _ _ hHd (fun _ => ?_)
    clear hK K
    refine wpAnyH_ready (rs := [13]) (by kernel_rfl) (by simp) ?_
    refine AllReadyH.cons rfl (fun K hK => ?_) AllReadyH.nil
    go_simp
    have HF : Hid (Half W0 w (x1.alloc (.cells #[.int .i64 (s.num : Int), .int .i64 (s.off : Int), .slice a1 (lineT s b).length c1] 47)) p mp g d d' s b x1.heap.size a1 c1) := Lib.hid (half_a (c1 := c1) H.out HB0.out hs0 HN0.out HT.out HD.out H1.out HC.out HA.out)
    clear HT HD H1 HC HA
    have hHe : (x1.alloc (.cells #[.int .i64 (s.num : Int), .int .i64 (s.off : Int), .slice a1 (lineT s b).length c1] 47)).cell? ⟨p, 3, none⟩ = some (.int .i64 (s.num : Int)) ∧ (x1.alloc (.cells #[.int .i64 (s.num : Int), .int .i64 (s.off : Int), .slice a1 (lineT s b).length c1] 47)).cell? ⟨p, 4, none⟩ = some (.int .i64 (s.off : Int)) := by have hb := HF.out.fsm.sblk.cells; exact ⟨hb.2.2.2.1, hb.2.2.2.2.1⟩
    refine hK.out _ _ hHe (fun _ => ?_)
    clear hK K
    refine wpAnyH_done (by kernel_rfl) ?_ _
    generalize (x1.alloc (.cells #[.int .i64 (s.num : Int), .int .i64 (s.off : Int), .slice a1 (lineT s b).length c1] 47)) = y at *
    obtain ⟨f0, f1, f2, f3, f4, f5, f6⟩ := HF.out.fsm.sblk.cells
    have g3 := HF.out.fsm.sblk.free 3
    have g4 := HF.out.fsm.sblk.free 4
    clear f0 f1 f2 f5 f6
    obtain ⟨k0, k1, k2⟩ := HF.out.fb1.cells
    obtain ⟨j0, j1, j2⟩ := HF.out.fb0.free
    obtain ⟨i0, i1, i2⟩ := HF.out.fb0.cells
    have hLl := HF.out.flt
    have hfp := HF.out.fpl
    go_wp2_with fail
    have HZ := Lib.hid (HF.out.nums)
    obtain ⟨z, hz⟩ : ∃ z, z = y.setCell ⟨p, 3, none⟩ (.int .i64 ((s.num : Int) + 1)) := ⟨_, rfl⟩
    rw [← hz] at HZ ⊢
    have HZQ := Lib.hid hz
    clear hz f3 f4 g3 g4 k0 k1 k2 j0 j1 j2 i0 i1 i2
    obtain ⟨f4, g4, k0, k1, k2⟩ := HZ.out.1
    obtain ⟨⟨i0, i1, i2⟩, j0, j1, j2⟩ := HZ.out.2
    have np1 : ¬ (p = x1.heap.size) := by omega
    have np2 : ¬ (x1.heap.size = p) := by omega
    have np3 : ¬ (p = w.heap.size) := by omega
    have np4 : ¬ (w.heap.size = p) := by omega
    go_still_tail 11, (by kernel_rfl)
    change wpList _ _ _ _ _ z.drew
    clear q1 q2 q3
    go_wp2_with fail
    refine bodyPost_ret (v := .agg #[(.int .i64 (s.num : Int)), (.int .i64 (s.off : Int)), (.slice a1 (lineT s b).length c1)]) (by simp [results, Try.results27, go_sem, i0, i1, i2]) rfl ?_
    have hd := HF.out.done
    rw [← HZQ.out] at hd
    exact hd
  · go_simp
    have hHd : (x0.alloc (.cells #[.int .i64 0, .int .i64 0, .slice none 0 0] 47)).cell? ⟨p, 3, none⟩ = some (.int .i64 (s.num : Int)) ∧ (x0.alloc (.cells #[.int .i64 0, .int .i64 0, .slice none 0 0] 47)).cell? ⟨p, 4, none⟩ = some (.int .i64 (s.off : Int)) := by have hb := (H.out.keep (HB0.out.alloc HB0.out.size (.cells #[.int .i64 0, .int .i64 0, .slice none 0 0] 47))).sblk.cells; exact ⟨hb.2.2.2.1, hb.2.2.2.2.1⟩
    refine hK.out _ _ hHd (fun _ => ?_)
    clear hK K
    refine wpAnyH_ready (rs := [10]) (by kernel_rfl) (by simp) ?_
    refine AllReadyH.cons rfl (fun K hK => ?_) AllReadyH.nil
    go_simp
    go_wp2_with (go_at_call 35; (with_reducible refine (HX.out (x0.alloc (.cells #[.int .i64 0, .int .i64 0, .slice none 0 0] 47)) (HB0.out.alloc HB0.out.size (.cells #[.int .i64 0, .int .i64 0, .slice none 0 0] 47))).mono ?_); rintro e x2 ⟨a1, c1, rfl, ht, d', hd, h1, hc, ha⟩; have HT := Lib.hid ht; have HD := Lib.hid hd; have H1 := Lib.hid h1; have HC := Lib.hid hc; have HA := Lib.hid ha; clear ht hd h1 hc ha)
    obtain ⟨e0, e1, e2, e3, e4, e5, e6⟩ := H1.out.sblk.cells
    clear e0 e1 e2 e5 e6
    have hHc : x2.cell? ⟨p, 3, none⟩ = some (.int .i64 (s.num : Int)) ∧ x2.cell? ⟨p, 4, none⟩ = some (.int .i64 (s.off : Int)) := ⟨e3, e4⟩
    refine hK.out _ _ hHc (fun _ => ?_)
    clear hK K hH0
    refine held_take (i := 11) (d := 17) (oi := _) (v := ?_) rfl rfl (by kernel_rfl) (by kernel_rfl) (by kernel_rfl) (fun _ _ _ h => h) (Or.inl ⟨by rfl, ?_⟩) (by assumption) ?_
    rotate_left
    · (intro w hSw; obtain ⟨s0, s1⟩ := hSw; go_simp; (try with_reducible rfl))
    simp only [Act.put, List.setIfInBounds_toArray, List.set_cons_zero, List.set_cons_succ]
    refine wpAnyH_ready (rs := [13]) (by kernel_rfl) (by simp) ?_
    refine AllReadyH.cons rfl (fun K hK => ?_) AllReadyH.nil
    have HHB := Lib.hid (half_b (c1 := c1) H.out HB0.out hs0 HN0.out (by simpa using HT.out) HD.out H1.out HC.out HA.out)
    obtain ⟨z0, z1, z2⟩ := HHB.out.1.cells
    obtain ⟨y0, y1, y2⟩ := HHB.out.1.free
    go_simp
    have HF : Hid (Half W0 w (((x2.setCell ⟨w.heap.size + 1, 0, none⟩ (.int .i64 (s.num : Int))).setCell ⟨w.heap.size + 1, 1, none⟩ (.int .i64 (s.off : Int))).setCell ⟨w.heap.size + 1, 2, none⟩ (.slice a1 (lineT s b).length c1)) p mp g d d' s b (w.heap.size + 1) a1 c1) := Lib.hid (HHB.out.2)
    clear HT HD H1 HC HA
    have hHe : (((x2.setCell ⟨w.heap.size + 1, 0, none⟩ (.int .i64 (s.num : Int))).setCell ⟨w.heap.size + 1, 1, none⟩ (.int .i64 (s.off : Int))).setCell ⟨w.heap.size + 1, 2, none⟩ (.slice a1 (lineT s b).length c1)).cell? ⟨p, 3, none⟩ = some (.int .i64 (s.num : Int)) ∧ (((x2.setCell ⟨w.heap.size + 1, 0, none⟩ (.int .i64 (s.num : Int))).setCell ⟨w.heap.size + 1, 1, none⟩ (.int .i64 (s.off : Int))).setCell ⟨w.heap.size + 1, 2, none⟩ (.slice a1 (lineT s b).length c1)).cell? ⟨p, 4, none⟩ = some (.int .i64 (s.off : Int)) := by have hb := HF.out.fsm.sblk.cells; exact ⟨hb.2.2.2.1, hb.2.2.2.2.1⟩
    refine hK.out _ _ hHe (fun _ => ?_)
    clear hK K
    refine wpAnyH_done (by kernel_rfl) ?_ _
    generalize (((x2.setCell ⟨w.heap.size + 1, 0, none⟩ (.int .i64 (s.num : Int))).setCell ⟨w.heap.size + 1, 1, none⟩ (.int .i64 (s.off : Int))).setCell ⟨w.heap.size + 1, 2, none⟩ (.slice a1 (lineT s b).length c1)) = y at *
    obtain ⟨f0, f1, f2, f3, f4, f5, f6⟩ := HF.out.fsm.sblk.cells
    have g3 := HF.out.fsm.sblk.free 3
    have g4 := HF.out.fsm.sblk.free 4
    clear f0 f1 f2 f5 f6
    obtain ⟨k0, k1, k2⟩ := HF.out.fb1.cells
    obtain ⟨j0, j1, j2⟩ := HF.out.fb0.free
    obtain ⟨i0, i1, i2⟩ := HF.out.fb0.cells
    have hLl := HF.out.flt
    have hfp := HF.out.fpl
    go_wp2_with fail
    have HZ := Lib.hid (HF.out.nums)
    obtain ⟨z, hz⟩ : ∃ z, z = y.setCell ⟨p, 3, none⟩ (.int .i64 ((s.num : Int) + 1)) := ⟨_, rfl⟩
    rw [← hz] at HZ ⊢
    have HZQ := Lib.hid hz
    clear hz f3 f4 g3 g4 k0 k1 k2 j0 j1 j2 i0 i1 i2
    obtain ⟨f4, g4, k0, k1, k2⟩ := HZ.out.1
    obtain ⟨⟨i0, i1, i2⟩, j0, j1, j2⟩ := HZ.out.2
    have np1 : ¬ (p = (w.heap.size + 1)) := by omega
    have np2 : ¬ ((w.heap.size + 1) = p) := by omega
    have np3 : ¬ (p = w.heap.size) := by omega
    have np4 : ¬ (w.heap.size = p) := by omega
    go_still_tail 11, (by kernel_rfl)
    change wpList _ _ _ _ _ z.drew
    clear q1 q2 q3
    go_wp2_with fail
    refine bodyPost_ret (v := .agg #[(.int .i64 (s.num : Int)), (.int .i64 (s.off : Int)), (.slice a1 (lineT s b).length c1)]) (by simp [results, Try.results27, go_sem, i0, i1, i2]) rfl ?_
    have hd := HF.out.done
    rw [← HZQ.out] at hd
    exact hd
end Go.Proofs.Ytcekifknbljbiaa.Str
