/- The walk of MeterApart: two meters, and one that is none, side by side: the call returns true, and what was there is as it was. -/
import Derived.Test.YteadlgmajakomaaMl
import Derived.Deep.RegionHeld
namespace Go.Proofs.Yteadlgmajakomaa.meterApart
open Go.RowKit Go.Maps
attribute [local go_sem ↓] Go.wp_at_zero Go.wp_at_succ

theorem keepW {X Y : World} {b : List UInt8} {i j : Int} {Gw kk : Nat} (hb : Below X.heap.size X Y) (h : X.cell? ⟨Gw, 0, none⟩ = some (.int .i64 (cnt b i)) ∧ X.cell? ⟨Gw, 1, none⟩ = some (.int .i64 1) ∧ X.cell? ⟨Gw, 2, none⟩ = some (.int .i64 (cnt b j)) ∧ X.cell? ⟨Gw, 3, none⟩ = some (.int .i64 (kk : Int))) : Y.cell? ⟨Gw, 0, none⟩ = some (.int .i64 (cnt b i)) ∧ Y.cell? ⟨Gw, 1, none⟩ = some (.int .i64 1) ∧ Y.cell? ⟨Gw, 2, none⟩ = some (.int .i64 (cnt b j)) ∧ Y.cell? ⟨Gw, 3, none⟩ = some (.int .i64 (kk : Int)) := by
  obtain ⟨h0, h1, h2, h3⟩ := h
  have k : ∀ (g j : Nat) (v : Value), X.cell? ⟨g, j, none⟩ = some v → Y.cell? ⟨g, j, none⟩ = some v := fun g j v hv => (hb.cell (p := ⟨g, j, none⟩) (World.block_lt_of_cell? X _ hv)).trans hv
  exact ⟨k _ _ _ h0, k _ _ _ h1, k _ _ _ h2, k _ _ _ h3⟩
theorem cnt_zero (b : List UInt8) : min (b.length : Int) 1 = cnt b 0 := by
  unfold cnt inb
  by_cases h : 0 < b.length
  · rw [if_pos (decide_eq_true (by omega))]; omega
  · obtain rfl : b = [] := List.eq_nil_of_length_eq_zero (by omega)
    rfl
theorem copy5 (w : World) (p : Option Addr) (g base : Nat) (hT : Txt w base (some ⟨g, 0, none⟩) [0, 0, 0, 0, 0]) (B : Option Addr) (l : List UInt8) (cb N : Nat) (hB : Bs w N B l) (hl : l.length ≤ 1000000000000) (a b c d : Int) (hM : Mt w p a b c d) (ha : 0 ≤ a ∧ a ≤ 1000000000000) (hb : 0 ≤ b ∧ b ≤ 1000000000000) (hc : 0 ≤ c ∧ c ≤ 1000000000000) (hd : 0 ≤ d ∧ d ≤ 1000000000000) (kk : Nat) (hk : kk = min l.length 5) :
    Calls Try.prog 20 #[.pointer p, .slice (some ⟨g, 0, none⟩) 5 5, .slice B l.length cb] w fun e w' => e = .returned (.int .i64 (kk : Int)) ∧ Mt w' p a b c (d + (kk : Int)) ∧ ∃ w1 r, (∀ k, r = some k → base ≤ k ∧ ∃ cs fr, w.heap[k]? = some (.cells cs 5 fr)) ∧ w.grownBy w1 r ∧ w1.grownBy w' (blk p) := by
  subst hk
  exact (copy_any w p (some ⟨g, 0, none⟩) [0, 0, 0, 0, 0] 5 base hT B l cb N hB hl a b c d hM ha hb hc hd).mono fun e w' ⟨h1, _, h2, h3⟩ => ⟨h1, h2, h3⟩
set_option maxRecDepth 100000 in
set_option maxHeartbeats 16000000 in
theorem walk (W : World) (b : List UInt8) (a : Option Addr) (cap : Nat) (hm : b.length ≤ maxLen) (hb : Bs W W.heap.size a b) (i j : Int) (l : List Rw) (al : Option Addr) (capl : Nat) (hl : l.length ≤ maxLen) (hR : Rs W W.heap.size al l) (hWR : WfR l) (q : Ak) (hQ : (Lit.int .i64 q.s).wf = true) :
    Calls Try.prog 7 #[.slice a b.length cap, .int .i64 i, .int .i64 j, .slice al l.length capl, .agg #[.int .i64 q.s, .int .u8 (q.c.toNat : Int)]] W fun e w' => e = .returned (.bool true) ∧ Below W.heap.size W w' := by
  unfold maxLen at hm hl
  obtain ⟨W1, hW1⟩ : ∃ W1, W1 = W.alloc (.cells #[.int .i64 q.s, .int .u8 (q.c.toNat : Int)] 45) := ⟨_, rfl⟩
  have hsz : W1.heap.size = W.heap.size + 1 := by rw [hW1]; simp
  have hbw : Below W.heap.size W W1 := by rw [hW1]; exact below_new _ _
  have HB := Lib.hid ((hb.keep hbw).more (show W.heap.size ≤ W1.heap.size by omega))
  have HR := Lib.hid ((hR.keep hbw).more (show W.heap.size ≤ W1.heap.size by omega))
  have HBW := Lib.hid hbw
  have HSZ := Lib.hid hsz
  have HW1 := Lib.hid hW1
  have HQ := Lib.hid hQ
  have HWR := Lib.hid hWR
  have HC : Hid (W1.cell? ⟨W.heap.size, 0, none⟩ = some (.int .i64 q.s) ∧ W1.cell? ⟨W.heap.size, 1, none⟩ = some (.int .u8 (q.c.toNat : Int))) := Lib.hid (by
    have hh := heap_alloc_new W (.cells #[.int .i64 q.s, .int .u8 (q.c.toNat : Int)] 45)
    rw [hW1]
    constructor <;> (rw [cell_of_row _ W.heap.size _ _ 45 (0, 0) hh]; rfl))
  clear hb hR hWR hQ hsz hbw hW1
  by_cases h3 : 200 < b.length
  · go_enter Try.func7, Try.ntmps7
    go_wp2_with fail
    rw [← HW1.out]
    refine (awake_any W1).mono ?_
    rintro e w0 ⟨rfl, hb0⟩
    go_wp2
    go_ret
    exact ⟨rfl, HBW.out.trans (hb0.mono HBW.out.size)⟩
  by_cases h1 : 40 < l.length
  · go_enter Try.func7, Try.ntmps7
    go_wp2_with fail
    rw [← HW1.out]
    refine (awake_any W1).mono ?_
    rintro e w0 ⟨rfl, hb0⟩
    go_wp2
    go_ret
    exact ⟨rfl, HBW.out.trans (hb0.mono HBW.out.size)⟩
  have q1 : decide ((200 : Int) < (b.length : Int)) = false := by simp; omega
  have q2 : decide ((40 : Int) < (l.length : Int)) = false := by simp; omega
  go_enter Try.func7, Try.ntmps7
  go_wp2_with fail
  rw [← HW1.out]
  refine (awake_any W1).mono ?_
  rintro e w0 ⟨rfl, hb0⟩
  have s0 := hb0.size
  generalize hGq : W.heap.size = Gq at *
  have HGQ := Lib.hid hGq
  clear hGq
  go_wp2_with fail
  refine (new_mt w0).mono ?_
  rintro e w1 ⟨rfl, hM1, hb1⟩
  have hlt1 := hM1.lt (k := w0.heap.size) rfl
  have hB1 := hb0.trans (hb1.mono s0)
  clear q1 q2 hb0 hb1
  go_wp2_with fail
  refine (new_mt w1).mono ?_
  rintro e w2 ⟨rfl, hM2, hb2⟩
  have hne : w0.heap.size ≠ w1.heap.size := by omega
  have hW1 : W1.heap.size ≤ w0.heap.size := s0
  have hW2 : W1.heap.size ≤ w1.heap.size := by omega
  have D2 : Hid (St W1 w0.heap.size w1.heap.size w2 0 0 0 0 0) := Lib.hid ⟨hB1.trans (hb2.mono hW2), hM1.keep hb2, hM2⟩
  have NB0 : Gq < w0.heap.size := by have := HSZ.out; omega
  generalize w0.heap.size = M at *
  generalize w1.heap.size = O at *
  clear hM1 hM2 hB1 hb2 hlt1 s0
  have NB : Hid (some Gq ≠ blk (ptr M)) := Lib.hid (fun e => by have e' : some Gq = some M := e; injection e' with e'; omega)
  clear NB0
  go_wp2_with fail
  refine (text_any w2 (ptr M) b a cap (by omega) ((HB.out.keep D2.out.1).more D2.out.1.size)).mono ?_
  rintro e w3 ⟨t, rfl, hX3, hb3⟩
  have D3 := Lib.hid (D2.out.keep hb3)
  have X3 := Lib.hid hX3
  clear hX3 hb3 D2
  go_wp2_with fail
  refine (at_any w3 _ t _ b X3.out i (by omega) _ _ _ _ D3.out.2.1 (by omega) (by omega) (by omega) (by omega)).mono ?_
  rintro e w4 ⟨rfl, hM4, hg4⟩
  have D4 := Lib.hid (D3.out.addM hM4 hg4 hne hW1)
  clear hM4 hg4 D3 X3
  go_wp2_with fail
  refine (text_any w4 none b a cap (by omega) ((HB.out.keep D4.out.1).more D4.out.1.size)).mono ?_
  rintro e w5 ⟨t', rfl, hX5, hb5⟩
  have D5 := Lib.hid (D4.out.keep hb5)
  have X5 := Lib.hid hX5
  clear hX5 hb5 D4
  go_wp2_with fail
  refine (at_any w5 _ t' _ b X5.out i (by omega) _ _ _ _ (none_mt w5) (by omega) (by omega) (by omega) (by omega)).mono ?_
  rintro e w6 ⟨rfl, _, hg6⟩
  have D6 := Lib.hid (D5.out.keep (below_none hg6))
  clear hg6 D5 X5
  have kb1 := cnt_bd b i
  have kb2 := cnt_bd b j
  have hS0 : w6.drew.cell? ⟨Gq, 0, none⟩ = some (.int .i64 q.s) ∧ w6.drew.cell? ⟨Gq, 1, none⟩ = some (.int .u8 (q.c.toNat : Int)) := ⟨(D6.out.1.cell (p := ⟨Gq, 0, none⟩) (by have := HSZ.out; show Gq < _; omega)).trans HC.out.1, (D6.out.1.cell (p := ⟨Gq, 1, none⟩) (by have := HSZ.out; show Gq < _; omega)).trans HC.out.2⟩
  go_wp2
  replace D6 := Lib.hid D6.out.drew
  refine wp_region_held_drew (S := fun w' => w'.cell? ⟨Gq, 0, none⟩ = some (.int .i64 q.s) ∧ w'.cell? ⟨Gq, 1, none⟩ = some (.int .u8 (q.c.toNat : Int))) (by kernel_rfl) hS0 (fun hH0 => ?_)
  generalize w6.drew = wd at *
  have P6 := Lib.hid (sparse_any wd (ptr M) l al capl (by omega) ((HR.out.keep D6.out.1).more D6.out.1.size) HWR.out)
  refine held_take (i := 0) (d := 49) (oi := _) (v := ?_) rfl rfl (by kernel_rfl) (by kernel_rfl) (by kernel_rfl) (fun _ _ _ h => h) (Or.inl ⟨by rfl, ?_⟩) (by assumption) ?_
  rotate_left
  · (intro w hSw; (try dsimp only at hSw); go_simp; (try with_reducible rfl))
  simp only [Act.put, List.setIfInBounds_toArray, List.set_cons_zero, List.set_cons_succ]
  refine held_take (i := 1) (d := 50) (oi := _) (v := ?_) rfl rfl (by kernel_rfl) (by kernel_rfl) (by kernel_rfl) (fun _ _ _ h => h) (Or.inl ⟨by rfl, ?_⟩) (by assumption) ?_
  rotate_left
  · (intro w hSw; (try dsimp only at hSw); go_simp; (try with_reducible rfl))
  simp only [Act.put, List.setIfInBounds_toArray, List.set_cons_zero, List.set_cons_succ]
  refine held_take (i := 3) (d := 52) (oi := _) (v := ?_) rfl rfl (by kernel_rfl) (by kernel_rfl) (by kernel_rfl) (fun _ _ _ h => h) (Or.inl ⟨by rfl, ?_⟩) (by assumption) ?_
  rotate_left
  · (intro w hSw; (try dsimp only at hSw); go_simp; (try with_reducible rfl))
  simp only [Act.put, List.setIfInBounds_toArray, List.set_cons_zero, List.set_cons_succ]
  refine held_take (i := 4) (d := 53) (oi := _) (v := ?_) rfl rfl (by kernel_rfl) (by kernel_rfl) (by kernel_rfl) (fun _ _ _ h => h) (Or.inl ⟨by rfl, ?_⟩) (by assumption) ?_
  rotate_left
  · (intro w hSw; (try dsimp only at hSw); go_simp; (try with_reducible rfl))
  simp only [Act.put, List.setIfInBounds_toArray, List.set_cons_zero, List.set_cons_succ]
  refine held_take (i := 5) (d := 54) (oi := _) (v := ?_) rfl rfl (by kernel_rfl) (by kernel_rfl) (by kernel_rfl) (fun _ _ _ h => h) (Or.inl ⟨by rfl, ?_⟩) (by assumption) ?_
  rotate_left
  · (intro w hSw; (try dsimp only at hSw); go_simp; (try with_reducible rfl))
  simp only [Act.put, List.setIfInBounds_toArray, List.set_cons_zero, List.set_cons_succ]
  refine held_take (i := 6) (d := 55) (oi := _) (v := ?_) rfl rfl (by kernel_rfl) (by kernel_rfl) (by kernel_rfl) (fun _ _ _ h => h) (Or.inl ⟨by rfl, ?_⟩) (by assumption) ?_
  rotate_left
  · (intro w hSw; (try dsimp only at hSw); go_simp; (try with_reducible rfl))
  simp only [Act.put, List.setIfInBounds_toArray, List.set_cons_zero, List.set_cons_succ]
  refine wpAnyH_ready (rs := [2]) (by kernel_rfl) (by simp) ?_
  refine AllReadyH.cons rfl (fun K hK => ?_) AllReadyH.nil
  go_simp
  go_wp2_with (go_at_call 14; ((with_reducible refine P6.out.mono ?_)); rintro e' x1 ⟨t6, rfl, hT1, hb1⟩)
  refine hK.out _ _ ?_ (fun hH1 => ?_)
  · exact ⟨(hb1.cell (p := ⟨Gq, 0, none⟩) (cell_lt0 hH0.1)).trans hH0.1, (hb1.cell (p := ⟨Gq, 1, none⟩) (cell_lt0 hH0.2)).trans hH0.2⟩
  clear hK K hH0
  have F6 := Lib.hid (D6.out.keep hb1)
  have T6 := Lib.hid hT1
  clear hT1 hb1 D6 P6
  have Q6 := Lib.hid (look_some x1 _ t6 _ l T6.out q.s q.c HQ.out _ _ _ _ F6.out.2.1 (by omega) (by omega) (by omega) (by omega))
  refine wpAnyH_ready (rs := [7]) (by kernel_rfl) (by simp) ?_
  refine AllReadyH.cons rfl (fun K hK => ?_) AllReadyH.nil
  go_simp
  go_wp2_with (go_at_call 15; ((with_reducible refine Q6.out.mono ?_)); rintro e' x2 ⟨rfl, hM2, hg2⟩)
  refine hK.out _ _ ?_ (fun hH2 => ?_)
  · exact ⟨hg2.cell hH1.1 NB.out, hg2.cell hH1.2 NB.out⟩
  clear hK K hH1
  refine held_take (i := 8) (d := 17) (oi := _) (v := ?_) rfl rfl (by kernel_rfl) (by kernel_rfl) (by kernel_rfl) (fun _ _ _ h => h) (Or.inl ⟨by rfl, ?_⟩) (by assumption) ?_
  rotate_left
  · (intro w hSw; (try dsimp only at hSw); go_simp; (try with_reducible rfl))
  simp only [Act.put, List.setIfInBounds_toArray, List.set_cons_zero, List.set_cons_succ]
  refine wpAnyH_done (by kernel_rfl) ?_ _
  have D7 := Lib.hid (F6.out.addM hM2 hg2 hne hW1)
  clear hM2 hg2 F6 T6 Q6 hH2 hS0
  generalize x2 = w7 at *
  go_wp2
  have hS0 : w7.drew.cell? ⟨Gq, 0, none⟩ = some (.int .i64 q.s) ∧ w7.drew.cell? ⟨Gq, 1, none⟩ = some (.int .u8 (q.c.toNat : Int)) := ⟨(D7.out.1.cell (p := ⟨Gq, 0, none⟩) (by have := HSZ.out; show Gq < _; omega)).trans HC.out.1, (D7.out.1.cell (p := ⟨Gq, 1, none⟩) (by have := HSZ.out; show Gq < _; omega)).trans HC.out.2⟩
  replace D7 := Lib.hid D7.out.drew
  refine wp_region_held_drew (S := fun w' => w'.cell? ⟨Gq, 0, none⟩ = some (.int .i64 q.s) ∧ w'.cell? ⟨Gq, 1, none⟩ = some (.int .u8 (q.c.toNat : Int))) (by kernel_rfl) hS0 (fun hH0 => ?_)
  generalize w7.drew = wd at *
  have P7 := Lib.hid (sparse_any wd none l al capl (by omega) ((HR.out.keep D7.out.1).more D7.out.1.size) HWR.out)
  refine held_take (i := 0) (d := 57) (oi := _) (v := ?_) rfl rfl (by kernel_rfl) (by kernel_rfl) (by kernel_rfl) (fun _ _ _ h => h) (Or.inl ⟨by rfl, ?_⟩) (by assumption) ?_
  rotate_left
  · (intro w hSw; (try dsimp only at hSw); go_simp; (try with_reducible rfl))
  simp only [Act.put, List.setIfInBounds_toArray, List.set_cons_zero, List.set_cons_succ]
  refine held_take (i := 1) (d := 58) (oi := _) (v := ?_) rfl rfl (by kernel_rfl) (by kernel_rfl) (by kernel_rfl) (fun _ _ _ h => h) (Or.inl ⟨by rfl, ?_⟩) (by assumption) ?_
  rotate_left
  · (intro w hSw; (try dsimp only at hSw); go_simp; (try with_reducible rfl))
  simp only [Act.put, List.setIfInBounds_toArray, List.set_cons_zero, List.set_cons_succ]
  refine held_take (i := 3) (d := 60) (oi := _) (v := ?_) rfl rfl (by kernel_rfl) (by kernel_rfl) (by kernel_rfl) (fun _ _ _ h => h) (Or.inl ⟨by rfl, ?_⟩) (by assumption) ?_
  rotate_left
  · (intro w hSw; (try dsimp only at hSw); go_simp; (try with_reducible rfl))
  simp only [Act.put, List.setIfInBounds_toArray, List.set_cons_zero, List.set_cons_succ]
  refine held_take (i := 4) (d := 61) (oi := _) (v := ?_) rfl rfl (by kernel_rfl) (by kernel_rfl) (by kernel_rfl) (fun _ _ _ h => h) (Or.inl ⟨by rfl, ?_⟩) (by assumption) ?_
  rotate_left
  · (intro w hSw; (try dsimp only at hSw); go_simp; (try with_reducible rfl))
  simp only [Act.put, List.setIfInBounds_toArray, List.set_cons_zero, List.set_cons_succ]
  refine held_take (i := 5) (d := 62) (oi := _) (v := ?_) rfl rfl (by kernel_rfl) (by kernel_rfl) (by kernel_rfl) (fun _ _ _ h => h) (Or.inl ⟨by rfl, ?_⟩) (by assumption) ?_
  rotate_left
  · (intro w hSw; (try dsimp only at hSw); go_simp; (try with_reducible rfl))
  simp only [Act.put, List.setIfInBounds_toArray, List.set_cons_zero, List.set_cons_succ]
  refine held_take (i := 6) (d := 63) (oi := _) (v := ?_) rfl rfl (by kernel_rfl) (by kernel_rfl) (by kernel_rfl) (fun _ _ _ h => h) (Or.inl ⟨by rfl, ?_⟩) (by assumption) ?_
  rotate_left
  · (intro w hSw; (try dsimp only at hSw); go_simp; (try with_reducible rfl))
  simp only [Act.put, List.setIfInBounds_toArray, List.set_cons_zero, List.set_cons_succ]
  refine wpAnyH_ready (rs := [2]) (by kernel_rfl) (by simp) ?_
  refine AllReadyH.cons rfl (fun K hK => ?_) AllReadyH.nil
  go_simp
  go_wp2_with (go_at_call 14; ((with_reducible refine P7.out.mono ?_)); rintro e' x1 ⟨t7, rfl, hT1, hb1⟩)
  refine hK.out _ _ ?_ (fun hH1 => ?_)
  · exact ⟨(hb1.cell (p := ⟨Gq, 0, none⟩) (cell_lt0 hH0.1)).trans hH0.1, (hb1.cell (p := ⟨Gq, 1, none⟩) (cell_lt0 hH0.2)).trans hH0.2⟩
  clear hK K hH0
  have F7 := Lib.hid (D7.out.keep hb1)
  have T7 := Lib.hid hT1
  clear hT1 hb1 D7 P7
  have Q7 := Lib.hid (look_some x1 _ t7 _ l T7.out q.s q.c HQ.out _ _ _ _ (none_mt x1) (by omega) (by omega) (by omega) (by omega))
  refine wpAnyH_ready (rs := [7]) (by kernel_rfl) (by simp) ?_
  refine AllReadyH.cons rfl (fun K hK => ?_) AllReadyH.nil
  go_simp
  go_wp2_with (go_at_call 15; ((with_reducible refine Q7.out.mono ?_)); rintro e' x2 ⟨rfl, hM2, hg2⟩)
  refine hK.out _ _ ?_ (fun hH2 => ?_)
  · exact ⟨hg2.cell hH1.1 (by intro e; cases e), hg2.cell hH1.2 (by intro e; cases e)⟩
  clear hK K hH1
  refine held_take (i := 8) (d := 18) (oi := _) (v := ?_) rfl rfl (by kernel_rfl) (by kernel_rfl) (by kernel_rfl) (fun _ _ _ h => h) (Or.inl ⟨by rfl, ?_⟩) (by assumption) ?_
  rotate_left
  · (intro w hSw; (try dsimp only at hSw); go_simp; (try with_reducible rfl))
  simp only [Act.put, List.setIfInBounds_toArray, List.set_cons_zero, List.set_cons_succ]
  refine wpAnyH_done (by kernel_rfl) ?_ _
  have D8 := Lib.hid (F7.out.keep (below_none hg2))
  clear hM2 hg2 F7 T7 Q7 hH2 hS0
  generalize x2 = w8 at *
  go_wp2_with fail
  refine (read_any w8 (ptr M) b a cap ((HB.out.keep D8.out.1).more D8.out.1.size) j (by omega) _ _ _ _ D8.out.2.1 (by omega) (by omega) (by omega) (by omega)).mono ?_
  rintro e' w9 ⟨rfl, hM9, hg9⟩
  have D9 := Lib.hid (D8.out.addM hM9 hg9 hne hW1)
  clear hM9 hg9 D8
  go_wp2_with fail
  refine (read_any w9 none b a cap ((HB.out.keep D9.out.1).more D9.out.1.size) j (by omega) _ _ _ _ (none_mt w9) (by omega) (by omega) (by omega) (by omega)).mono ?_
  rintro e' w10 ⟨rfl, _, hg10⟩
  have D10 := Lib.hid (D9.out.keep (below_none hg10))
  clear hg10 D9
  obtain ⟨kk, hkk⟩ : ∃ kk : Nat, kk = min b.length 5 := ⟨_, rfl⟩
  have HK := Lib.hid hkk
  have hkb : kk ≤ 5 := by omega
  clear hkk
  have mk := make_5
  have n1 := below_new w10 (.cells #[.int .u8 0, .int .u8 0, .int .u8 0, .int .u8 0, .int .u8 0] 5)
  have F10 := Lib.hid (D10.out.keep n1)
  have z10 := D10.out.1.size
  go_wp2_with fail
  refine (copy5 (w10.alloc (.cells #[.int .u8 0, .int .u8 0, .int .u8 0, .int .u8 0, .int .u8 0] 5)) (ptr M) w10.heap.size w10.heap.size (txt_new w10 [0, 0, 0, 0, 0] _ rfl) a b cap _ (HB.out.keep F10.out.1) (by omega) _ _ _ _ F10.out.2.1 (by omega) (by omega) (by omega) (by omega) kk HK.out).mono ?_
  rintro e' w11 ⟨rfl, hM11, w11', r11, hr11, hg11, hg11'⟩
  have D11 := Lib.hid ((F10.out.bytes hr11 hg11 z10).addM hM11 hg11' hne hW1)
  clear hM11 hr11 hg11 hg11' D10 F10 n1 z10
  have n1 := below_new w11 (.cells #[.int .u8 0, .int .u8 0, .int .u8 0, .int .u8 0, .int .u8 0] 5)
  have F11 := Lib.hid (D11.out.keep n1)
  have z11 := D11.out.1.size
  go_wp2_with fail
  refine (copy5 (w11.alloc (.cells #[.int .u8 0, .int .u8 0, .int .u8 0, .int .u8 0, .int .u8 0] 5)) none w11.heap.size w11.heap.size (txt_new w11 [0, 0, 0, 0, 0] _ rfl) a b cap _ (HB.out.keep F11.out.1) (by omega) _ _ _ _ (none_mt _) (by omega) (by omega) (by omega) (by omega) kk HK.out).mono ?_
  rintro e' w12 ⟨rfl, _, w12', r12, hr12, hg12, hg12'⟩
  have D12 := Lib.hid ((F11.out.bytes hr12 hg12 z11).keep (below_none hg12'))
  clear hr12 hg12 hg12' D11 F11 n1 z11 mk
  simp only [Int.zero_add] at D12
  go_wp2_with fail
  refine (counts_mt w12 M _ _ _ _ D12.out.2.1).mono ?_
  rintro e' w13 ⟨rfl, hb13⟩
  have D13 := Lib.hid (D12.out.keep hb13)
  clear hb13 D12
  have n1 := below_new w13 (.cells #[.int .i64 (cnt b i), .int .i64 1, .int .i64 (cnt b j), .int .i64 (kk : Int)] 31)
  have F13 := Lib.hid (D13.out.keep n1)
  have Bk := Lib.hid (Blk4.new w13 31 (.int .i64 (cnt b i)) (.int .i64 1) (.int .i64 (cnt b j)) (.int .i64 (kk : Int)))
  clear n1 D13
  go_wp2_with fail
  refine (text_any (w13.alloc (.cells #[.int .i64 (cnt b i), .int .i64 1, .int .i64 (cnt b j), .int .i64 (kk : Int)] 31)) (ptr O) b a cap (by omega) ((HB.out.keep F13.out.1).more F13.out.1.size)).mono ?_
  rintro e' wt ⟨tt, rfl, hXt, hbt⟩
  have Dt := Lib.hid (F13.out.keep hbt)
  have Bt := Lib.hid (Bk.out.same (hbt.block _ Bk.out.lt))
  have Xt := Lib.hid hXt
  clear hXt hbt F13 Bk
  generalize w13.heap.size = Gw at *
  go_wp2_with fail
  refine (at_any wt _ tt _ b Xt.out 0 (by omega) _ _ _ _ Dt.out.2.2 (by omega) (by omega) (by omega) (by omega)).mono ?_
  rintro e' w14 ⟨rfl, hM14, hg14⟩
  have D14 := Lib.hid ((Dt.out.addO hM14 hg14 hne hW2).drew)
  have B14 := Lib.hid (Bt.out.same (hg14.block _ Bt.out.lt (Dt.out.2.2.not Bt.out (by decide))))
  clear hM14 hg14 Dt Bt Xt
  simp only [Int.zero_add] at D14
  have hS0 : w14.drew.cell? ⟨Gw, 0, none⟩ = some (.int .i64 (cnt b i)) ∧ w14.drew.cell? ⟨Gw, 1, none⟩ = some (.int .i64 1) ∧ w14.drew.cell? ⟨Gw, 2, none⟩ = some (.int .i64 (cnt b j)) ∧ w14.drew.cell? ⟨Gw, 3, none⟩ = some (.int .i64 (kk : Int)) := B14.out.cells
  have hq := eql_counts
  have hmin := cnt_zero b
  have kb0 := cnt_bd b 0
  clear B14
  go_wp2
  refine wp_region_held_drew (S := fun w' => w'.cell? ⟨Gw, 0, none⟩ = some (.int .i64 (cnt b i)) ∧ w'.cell? ⟨Gw, 1, none⟩ = some (.int .i64 1) ∧ w'.cell? ⟨Gw, 2, none⟩ = some (.int .i64 (cnt b j)) ∧ w'.cell? ⟨Gw, 3, none⟩ = some (.int .i64 (kk : Int))) (by kernel_rfl) hS0 (fun hH0 => ?_)
  generalize w14.drew = wd at *
  refine held_take (i := 0) (d := 93) (oi := _) (v := ?_) rfl rfl (by kernel_rfl) (by kernel_rfl) (by kernel_rfl) (fun _ _ _ h => h) (Or.inl ⟨by rfl, ?_⟩) (by assumption) ?_
  rotate_left
  · (intro w hSw; (try dsimp only at hSw); go_simp; (try with_reducible rfl))
  simp only [Act.put, List.setIfInBounds_toArray, List.set_cons_zero, List.set_cons_succ]
  refine held_take (i := 1) (d := 94) (oi := _) (v := ?_) rfl rfl (by kernel_rfl) (by kernel_rfl) (by kernel_rfl) (fun _ _ _ h => h) (Or.inl ⟨by rfl, ?_⟩) (by assumption) ?_
  rotate_left
  · (intro w hSw; (try dsimp only at hSw); go_simp; (try with_reducible rfl))
  simp only [Act.put, List.setIfInBounds_toArray, List.set_cons_zero, List.set_cons_succ]
  refine held_take (i := 2) (d := 95) (oi := _) (v := ?_) rfl rfl (by kernel_rfl) (by kernel_rfl) (by kernel_rfl) (fun _ _ _ h => h) (Or.inl ⟨by rfl, ?_⟩) (by assumption) ?_
  rotate_left
  · (intro w hSw; (try dsimp only at hSw); go_simp; (try with_reducible rfl))
  simp only [Act.put, List.setIfInBounds_toArray, List.set_cons_zero, List.set_cons_succ]
  refine held_take (i := 3) (d := 96) (oi := _) (v := ?_) rfl rfl (by kernel_rfl) (by kernel_rfl) (by kernel_rfl) (fun _ _ _ h => h) (Or.inl ⟨by rfl, ?_⟩) (by assumption) ?_
  rotate_left
  · (intro w hSw; (try dsimp only at hSw); go_simp; (try with_reducible rfl))
  simp only [Act.put, List.setIfInBounds_toArray, List.set_cons_zero, List.set_cons_succ]
  refine held_take (i := 4) (d := 97) (oi := _) (v := ?_) rfl rfl (by kernel_rfl) (by kernel_rfl) (by kernel_rfl) (fun _ _ _ h => h) (Or.inl ⟨by rfl, ?_⟩) (by assumption) ?_
  rotate_left
  · (intro w hSw; (try dsimp only at hSw); go_simp; (try with_reducible rfl))
  simp only [Act.put, List.setIfInBounds_toArray, List.set_cons_zero, List.set_cons_succ]
  refine held_take (i := 5) (d := 98) (oi := _) (v := ?_) rfl rfl (by kernel_rfl) (by kernel_rfl) (by kernel_rfl) (fun _ _ _ h => h) (Or.inl ⟨by rfl, ?_⟩) (by assumption) ?_
  rotate_left
  · (intro w hSw; (try dsimp only at hSw); go_simp; (try with_reducible rfl))
  simp only [Act.put, List.setIfInBounds_toArray, List.set_cons_zero, List.set_cons_succ]
  refine held_take (i := 6) (d := 99) (oi := _) (v := ?_) rfl rfl (by kernel_rfl) (by kernel_rfl) (by kernel_rfl) (fun _ _ _ h => h) (Or.inl ⟨by rfl, ?_⟩) (by assumption) ?_
  rotate_left
  · (intro w hSw; (try dsimp only at hSw); go_simp; (try with_reducible rfl))
  simp only [Act.put, List.setIfInBounds_toArray, List.set_cons_zero, List.set_cons_succ]
  refine held_take (i := 7) (d := 100) (oi := _) (v := ?_) rfl rfl (by kernel_rfl) (by kernel_rfl) (by kernel_rfl) (fun _ _ _ h => h) (Or.inl ⟨by rfl, ?_⟩) (by assumption) ?_
  rotate_left
  · (intro w hSw; (try dsimp only at hSw); go_simp; (try with_reducible rfl))
  simp only [Act.put, List.setIfInBounds_toArray, List.set_cons_zero, List.set_cons_succ]
  refine held_take (i := 8) (d := 101) (oi := _) (v := ?_) rfl rfl (by kernel_rfl) (by kernel_rfl) (by kernel_rfl) (fun _ _ _ h => h) (Or.inl ⟨by rfl, ?_⟩) (by assumption) ?_
  rotate_left
  · (intro w hSw; (try dsimp only at hSw); go_simp; (try with_reducible rfl))
  simp only [Act.put, List.setIfInBounds_toArray, List.set_cons_zero, List.set_cons_succ]
  refine held_take (i := 9) (d := 102) (oi := _) (v := ?_) rfl rfl (by kernel_rfl) (by kernel_rfl) (by kernel_rfl) (fun _ _ _ h => h) (Or.inl ⟨by rfl, ?_⟩) (by assumption) ?_
  rotate_left
  · (intro w hSw; (try dsimp only at hSw); go_simp; (try with_reducible rfl))
  simp only [Act.put, List.setIfInBounds_toArray, List.set_cons_zero, List.set_cons_succ]
  refine held_take (i := 10) (d := 103) (oi := _) (v := ?_) rfl rfl (by kernel_rfl) (by kernel_rfl) (by kernel_rfl) (fun _ _ _ h => h) (Or.inl ⟨by rfl, ?_⟩) (by assumption) ?_
  rotate_left
  · (intro w hSw; (try dsimp only at hSw); go_simp; (try with_reducible rfl))
  simp only [Act.put, List.setIfInBounds_toArray, List.set_cons_zero, List.set_cons_succ]
  refine held_take (i := 11) (d := 104) (oi := _) (v := ?_) rfl rfl (by kernel_rfl) (by kernel_rfl) (by kernel_rfl) (fun _ _ _ h => h) (Or.inl ⟨by rfl, ?_⟩) (by assumption) ?_
  rotate_left
  · (intro w hSw; (try dsimp only at hSw); go_simp; (try with_reducible rfl))
  simp only [Act.put, List.setIfInBounds_toArray, List.set_cons_zero, List.set_cons_succ]
  refine held_take (i := 12) (d := 105) (oi := _) (v := ?_) rfl rfl (by kernel_rfl) (by kernel_rfl) (by kernel_rfl) (fun _ _ _ h => h) (Or.inl ⟨by rfl, ?_⟩) (by assumption) ?_
  rotate_left
  · (intro w hSw; (try dsimp only at hSw); go_simp; (try with_reducible rfl))
  simp only [Act.put, List.setIfInBounds_toArray, List.set_cons_zero, List.set_cons_succ]
  refine held_take (i := 13) (d := 106) (oi := _) (v := ?_) rfl rfl (by kernel_rfl) (by kernel_rfl) (by kernel_rfl) (fun _ _ _ h => h) (Or.inl ⟨by rfl, ?_⟩) (by assumption) ?_
  rotate_left
  · (intro w hSw; (try dsimp only at hSw); go_simp; (try with_reducible rfl))
  simp only [Act.put, List.setIfInBounds_toArray, List.set_cons_zero, List.set_cons_succ]
  refine held_take (i := 14) (d := 107) (oi := _) (v := ?_) rfl rfl (by kernel_rfl) (by kernel_rfl) (by kernel_rfl) (fun _ _ _ h => h) (Or.inl ⟨by rfl, ?_⟩) (by assumption) ?_
  rotate_left
  · (intro w hSw; (try dsimp only at hSw); go_simp; (try with_reducible rfl))
  simp only [Act.put, List.setIfInBounds_toArray, List.set_cons_zero, List.set_cons_succ]
  refine held_take (i := 15) (d := 108) (oi := _) (v := ?_) rfl rfl (by kernel_rfl) (by kernel_rfl) (by kernel_rfl) (fun _ _ _ h => h) (Or.inl ⟨by rfl, ?_⟩) (by assumption) ?_
  rotate_left
  · (intro w hSw; (try dsimp only at hSw); go_simp; (try with_reducible rfl))
  simp only [Act.put, List.setIfInBounds_toArray, List.set_cons_zero, List.set_cons_succ]
  refine held_take (i := 16) (d := 109) (oi := _) (v := ?_) rfl rfl (by kernel_rfl) (by kernel_rfl) (by kernel_rfl) (fun _ _ _ h => h) (Or.inl ⟨by rfl, ?_⟩) (by assumption) ?_
  rotate_left
  · (intro w hSw; (try dsimp only at hSw); go_simp; (try with_reducible rfl))
  simp only [Act.put, List.setIfInBounds_toArray, List.set_cons_zero, List.set_cons_succ]
  refine held_take (i := 17) (d := 110) (oi := _) (v := ?_) rfl rfl (by kernel_rfl) (by kernel_rfl) (by kernel_rfl) (fun _ _ _ h => h) (Or.inl ⟨by rfl, ?_⟩) (by assumption) ?_
  rotate_left
  · (intro w hSw; (try dsimp only at hSw); go_simp; (try with_reducible rfl))
  simp only [Act.put, List.setIfInBounds_toArray, List.set_cons_zero, List.set_cons_succ]
  refine held_take (i := 18) (d := 111) (oi := _) (v := ?_) rfl rfl (by kernel_rfl) (by kernel_rfl) (by kernel_rfl) (fun _ _ _ h => h) (Or.inl ⟨by rfl, ?_⟩) (by assumption) ?_
  rotate_left
  · (intro w hSw; (try dsimp only at hSw); go_simp; (try with_reducible rfl))
  simp only [Act.put, List.setIfInBounds_toArray, List.set_cons_zero, List.set_cons_succ]
  refine held_take (i := 19) (d := 112) (oi := _) (v := ?_) rfl rfl (by kernel_rfl) (by kernel_rfl) (by kernel_rfl) (fun _ _ _ h => h) (Or.inl ⟨by rfl, ?_⟩) (by assumption) ?_
  rotate_left
  · (intro w hSw; (try dsimp only at hSw); go_simp; (try with_reducible rfl))
  simp only [Act.put, List.setIfInBounds_toArray, List.set_cons_zero, List.set_cons_succ]
  refine held_take (i := 20) (d := 113) (oi := _) (v := ?_) rfl rfl (by kernel_rfl) (by kernel_rfl) (by kernel_rfl) (fun _ _ _ h => h) (Or.inl ⟨by rfl, ?_⟩) (by assumption) ?_
  rotate_left
  · (intro w hSw; (try dsimp only at hSw); go_simp; (try with_reducible rfl))
  simp only [Act.put, List.setIfInBounds_toArray, List.set_cons_zero, List.set_cons_succ]
  refine held_take (i := 21) (d := 114) (oi := _) (v := ?_) rfl rfl (by kernel_rfl) (by kernel_rfl) (by kernel_rfl) (fun _ _ _ h => h) (Or.inl ⟨by rfl, ?_⟩) (by assumption) ?_
  rotate_left
  · (intro w hSw; (try dsimp only at hSw); go_simp; (try with_reducible rfl))
  simp only [Act.put, List.setIfInBounds_toArray, List.set_cons_zero, List.set_cons_succ]
  refine held_take (i := 22) (d := 115) (oi := _) (v := ?_) rfl rfl (by kernel_rfl) (by kernel_rfl) (by kernel_rfl) (fun _ _ _ h => h) (Or.inl ⟨by rfl, ?_⟩) (by assumption) ?_
  rotate_left
  · (intro w hSw; (try dsimp only at hSw); go_simp; (try with_reducible rfl))
  simp only [Act.put, List.setIfInBounds_toArray, List.set_cons_zero, List.set_cons_succ]
  refine held_take (i := 23) (d := 116) (oi := _) (v := ?_) rfl rfl (by kernel_rfl) (by kernel_rfl) (by kernel_rfl) (fun _ _ _ h => h) (Or.inl ⟨by rfl, ?_⟩) (by assumption) ?_
  rotate_left
  · (intro w hSw; (try dsimp only at hSw); go_simp; (try with_reducible rfl))
  simp only [Act.put, List.setIfInBounds_toArray, List.set_cons_zero, List.set_cons_succ]
  refine held_take (i := 24) (d := 117) (oi := _) (v := ?_) rfl rfl (by kernel_rfl) (by kernel_rfl) (by kernel_rfl) (fun _ _ _ h => h) (Or.inl ⟨by rfl, ?_⟩) (by assumption) ?_
  rotate_left
  · (intro w hSw; (try dsimp only at hSw); go_simp; (try with_reducible rfl))
  simp only [Act.put, List.setIfInBounds_toArray, List.set_cons_zero, List.set_cons_succ]
  refine held_take (i := 26) (d := 119) (oi := _) (v := ?_) rfl rfl (by kernel_rfl) (by kernel_rfl) (by kernel_rfl) (fun _ _ _ h => h) (Or.inl ⟨by rfl, ?_⟩) (by assumption) ?_
  rotate_left
  · (intro w hSw; (try dsimp only at hSw); go_simp; (try with_reducible rfl))
  simp only [Act.put, List.setIfInBounds_toArray, List.set_cons_zero, List.set_cons_succ]
  refine wpAnyH_ready (rs := [25]) (by kernel_rfl) (by simp) ?_
  refine AllReadyH.cons rfl (fun K hK => ?_) AllReadyH.nil
  go_simp
  go_wp2_with (go_at_call 12; ((with_reducible refine (counts_none wd).mono ?_)); rintro e' x1 ⟨rfl, hb1⟩)
  refine hK.out _ _ ?_ (fun hH1 => ?_)
  · exact keepW hb1 hH0
  clear hK K hH0
  have E1 := Lib.hid (D14.out.keep hb1)
  clear hb1 D14
  refine held_take (i := 27) (d := 120) (oi := _) (v := ?_) rfl rfl (by kernel_rfl) (by kernel_rfl) (by kernel_rfl) (fun _ _ _ h => h) (Or.inl ⟨by rfl, ?_⟩) (by assumption) ?_
  rotate_left
  · (intro w hSw; (try dsimp only at hSw); go_simp; (try with_reducible rfl))
  simp only [Act.put, List.setIfInBounds_toArray, List.set_cons_zero, List.set_cons_succ]
  refine held_take (i := 28) (d := 121) (oi := _) (v := ?_) rfl rfl (by kernel_rfl) (by kernel_rfl) (by kernel_rfl) (fun _ _ _ h => h) (Or.inl ⟨by rfl, ?_⟩) (by assumption) ?_
  rotate_left
  · (intro w hSw; (try dsimp only at hSw); go_simp; (try with_reducible rfl))
  simp only [Act.put, List.setIfInBounds_toArray, List.set_cons_zero, List.set_cons_succ]
  refine held_take (i := 29) (d := 122) (oi := _) (v := ?_) rfl rfl (by kernel_rfl) (by kernel_rfl) (by kernel_rfl) (fun _ _ _ h => h) (Or.inl ⟨by rfl, ?_⟩) (by assumption) ?_
  rotate_left
  · (intro w hSw; (try dsimp only at hSw); go_simp; (try with_reducible rfl))
  simp only [Act.put, List.setIfInBounds_toArray, List.set_cons_zero, List.set_cons_succ]
  refine held_take (i := 30) (d := 123) (oi := _) (v := ?_) rfl rfl (by kernel_rfl) (by kernel_rfl) (by kernel_rfl) (fun _ _ _ h => h) (Or.inl ⟨by rfl, ?_⟩) (by assumption) ?_
  rotate_left
  · (intro w hSw; (try dsimp only at hSw); go_simp; (try with_reducible rfl))
  simp only [Act.put, List.setIfInBounds_toArray, List.set_cons_zero, List.set_cons_succ]
  refine held_take (i := 32) (d := 125) (oi := _) (v := ?_) rfl rfl (by kernel_rfl) (by kernel_rfl) (by kernel_rfl) (fun _ _ _ h => h) (Or.inl ⟨by rfl, ?_⟩) (by assumption) ?_
  rotate_left
  · (intro w hSw; (try dsimp only at hSw); go_simp; (try with_reducible rfl))
  simp only [Act.put, List.setIfInBounds_toArray, List.set_cons_zero, List.set_cons_succ]
  have CM := Lib.hid (counts_mt x1 M _ _ _ _ E1.out.2.1)
  refine wpAnyH_ready (rs := [31]) (by kernel_rfl) (by simp) ?_
  refine AllReadyH.cons rfl (fun K hK => ?_) AllReadyH.nil
  go_simp
  go_wp2_with (go_at_call 12; ((with_reducible refine CM.out.mono ?_)); rintro e' x2 ⟨rfl, hb2⟩)
  refine hK.out _ _ ?_ (fun hH2 => ?_)
  · exact keepW hb2 hH1
  clear hK K hH1
  have E2 := Lib.hid (E1.out.keep hb2)
  clear hb2 E1
  refine held_take (i := 33) (d := 126) (oi := _) (v := ?_) rfl rfl (by kernel_rfl) (by kernel_rfl) (by kernel_rfl) (fun _ _ _ h => h) (Or.inl ⟨by rfl, ?_⟩) (by assumption) ?_
  rotate_left
  · (intro w hSw; (try dsimp only at hSw); go_simp; (try with_reducible rfl))
  simp only [Act.put, List.setIfInBounds_toArray, List.set_cons_zero, List.set_cons_succ]
  refine held_take (i := 34) (d := 127) (oi := _) (v := ?_) rfl rfl (by kernel_rfl) (by kernel_rfl) (by kernel_rfl) (fun _ _ _ h => h) (Or.inl ⟨by rfl, ?_⟩) (by assumption) ?_
  rotate_left
  · (intro w hSw; (try dsimp only at hSw); go_simp; (try with_reducible rfl))
  simp only [Act.put, List.setIfInBounds_toArray, List.set_cons_zero, List.set_cons_succ]
  refine held_take (i := 35) (d := 128) (oi := _) (v := ?_) rfl rfl (by kernel_rfl) (by kernel_rfl) (by kernel_rfl) (fun _ _ _ h => h) (Or.inl ⟨by rfl, ?_⟩) (by assumption) ?_
  rotate_left
  · (intro w hSw; (try dsimp only at hSw); go_simp; (try with_reducible rfl))
  simp only [Act.put, List.setIfInBounds_toArray, List.set_cons_zero, List.set_cons_succ]
  refine held_take (i := 36) (d := 129) (oi := _) (v := ?_) rfl rfl (by kernel_rfl) (by kernel_rfl) (by kernel_rfl) (fun _ _ _ h => h) (Or.inl ⟨by rfl, ?_⟩) (by assumption) ?_
  rotate_left
  · (intro w hSw; (try dsimp only at hSw); go_simp; (try with_reducible rfl))
  simp only [Act.put, List.setIfInBounds_toArray, List.set_cons_zero, List.set_cons_succ]
  refine held_take (i := 38) (d := 131) (oi := _) (v := ?_) rfl rfl (by kernel_rfl) (by kernel_rfl) (by kernel_rfl) (fun _ _ _ h => h) (Or.inl ⟨by rfl, ?_⟩) (by assumption) ?_
  rotate_left
  · (intro w hSw; (try dsimp only at hSw); go_simp; (try with_reducible rfl))
  simp only [Act.put, List.setIfInBounds_toArray, List.set_cons_zero, List.set_cons_succ]
  refine held_take (i := 39) (d := 132) (oi := _) (v := ?_) rfl rfl (by kernel_rfl) (by kernel_rfl) (by kernel_rfl) (fun _ _ _ h => h) (Or.inl ⟨by rfl, ?_⟩) (by assumption) ?_
  rotate_left
  · (intro w hSw; (try dsimp only at hSw); go_simp; (try with_reducible rfl))
  simp only [Act.put, List.setIfInBounds_toArray, List.set_cons_zero, List.set_cons_succ]
  refine held_take (i := 40) (d := 133) (oi := _) (v := ?_) rfl rfl (by kernel_rfl) (by kernel_rfl) (by kernel_rfl) (fun _ _ _ h => h) (Or.inl ⟨by rfl, ?_⟩) (by assumption) ?_
  rotate_left
  · (intro w hSw; (try dsimp only at hSw); go_simp; (try with_reducible rfl))
  simp only [Act.put, List.setIfInBounds_toArray, List.set_cons_zero, List.set_cons_succ]
  refine held_take (i := 41) (d := 134) (oi := _) (v := ?_) rfl rfl (by kernel_rfl) (by kernel_rfl) (by kernel_rfl) (fun _ _ _ h => h) (Or.inl ⟨by rfl, ?_⟩) (by assumption) ?_
  rotate_left
  · (intro w hSw; (try dsimp only at hSw); go_simp; (try with_reducible rfl))
  simp only [Act.put, List.setIfInBounds_toArray, List.set_cons_zero, List.set_cons_succ]
  have CO := Lib.hid (counts_mt x2 O _ _ _ _ E2.out.2.2)
  refine wpAnyH_ready (rs := [37]) (by kernel_rfl) (by simp) ?_
  refine AllReadyH.cons rfl (fun K hK => ?_) AllReadyH.nil
  go_simp
  go_wp2_with (go_at_call 12; ((with_reducible refine CO.out.mono ?_)); rintro e' x3 ⟨rfl, hb3⟩)
  refine hK.out _ _ ?_ (fun hH3 => ?_)
  · exact keepW hb3 hH2
  clear hK K hH2
  have E3 := Lib.hid (E2.out.keep hb3)
  clear hb3 E2
  refine held_take (i := 42) (d := 135) (oi := _) (v := ?_) rfl rfl (by kernel_rfl) (by kernel_rfl) (by kernel_rfl) (fun _ _ _ h => h) (Or.inl ⟨by rfl, ?_⟩) (by assumption) ?_
  rotate_left
  · (intro w hSw; (try dsimp only at hSw); go_simp; (try with_reducible rfl))
  simp only [Act.put, List.setIfInBounds_toArray, List.set_cons_zero, List.set_cons_succ]
  refine held_take (i := 43) (d := 136) (oi := _) (v := ?_) rfl rfl (by kernel_rfl) (by kernel_rfl) (by kernel_rfl) (fun _ _ _ h => h) (Or.inl ⟨by rfl, ?_⟩) (by assumption) ?_
  rotate_left
  · (intro w hSw; (try dsimp only at hSw); go_simp; (try with_reducible rfl))
  simp only [Act.put, List.setIfInBounds_toArray, List.set_cons_zero, List.set_cons_succ]
  refine held_take (i := 44) (d := 137) (oi := _) (v := ?_) rfl rfl (by kernel_rfl) (by kernel_rfl) (by kernel_rfl) (fun _ _ _ h => h) (Or.inl ⟨by rfl, ?_⟩) (by assumption) ?_
  rotate_left
  · (intro w hSw; (try dsimp only at hSw); go_simp; (try with_reducible rfl))
  simp only [Act.put, List.setIfInBounds_toArray, List.set_cons_zero, List.set_cons_succ]
  refine held_take (i := 45) (d := 138) (oi := _) (v := ?_) rfl rfl (by kernel_rfl) (by kernel_rfl) (by kernel_rfl) (fun _ _ _ h => h) (Or.inl ⟨by rfl, ?_⟩) (by assumption) ?_
  rotate_left
  · (intro w hSw; (try dsimp only at hSw); go_simp; (try with_reducible rfl))
  simp only [Act.put, List.setIfInBounds_toArray, List.set_cons_zero, List.set_cons_succ]
  refine held_take (i := 46) (d := 139) (oi := _) (v := ?_) rfl rfl (by kernel_rfl) (by kernel_rfl) (by kernel_rfl) (fun _ _ _ h => h) (Or.inl ⟨by rfl, ?_⟩) (by assumption) ?_
  rotate_left
  · (intro w hSw; (try dsimp only at hSw); go_simp; (try with_reducible rfl))
  simp only [Act.put, List.setIfInBounds_toArray, List.set_cons_zero, List.set_cons_succ]
  refine held_take (i := 47) (d := 140) (oi := _) (v := ?_) rfl rfl (by kernel_rfl) (by kernel_rfl) (by kernel_rfl) (fun _ _ _ h => h) (Or.inl ⟨by rfl, ?_⟩) (by assumption) ?_
  rotate_left
  · (intro w hSw; (try dsimp only at hSw); go_simp; (try with_reducible rfl))
  simp only [Act.put, List.setIfInBounds_toArray, List.set_cons_zero, List.set_cons_succ]
  refine held_take (i := 48) (d := 141) (oi := _) (v := ?_) rfl rfl (by kernel_rfl) (by kernel_rfl) (by kernel_rfl) (fun _ _ _ h => h) (Or.inl ⟨by rfl, ?_⟩) (by assumption) ?_
  rotate_left
  · (intro w hSw; (try dsimp only at hSw); go_simp; (try with_reducible rfl))
  simp only [Act.put, List.setIfInBounds_toArray, List.set_cons_zero, List.set_cons_succ]
  refine held_take (i := 49) (d := 142) (oi := _) (v := ?_) rfl rfl (by kernel_rfl) (by kernel_rfl) (by kernel_rfl) (fun _ _ _ h => h) (Or.inl ⟨by rfl, ?_⟩) (by assumption) ?_
  rotate_left
  · (intro w hSw; (try dsimp only at hSw); go_simp; (try with_reducible rfl))
  simp only [Act.put, List.setIfInBounds_toArray, List.set_cons_zero, List.set_cons_succ]
  refine held_take (i := 50) (d := 143) (oi := _) (v := ?_) rfl rfl (by kernel_rfl) (by kernel_rfl) (by kernel_rfl) (fun _ _ _ h => h) (Or.inl ⟨by rfl, ?_⟩) (by assumption) ?_
  rotate_left
  · (intro w hSw; (try dsimp only at hSw); go_simp; (try with_reducible rfl))
  simp only [Act.put, List.setIfInBounds_toArray, List.set_cons_zero, List.set_cons_succ]
  refine held_take (i := 51) (d := 144) (oi := _) (v := ?_) rfl rfl (by kernel_rfl) (by kernel_rfl) (by kernel_rfl) (fun _ _ _ h => h) (Or.inl ⟨by rfl, ?_⟩) (by assumption) ?_
  rotate_left
  · (intro w hSw; (try dsimp only at hSw); go_simp; (try with_reducible rfl))
  simp only [Act.put, List.setIfInBounds_toArray, List.set_cons_zero, List.set_cons_succ]
  refine held_take (i := 52) (d := 145) (oi := _) (v := ?_) rfl rfl (by kernel_rfl) (by kernel_rfl) (by kernel_rfl) (fun _ _ _ h => h) (Or.inl ⟨by rfl, ?_⟩) (by assumption) ?_
  rotate_left
  · (intro w hSw; (try dsimp only at hSw); go_simp; (try with_reducible rfl))
  simp only [Act.put, List.setIfInBounds_toArray, List.set_cons_zero, List.set_cons_succ]
  refine held_take (i := 53) (d := 146) (oi := _) (v := ?_) rfl rfl (by kernel_rfl) (by kernel_rfl) (by kernel_rfl) (fun _ _ _ h => h) (Or.inl ⟨by rfl, ?_⟩) (by assumption) ?_
  rotate_left
  · (intro w hSw; (try dsimp only at hSw); go_simp; (try with_reducible rfl))
  simp only [Act.put, List.setIfInBounds_toArray, List.set_cons_zero, List.set_cons_succ]
  refine held_take (i := 54) (d := 147) (oi := _) (v := ?_) rfl rfl (by kernel_rfl) (by kernel_rfl) (by kernel_rfl) (fun _ _ _ h => h) (Or.inl ⟨by rfl, ?_⟩) (by assumption) ?_
  rotate_left
  · (intro w hSw; (try dsimp only at hSw); go_simp; (try with_reducible rfl))
  simp only [Act.put, List.setIfInBounds_toArray, List.set_cons_zero, List.set_cons_succ]
  refine held_take (i := 55) (d := 10) (oi := _) (v := ?_) rfl rfl (by kernel_rfl) (by kernel_rfl) (by kernel_rfl) (fun _ _ _ h => h) (Or.inl ⟨by rfl, ?_⟩) (by assumption) ?_
  rotate_left
  · (intro w hSw; (try dsimp only at hSw); go_simp; (try with_reducible rfl))
  simp only [Act.put, List.setIfInBounds_toArray, List.set_cons_zero, List.set_cons_succ]
  refine wpAnyH_done (by kernel_rfl) ?_ _
  go_wp2
  go_ret
  have h4 := HSZ.out
  exact ⟨rfl, by rw [HGQ.out]; exact HBW.out.trans (E3.out.1.mono (by omega))⟩
end Go.Proofs.Yteadlgmajakomaa.meterApart
