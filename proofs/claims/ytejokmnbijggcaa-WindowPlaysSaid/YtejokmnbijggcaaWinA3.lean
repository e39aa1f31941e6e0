/- A window; what widen answers. -/
import Derived.Test.YtejokmnbijggcaaWinA2
namespace Go.Proofs.Ytejokmnbijggcaa.Win
open Go.Proofs.Ytejokmnbijggcaa.Stm Go.Proofs.Ytejokmnbijggcaa.Reg Go.RowKit Go.Maps
set_option maxRecDepth 100000
set_option linter.unusedVariables false
/-- What widen gives: room for so many bytes. -/
def GivesWide (w : World) (g : Nat) (d : Option Nat) (mp : Option Addr) (held : Stm.Tx) (room need : Nat) (s l hu mv : Int) (e : Ending) (w' : World) : Prop :=
  e = .returned (.tuple #[]) ∧ ∃ d' room', (d' = d ∨ ∃ k, d' = some k ∧ w.heap.size ≤ k) ∧ room' = (if room < need then grown room need else room) ∧ Wd w' g d' mp held room' ∧
    Met.Mt w' mp s l hu (mv + ((if room < need then held.length else 0 : Nat) : Int)) ∧ Touch w w' g d mp
theorem widen_small (w : World) (g : Nat) (d : Option Nat) (mp : Option Addr) (held : Stm.Tx) (room : Nat) (h : Wd w g d mp held room) (need : Nat) (hn : ¬ room < need) (s l hu mv : Int) (hM : Met.Mt w mp s l hu mv) :
    Calls Try.prog 19 #[.pointer (some ⟨g, 0, none⟩), .int .i64 (need : Int)] w (GivesWide w g d mp held room need s l hu mv) := by
  have hlt := h.lt.1
  obtain ⟨c0, c1, c2⟩ := Blk3.cells h.1
  have H := Lib.hid h
  have HM := Lib.hid hM
  have hle : decide ((need : Int) ≤ (room : Int)) = true := by rw [decide_eq_true_iff]; omega
  clear h hM
  go_enter Try.func19, Try.ntmps19
  go_wp2
  refine bodyPost_ret (v := .tuple #[]) (by simp [results, Try.results19, go_sem]) rfl ?_
  refine ⟨rfl, d, room, Or.inl rfl, by rw [if_neg hn], H.out, ?_, Touch.of_below (Below.refl _ _)⟩
  rw [if_neg hn]
  simpa using HM.out
theorem widen_big (w : World) (g : Nat) (d : Option Nat) (mp : Option Addr) (held : Stm.Tx) (room : Nat) (h : Wd w g d mp held room) (hr : room ≤ 1000000000) (need : Nat) (hn : room < need) (hz : need ≤ 2000000000) (s l hu mv : Int) (hM : Met.Mt w mp s l hu mv)
    (hs : 0 ≤ s ∧ s ≤ 1000000000000) (hl' : 0 ≤ l ∧ l ≤ 1000000000000) (hh : 0 ≤ hu ∧ hu ≤ 1000000000000) (hm : 0 ≤ mv ∧ mv ≤ 1000000000000) (hmp : ∀ k, Met.blk mp = some k → k ≠ g ∧ d ≠ some k) :
    Calls Try.prog 19 #[.pointer (some ⟨g, 0, none⟩), .int .i64 (need : Int)] w (GivesWide w g d mp held room need s l hu mv) := by
  have hlt := h.lt.1
  obtain ⟨c0, c1, c2⟩ := Blk3.cells h.1
  have H := Lib.hid h
  have HM := Lib.hid hM
  have hle : decide ((need : Int) ≤ (room : Int)) = false := by rw [decide_eq_false_iff_not]; omega
  have q2 : IntKind.i64.wrap (2 * (room : Int)) = 2 * (room : Int) := IntWalk.i64_in _ (by omega)
  have hf := h.fits
  obtain ⟨N, HN⟩ : ∃ N, Hid (N = grown room need) := ⟨_, Lib.hid rfl⟩
  have hN : (N : Int) = max (max (2 * (room : Int)) (need : Int)) 16 := by rw [HN.out]; unfold grown; omega
  have HNI : Hid ((if (if 2 * (room : Int) < (need : Int) then (need : Int) else 2 * (room : Int)) < 16 then 16 else if 2 * (room : Int) < (need : Int) then (need : Int) else 2 * (room : Int)) = (N : Int)) := Lib.hid (by rw [hN]; split <;> split <;> omega)
  have hNz : N ≤ 10000000000 := by omega
  have hNh : held.length ≤ N := by omega
  clear hN
  clear h hM
  go_enter Try.func19, Try.ntmps19
  go_wp2_with (first
    | (at_make; refine make_list rfl (.tmp 19) (.tmp 19) rfl N (congrArg (Value.int .i64) HNI.out) (congrArg (Value.int .i64) HNI.out) hNz ?_; rw [HNI.out]; intro w1 hr1 hb1; have HR1 := Lib.hid hr1; have HB1 := Lib.hid hb1; have HC : Hid (w1.drew.cell? ⟨g, 0, none⟩ = some (.pointer mp)) := Lib.hid ((hb1.cell (p := ⟨g, 0, none⟩) hlt).trans c0); clear hr1 hb1))
  refine wp_region_held_drew (S := fun w' => w'.cell? ⟨g, 0, none⟩ = some (.pointer mp)) (by kernel_rfl) HC.out (fun hH0 => ?_)
  have B0 := Lib.hid (below_drews HB1.out 1)
  have R0 := Lib.hid (HR1.out.same (W' := w1.drew) rfl)
  change Hid (Below _ _ w1.drew) at B0
  change Hid (Row w1.drew _ _) at R0
  generalize w1.drew = x0 at *
  refine held_take (i := 0) (d := 21) (oi := _) (v := ?_) rfl rfl (by kernel_rfl) (by kernel_rfl) (by kernel_rfl) (fun _ _ _ h => h) (Or.inl ⟨by rfl, ?_⟩) (by assumption) ?_
  rotate_left
  · (intro w hSw; go_simp; (try with_reducible rfl))
  simp only [Act.put, List.setIfInBounds_toArray, List.set_cons_zero, List.set_cons_succ]
  refine held_take (i := 1) (d := 22) (oi := _) (v := ?_) rfl rfl (by kernel_rfl) (by kernel_rfl) (by kernel_rfl) (fun _ _ _ h => h) (Or.inl ⟨by rfl, ?_⟩) (by assumption) ?_
  rotate_left
  · (intro w hSw; go_simp; (try with_reducible rfl))
  simp only [Act.put, List.setIfInBounds_toArray, List.set_cons_zero, List.set_cons_succ]
  refine held_take (i := 2) (d := 23) (oi := _) (v := ?_) rfl rfl (by kernel_rfl) (by kernel_rfl) (by kernel_rfl) (fun _ _ _ h => h) (Or.inl ⟨by rfl, ?_⟩) (by assumption) ?_
  rotate_left
  · (intro w hSw; go_simp; (try with_reducible rfl))
  simp only [Act.put, List.setIfInBounds_toArray, List.set_cons_zero, List.set_cons_succ]
  refine held_take (i := 3) (d := 24) (oi := _) (v := ?_) rfl rfl (by kernel_rfl) (by kernel_rfl) (by kernel_rfl) (fun _ _ _ h => h) (Or.inl ⟨by rfl, ?_⟩) (by assumption) ?_
  rotate_left
  · (intro w hSw; go_simp; (try with_reducible rfl))
  simp only [Act.put, List.setIfInBounds_toArray, List.set_cons_zero, List.set_cons_succ]
  refine held_take (i := 4) (d := 25) (oi := _) (v := ?_) rfl rfl (by kernel_rfl) (by kernel_rfl) (by kernel_rfl) (fun _ _ _ h => h) (Or.inl ⟨by rfl, ?_⟩) (by assumption) ?_
  rotate_left
  · (intro w hSw; go_simp; (try with_reducible rfl))
  simp only [Act.put, List.setIfInBounds_toArray, List.set_cons_zero, List.set_cons_succ]
  refine held_take (i := 5) (d := 26) (oi := _) (v := ?_) rfl rfl (by kernel_rfl) (by kernel_rfl) (by kernel_rfl) (fun _ _ _ h => h) (Or.inl ⟨by rfl, ?_⟩) (by assumption) ?_
  rotate_left
  · (intro w hSw; go_simp; (try with_reducible rfl))
  simp only [Act.put, List.setIfInBounds_toArray, List.set_cons_zero, List.set_cons_succ]
  refine wpAnyH_ready (rs := [6]) (by kernel_rfl) (by simp) ?_
  refine AllReadyH.cons rfl (fun K hK => ?_) AllReadyH.nil
  go_simp
  go_wp2_with (go_at_call 22; (with_reducible refine (wheld_any x0 g d mp held room (H.out.keep B0.out) (by omega)).mono ?_); rintro e x1 ⟨rfl, q, hq⟩; have HQ := Lib.hid hq; clear hq)
  have B1 : Hid (Below w.heap.size w x1) := Lib.hid (by rw [HQ.out]; exact below_drews B0.out q)
  have R1 : Hid (Row x1 w.heap.size (List.replicate N 0)) := Lib.hid (R0.out.same (by rw [HQ.out]; rfl))
  have hH1 : x1.cell? ⟨g, 0, none⟩ = some (.pointer mp) := (B1.out.cell (p := ⟨g, 0, none⟩) hlt).trans c0
  refine hK.out _ _ hH1 (fun _ => ?_)
  clear hK K hH0 B0 R0 HQ
  refine wpAnyH_ready (rs := [7]) (by kernel_rfl) (by simp) ?_
  refine AllReadyH.cons rfl (fun K hK => ?_) AllReadyH.nil
  go_simp
  go_wp2_with (go_at_call 20; (with_reducible refine (copy_fit x1 mp (some ⟨w.heap.size, 0, none⟩) N N w.heap.size 0 (List.replicate N 0) _ held held.length x1.heap.size (H.out.keep B1.out).bs (by omega) (by omega) (fun _ => ⟨rfl, R1.out, by rw [List.length_replicate]; omega⟩) s l hu mv (HM.out.keep B1.out) hs hl' hh hm).mono ?_); rintro e x2 ⟨rfl, hr2, hm2, y, r, h1, h2, h3⟩; have HR2 := Lib.hid hr2; have HM2 := Lib.hid hm2; have H1 := Lib.hid h1; have H2 := Lib.hid h2; have H3 := Lib.hid h3; clear hr2 hm2 h1 h2 h3)
  have h2 := H.out.1
  have hgr : Met.blk mp ≠ some g := fun e => (hmp g e).1 rfl
  have E2 : x2.heap[g]? = w.heap[g]? := by
    have e1 := B1.out.block g hlt
    have e2 := H2.out.block g (Nat.lt_of_lt_of_le hlt B1.out.size) (fun e => by have := (H1.out g e.symm).1; omega)
    have e3 := H3.out.block g (Nat.lt_of_lt_of_le hlt (Nat.le_trans B1.out.size H2.out.size)) (fun e => hgr e.symm)
    exact e3.trans (e2.trans e1)
  have b2 : Blk3 x2 g 48 (.pointer mp) (rowOf d room) (.int .i64 (held.length : Int)) := h2.same' E2
  have hR : Row x2 w.heap.size (put (List.replicate N 0) 0 held) := by
    rcases Nat.eq_zero_or_pos held.length with e | e
    · have e' : held = [] := List.eq_nil_of_length_eq_zero e
      subst e'
      refine (R1.out.same ((H3.out.block _ (Nat.lt_of_lt_of_le R1.out.lt H2.out.size) (fun e => by have := HM.out.lt e; omega)).trans (H2.out.block _ R1.out.lt (fun e => by have := (H1.out _ e.symm).2; simp at this))))
    · exact HR2.out e
  have hT : Touch w x2 g d mp := ((Touch.of_below B1.out).trans (Touch.of_grown (d := some w.heap.size) H2.out (fun k e _ => Or.inr (Or.inl (by rw [(H1.out k e).1])))) (Or.inr ⟨_, rfl, Nat.le_refl _⟩)).trans (Touch.of_grown (d := d) H3.out (fun k e _ => Or.inr (Or.inr e))) (Or.inl rfl)
  have HB2 := Lib.hid b2
  have HR := Lib.hid hR
  have HT := Lib.hid hT
  have HE2 := Lib.hid E2
  obtain ⟨d0, d1, d2⟩ := Blk3.cells b2
  obtain ⟨f0, f1, f2⟩ := Blk3.free b2
  clear h2 hR hT E2 b2 HR2 H1 H2 H3
  refine hK.out _ _ d0 (fun _ => ?_)
  clear hK K hH1
  refine wpAnyH_done (by kernel_rfl) ?_ _
  go_wp2
  go_end0
  have hne : w.heap.size ≠ g := by omega
  have hl0 : 0 + held.length ≤ (List.replicate N (0 : UInt8)).length := by rw [List.length_replicate]; omega
  have hp1 := put_length hl0
  have hp2 := put_take hl0
  rw [List.length_replicate] at hp1
  rw [Nat.zero_add, List.take_zero, List.nil_append] at hp2
  refine ⟨rfl, some w.heap.size, N, Or.inr ⟨_, rfl, Nat.le_refl _⟩, by rw [if_pos hn]; exact HN.out, ⟨?_, (fun e => by cases e), hNh, put (List.replicate N 0) 0 held, hp1, hp2, fun k hk => by cases hk; exact ⟨hne, HR.out.same (Below.heap_setCell _ _ _ _ hne)⟩⟩, ?_, HT.out.trans (Touch.of_grown (d := d) (Met.grown_set x2 g 1 _) (fun k e _ => Or.inl (by cases e; rfl))) (Or.inl rfl)⟩
  · have := HB2.out
    unfold Blk3 at this ⊢
    rw [heap_set_same this]
    rfl
  · rw [if_pos hn]
    exact HM2.out.same fun k hk => Below.heap_setCell _ _ _ _ (fun e => hgr (by rw [← hk, e]))
theorem widen_any (w : World) (g : Nat) (d : Option Nat) (mp : Option Addr) (held : Stm.Tx) (room : Nat) (h : Wd w g d mp held room) (hr : room ≤ 1000000000) (need : Nat) (hz : need ≤ 2000000000) (ni : Int) (hni : ni = (need : Int)) (s l hu mv : Int) (hM : Met.Mt w mp s l hu mv)
    (hs : 0 ≤ s ∧ s ≤ 1000000000000) (hl' : 0 ≤ l ∧ l ≤ 1000000000000) (hh : 0 ≤ hu ∧ hu ≤ 1000000000000) (hm : 0 ≤ mv ∧ mv ≤ 1000000000000) (hmp : ∀ k, Met.blk mp = some k → k ≠ g ∧ d ≠ some k) :
    Calls Try.prog 19 #[.pointer (some ⟨g, 0, none⟩), .int .i64 ni] w (GivesWide w g d mp held room need s l hu mv) := by
  subst hni
  by_cases hn : room < need
  · exact widen_big w g d mp held room h hr need hn hz s l hu mv hM hs hl' hh hm hmp
  · exact widen_small w g d mp held room h need hn s l hu mv hM
end Go.Proofs.Ytejokmnbijggcaa.Win
