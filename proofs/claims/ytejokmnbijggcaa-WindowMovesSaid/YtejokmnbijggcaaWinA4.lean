/- A window; what Add answers. -/
import Derived.Test.YtejokmnbijggcaaWinA3
namespace Go.Proofs.Ytejokmnbijggcaa.Win
open Go.Proofs.Ytejokmnbijggcaa.Stm Go.Proofs.Ytejokmnbijggcaa.Reg Go.RowKit Go.Maps
set_option maxRecDepth 100000
set_option linter.unusedVariables false
/-- What a call of Add gives. -/
def GivesAdd (w : World) (g : Nat) (d : Option Nat) (mp : Option Addr) (held : Stm.Tx) (room : Nat) (b : Stm.Tx) (s l hu mv : Int) (e : Ending) (w' : World) : Prop :=
  e = .returned (.tuple #[]) ∧ ∃ d', (d' = d ∨ ∃ k, d' = some k ∧ w.heap.size ≤ k) ∧ Wd w' g d' mp (held ++ b) ((Wn.mk held room 0).add b).room ∧ Met.Mt w' mp s l hu (mv + (((Wn.mk held room 0).add b).move : Int)) ∧ Touch w w' g d mp
theorem room_add (held b : Stm.Tx) (room : Nat) (h : held.length ≤ room) : ((Wn.mk held room 0).add b).room = (if room < held.length + b.length then grown room (held.length + b.length) else room) := by
  unfold Wn.add
  by_cases e : b = []
  · subst e; rw [if_pos rfl, if_neg (by simp only [List.length_nil]; omega)]
  · rw [if_neg e]; simp only; split <;> rfl
theorem move_add (held b : Stm.Tx) (room : Nat) (h : held.length ≤ room) : ((Wn.mk held room 0).add b).move = (if room < held.length + b.length then held.length else 0) + b.length := by
  unfold Wn.add
  by_cases e : b = []
  · subst e; rw [if_pos rfl, if_neg (by simp only [List.length_nil]; omega)]; simp
  · rw [if_neg e]; simp only; split <;> simp
theorem Touch.bs {W W' : World} {g : Nat} {d : Option Nat} {mp : Option Addr} (h : Touch W W' g d mp) {a : Option Addr} {b : Stm.Tx} {s l hu mv : Int} (hb : Bs W W.heap.size a b) (hne : 0 < b.length → ∀ ad : Addr, a = some ad → ad.block ≠ g ∧ d ≠ some ad.block) (hM : Met.Mt W mp s l hu mv) : Bs W' W'.heap.size a b := fun h0 => by
  obtain ⟨k, off, e, hlt, hc⟩ := hb h0
  obtain ⟨n1, n2⟩ := hne h0 _ e
  have hh := h.block k hlt n1 n2 (fun e' => hM.byte (hc 0 h0) e'.symm)
  refine ⟨k, off, e, Nat.lt_of_lt_of_le hlt h.size, fun i hi => ?_⟩
  rw [← hc i hi]
  unfold World.cell?
  rw [hh]
/-- What stands behind the bytes were copied. -/
structure Mid (w x : World) (g : Nat) (d : Option Nat) (mp : Option Addr) (d1 : Option Nat) (held : Stm.Tx) (room1 : Nat) (t b : Stm.Tx) (s l hu mv : Int) : Prop where
  mblk : Blk3 x g 48 (.pointer mp) (rowOf d1 room1) (.int .i64 (held.length : Int))
  mrows : ∀ k, d1 = some k → k ≠ g ∧ Row x k (put t held.length b)
  mmt : Met.Mt x mp s l hu mv
  mtouch : Touch w x g d mp
theorem mid_of {w x0 x1 : World} {g : Nat} {d : Option Nat} {mp : Option Addr} {d1 : Option Nat} {held : Stm.Tx} {room1 : Nat} {t b : Stm.Tx} {s l hu mv : Int} {e : Ending} (hT : Touch w x0 g d mp) (hd : d1 = d ∨ ∃ k, d1 = some k ∧ w.heap.size ≤ k)
    (hblk : Blk3 x0 g 48 (.pointer mp) (rowOf d1 room1) (.int .i64 (held.length : Int))) (hrow : ∀ k, d1 = some k → k ≠ g ∧ Row x0 k t) (hM : Met.Mt x0 mp s l hu mv) (hg : Met.blk mp ≠ some g) (hA : 0 < b.length → d1 = some (d1.getD 0))
    (h : GivesCopy x0 mp (d1.getD 0) held.length b t s l hu mv e x1) : e = .returned (.int .i64 (b.length : Int)) ∧ Mid w x1 g d mp d1 held room1 t b s l hu (mv + (b.length : Int)) := by
  obtain ⟨rfl, hr, hm, y, r, h1, h2, h3⟩ := h
  have hgl := hblk.lt
  have hrg : some g ≠ r := fun e => by
    obtain ⟨e1, e2⟩ := h1 g e.symm
    exact (hrow _ (hA e2)).1 e1.symm
  have E : x1.heap[g]? = x0.heap[g]? := (h3.block g (Nat.lt_of_lt_of_le hgl h2.size) (fun e => hg e.symm)).trans (h2.block g hgl hrg)
  refine ⟨rfl, hblk.same' E, fun k hk => ⟨(hrow k hk).1, ?_⟩, hm, ?_⟩
  · rcases Nat.eq_zero_or_pos b.length with e | e
    · have e' : b = [] := List.eq_nil_of_length_eq_zero e
      subst e'
      have hk' := (hrow k hk).2
      have ep : put t held.length [] = t := by simp [put]
      rw [ep]
      exact hk'.same ((h3.block k (Nat.lt_of_lt_of_le hk'.lt h2.size) (hM.not hk' (by decide))).trans (h2.block k hk'.lt (fun e => by have := (h1 k e.symm).2; simp at this)))
    · have hk0 := hA e
      rw [hk] at hk0
      have : d1.getD 0 = k := by rw [hk]; rfl
      rw [← this]
      exact hr e
  · exact (hT.trans (Touch.of_grown (d := d1) h2 (fun k e _ => Or.inr (Or.inl (by obtain ⟨e1, e2⟩ := h1 k e; rw [e1]; exact hA e2)))) hd).trans (Touch.of_grown (d := d) h3 (fun k e _ => Or.inr (Or.inr e))) (Or.inl rfl)
/-- And behind the new length was stored. -/
theorem Mid.stored {w x : World} {g : Nat} {d : Option Nat} {mp : Option Addr} {d1 : Option Nat} {held : Stm.Tx} {room room1 : Nat} {t b : Stm.Tx} {s l hu mv : Int} (hM : Mid w x g d mp d1 held room1 t b s l hu (mv + ((if room < held.length + b.length then held.length else 0 : Nat) : Int) + (b.length : Int))) (hd : d1 = d ∨ ∃ k, d1 = some k ∧ w.heap.size ≤ k)
    (hf : held.length ≤ room) (hrm : room1 = (if room < held.length + b.length then grown room (held.length + b.length) else room)) (hn : d1 = none → room1 = 0) (hfit : held.length + b.length ≤ room1) (ht : t.length = room1) (htk : t.take held.length = held) (hg : Met.blk mp ≠ some g) :
    GivesAdd w g d mp held room b s l hu mv (.returned (.tuple #[])) (x.setCell ⟨g, 2, none⟩ (.int .i64 ((held.length : Int) + (b.length : Int)))) := by
  refine ⟨rfl, d1, hd, ?_, ?_, hM.mtouch.trans (Touch.of_grown (d := d) (Met.grown_set x g 2 _) (fun k e _ => Or.inl (by cases e; rfl))) (Or.inl rfl)⟩
  · rw [room_add held b room hf, ← hrm]
    have hl0 : held.length + b.length ≤ t.length := by omega
    have hp2 := put_take hl0
    rw [htk] at hp2
    refine ⟨?_, hn, by rw [List.length_append]; exact hfit, put t held.length b, (put_length hl0).trans ht, by rw [List.length_append]; exact hp2, fun k hk => ⟨(hM.mrows k hk).1, (hM.mrows k hk).2.same (Below.heap_setCell _ _ _ _ (hM.mrows k hk).1)⟩⟩
    have := hM.mblk
    unfold Blk3 at this ⊢
    rw [heap_set_same this, List.length_append, Int.natCast_add]
    rfl
  · rw [move_add held b room hf, Int.natCast_add, ← Int.add_assoc]
    exact hM.mmt.same fun k hk => Below.heap_setCell _ _ _ _ (fun e => hg (by rw [← hk, e]))
theorem slice_from (d : Option Nat) (room n : Nat) (hn : n ≤ room) (h : d = none → room = 0) (hr : room ≤ 10000000000) (w : World) : (Instr.slice 31 (rowOf d room) (some (.int .i64 (n : Int))) none none).run Try.prog w = .ok (.slice (d.map fun k => ⟨k, if room = n then 0 else n, none⟩) (room - n) (room - n)) w := by
  rcases d with _ | k
  · have := h rfl
    subst this
    have : n = 0 := by omega
    subst this
    go_simp
  · go_simp
    split <;> rfl
/-- A cell beside the one that is stored to. -/
theorem cell_other (w : World) (g i j : Nat) (v : Value) (h : i ≠ j) : (w.setCell ⟨g, i, none⟩ v).cell? ⟨g, j, none⟩ = w.cell? ⟨g, j, none⟩ :=
  World.cell?_setCell_other _ _ _ _ (fun e => h (by injection e))
set_option maxHeartbeats 4000000 in
theorem wadd_any (w : World) (g : Nat) (d : Option Nat) (mp : Option Addr) (held : Stm.Tx) (room : Nat) (h : Wd w g d mp held room) (b : Stm.Tx) (a : Option Addr) (c : Nat) (hb : Bs w w.heap.size a b) (hne : 0 < b.length → ∀ ad : Addr, a = some ad → ad.block ≠ g ∧ d ≠ some ad.block)
    (hr : room ≤ 1000000000) (hl : b.length ≤ 1000000000) (s l hu mv : Int) (hM : Met.Mt w mp s l hu mv) (hs : 0 ≤ s ∧ s ≤ 1000000000000) (hl' : 0 ≤ l ∧ l ≤ 1000000000000) (hh : 0 ≤ hu ∧ hu ≤ 1000000000000) (hm : 0 ≤ mv ∧ mv ≤ 900000000000)
    (hmp : ∀ k, Met.blk mp = some k → k ≠ g ∧ d ≠ some k) :
    Calls Try.prog 13 #[.pointer (some ⟨g, 0, none⟩), .slice a b.length c] w (GivesAdd w g d mp held room b s l hu mv) := by
  have hlt := h.lt.1
  have hf := h.fits
  obtain ⟨c0, c1, c2⟩ := Blk3.cells h.1
  have H := Lib.hid h
  have HM := Lib.hid hM
  have HB := Lib.hid hb
  have HNE := Lib.hid hne
  have q1 : IntKind.i64.wrap ((held.length : Int) + (b.length : Int)) = (held.length : Int) + (b.length : Int) := IntWalk.i64_in _ (by omega)
  clear h hM hb hne
  go_enter Try.func13, Try.ntmps13
  go_wp2_with (go_at_call 19; (with_reducible refine (widen_any w g d mp held room H.out hr (held.length + b.length) (by omega) ((held.length : Int) + (b.length : Int)) (Int.natCast_add _ _).symm s l hu mv HM.out hs hl' hh (by omega) hmp).mono ?_); rintro e w1 ⟨rfl, d1, room1, h1, h2, h3, h4, h5⟩; have H1 := Lib.hid h1; have H2 := Lib.hid h2; have H3 := Lib.hid h3; have H4 := Lib.hid h4; have H5 := Lib.hid h5; clear h1 h2 h3 h4 h5)
  obtain ⟨hblk, hnr, hf1, t, htl, htk, hrow⟩ := H3.out
  have HNR := Lib.hid hnr
  have HTL := Lib.hid htl
  have HTK := Lib.hid htk
  have hr1 : room1 ≤ 10000000000 := by rw [H2.out]; unfold grown; split <;> omega
  have hfit : held.length + b.length ≤ room1 := by rw [H2.out]; unfold grown; split <;> omega
  have hgr : Met.blk mp ≠ some g := fun e => (hmp g e).1 rfl
  obtain ⟨A, HAE⟩ : ∃ A : Option Addr, Hid (A = d1.map fun k => ⟨k, if room1 = held.length then 0 else held.length, none⟩) := ⟨_, Lib.hid rfl⟩
  have HSL : Hid (∀ w : World, (Instr.slice 31 (rowOf d1 room1) (some (.int .i64 (held.length : Int))) none none).run Try.prog w = .ok (.slice A (room1 - held.length) (room1 - held.length)) w) := Lib.hid (fun w => by rw [HAE.out]; exact slice_from d1 room1 held.length (by omega) hnr hr1 w)
  obtain ⟨e0, e1, e2⟩ := Blk3.cells hblk
  have HBL := Lib.hid hblk
  have HRW := Lib.hid hrow
  have HDD : Hid (0 < b.length → d1 = some (d1.getD 0)) := Lib.hid (fun h0 => by rcases d1 with _ | k; exact absurd (hnr rfl) (by omega); rfl)
  clear hblk hrow hnr htl htk
  refine wp_region_held_drew (S := fun w' => w'.cell? ⟨g, 0, none⟩ = some (.pointer mp) ∧ w'.cell? ⟨g, 1, none⟩ = some (rowOf d1 room1)) (by kernel_rfl) ⟨e0, e1⟩ (fun hH0 => ?_)
  have HBL : Hid (Blk3 w1.drew g 48 (.pointer mp) (rowOf d1 room1) (.int .i64 (held.length : Int))) := Lib.hid HBL.out
  have HRW : Hid (∀ k, d1 = some k → k ≠ g ∧ Row w1.drew k t) := Lib.hid HRW.out
  have HT0 : Hid (Touch w w1.drew g d mp) := Lib.hid (H5.out.trans (Touch.of_below (d := d) (below_drews (Below.refl _ w1) 1)) (Or.inl rfl))
  have HM0 : Hid (Met.Mt w1.drew mp s l hu (mv + ((if room < held.length + b.length then held.length else 0 : Nat) : Int))) := Lib.hid (H4.out.keep (below_drews (Below.refl _ w1) 1))
  have e2 : w1.drew.cell? ⟨g, 2, none⟩ = some (.int .i64 (held.length : Int)) := e2
  have HB0 : Hid (Bs w1.drew w1.drew.heap.size a b) := Lib.hid (HT0.out.bs HB.out HNE.out HM.out)
  have HMV : Hid (0 ≤ mv + ((if room < held.length + b.length then held.length else 0 : Nat) : Int) ∧ mv + ((if room < held.length + b.length then held.length else 0 : Nat) : Int) ≤ 1000000000000) := Lib.hid (by split <;> omega)
  clear H3 H4 H5 e0 e1
  generalize w1.drew = x0 at *
  have HA : Hid (0 < b.length → A = some ⟨d1.getD 0, held.length, none⟩ ∧ Row x0 (d1.getD 0) t ∧ held.length + b.length ≤ t.length) := Lib.hid (fun h0 => by have e := HDD.out h0; refine ⟨?_, (HRW.out _ e).2, by rw [HTL.out]; exact hfit⟩; rw [HAE.out, e, if_neg (by omega)]; rfl)
  refine held_take (i := 0) (d := 15) (oi := _) (v := ?_) rfl rfl (by kernel_rfl) (by kernel_rfl) (by kernel_rfl) (fun _ _ _ h => h) (Or.inl ⟨by rfl, ?_⟩) (by assumption) ?_
  rotate_left
  · (intro w hSw; obtain ⟨s0, s1⟩ := hSw; go_simp; (try with_reducible rfl))
  simp only [Act.put, List.setIfInBounds_toArray, List.set_cons_zero, List.set_cons_succ]
  refine held_take (i := 1) (d := 16) (oi := _) (v := ?_) rfl rfl (by kernel_rfl) (by kernel_rfl) (by kernel_rfl) (fun _ _ _ h => h) (Or.inl ⟨by rfl, ?_⟩) (by assumption) ?_
  rotate_left
  · (intro w hSw; obtain ⟨s0, s1⟩ := hSw; go_simp; (try with_reducible rfl))
  simp only [Act.put, List.setIfInBounds_toArray, List.set_cons_zero, List.set_cons_succ]
  refine held_take (i := 2) (d := 17) (oi := _) (v := ?_) rfl rfl (by kernel_rfl) (by kernel_rfl) (by kernel_rfl) (fun _ _ _ h => h) (Or.inl ⟨by rfl, ?_⟩) (by assumption) ?_
  rotate_left
  · (intro w hSw; obtain ⟨s0, s1⟩ := hSw; go_simp; (try with_reducible rfl))
  simp only [Act.put, List.setIfInBounds_toArray, List.set_cons_zero, List.set_cons_succ]
  refine held_take (i := 4) (d := 19) (oi := _) (v := ?_) rfl rfl (by kernel_rfl) (by kernel_rfl) (by kernel_rfl) (fun _ _ _ h => h) (Or.inl ⟨by rfl, ?_⟩) (by assumption) ?_
  rotate_left
  · (intro w hSw; obtain ⟨s0, s1⟩ := hSw; go_simp; (try with_reducible rfl))
  simp only [Act.put, List.setIfInBounds_toArray, List.set_cons_zero, List.set_cons_succ]
  refine held_take (i := 5) (d := 20) (oi := _) (v := ?_) rfl rfl (by kernel_rfl) (by kernel_rfl) (by kernel_rfl) (fun _ _ _ h => h) (Or.inl ⟨by rfl, ?_⟩) (by assumption) ?_
  rotate_left
  · (intro w hSw; obtain ⟨s0, s1⟩ := hSw; go_simp; (try with_reducible rfl))
  simp only [Act.put, List.setIfInBounds_toArray, List.set_cons_zero, List.set_cons_succ]
  refine held_take (i := 6) (d := 21) (oi := _) (v := ?_) rfl rfl (by kernel_rfl) (by kernel_rfl) (by kernel_rfl) (fun _ _ _ h => h) (Or.inl ⟨by rfl, ?_⟩) (by assumption) ?_
  rotate_left
  · (intro w hSw; obtain ⟨s0, s1⟩ := hSw; go_simp; (try with_reducible rfl))
  simp only [Act.put, List.setIfInBounds_toArray, List.set_cons_zero, List.set_cons_succ]
  refine held_take (i := 7) (d := 22) (oi := _) (v := ?_) rfl rfl (by kernel_rfl) (by kernel_rfl) (by kernel_rfl) (fun _ _ _ h => h) (Or.inl ⟨by rfl, ?_⟩) (by assumption) ?_
  rotate_left
  · (intro w hSw; obtain ⟨s0, s1⟩ := hSw; go_simp; (try with_reducible rfl))
  simp only [Act.put, List.setIfInBounds_toArray, List.set_cons_zero, List.set_cons_succ]
  refine held_take (i := 8) (d := 23) (oi := _) (v := ?_) rfl rfl (by kernel_rfl) (by kernel_rfl) (by kernel_rfl) (fun _ _ _ h => h) (Or.inl ⟨by rfl, ?_⟩) (by assumption) ?_
  rotate_left
  · (intro w hSw; obtain ⟨s0, s1⟩ := hSw; go_simp; (try with_reducible rfl))
  simp only [Act.put, List.setIfInBounds_toArray, List.set_cons_zero, List.set_cons_succ]
  refine held_take (i := 9) (d := 24) (oi := _) (v := ?_) rfl rfl (by kernel_rfl) (by kernel_rfl) (by kernel_rfl) (fun _ _ _ h => h) (Or.inl ⟨by rfl, ?_⟩) (by assumption) ?_
  rotate_left
  · (intro w hSw; obtain ⟨s0, s1⟩ := hSw; go_simp; (try with_reducible rfl))
  simp only [Act.put, List.setIfInBounds_toArray, List.set_cons_zero, List.set_cons_succ]
  refine held_take (i := 10) (d := 25) (oi := _) (v := ?_) rfl rfl (by kernel_rfl) (by kernel_rfl) (by kernel_rfl) (fun _ _ _ h => h) (Or.inl ⟨by rfl, ?_⟩) (by assumption) ?_
  rotate_left
  · (intro w hSw; obtain ⟨s0, s1⟩ := hSw; go_simp; (try with_reducible rfl))
  simp only [Act.put, List.setIfInBounds_toArray, List.set_cons_zero, List.set_cons_succ]
  refine held_take (i := 11) (d := 26) (oi := _) (v := ?_) rfl rfl (by kernel_rfl) (by kernel_rfl) (by kernel_rfl) (fun _ _ _ h => h) (Or.inl ⟨by rfl, ?_⟩) (by assumption) ?_
  rotate_left
  · (intro w hSw; obtain ⟨s0, s1⟩ := hSw; go_simp; (try with_reducible rfl))
  simp only [Act.put, List.setIfInBounds_toArray, List.set_cons_zero, List.set_cons_succ]
  refine held_take (i := 12) (d := 27) (oi := _) (v := ?_) rfl rfl (by kernel_rfl) (by kernel_rfl) (by kernel_rfl) (fun _ _ _ h => h) (Or.inl ⟨by rfl, ?_⟩) (by assumption) ?_
  rotate_left
  · (intro w hSw; obtain ⟨s0, s1⟩ := hSw; go_simp; (try with_reducible rfl))
  simp only [Act.put, List.setIfInBounds_toArray, List.set_cons_zero, List.set_cons_succ]
  refine held_take (i := 13) (d := 28) (oi := _) (v := ?_) rfl rfl (by kernel_rfl) (by kernel_rfl) (by kernel_rfl) (fun _ _ _ h => h) (Or.inl ⟨by rfl, ?_⟩) (by assumption) ?_
  rotate_left
  · (intro w hSw; obtain ⟨s0, s1⟩ := hSw; go_simp; (try with_reducible rfl))
  simp only [Act.put, List.setIfInBounds_toArray, List.set_cons_zero, List.set_cons_succ]
  refine held_take (i := 14) (d := 29) (oi := _) (v := ?_) rfl rfl (by kernel_rfl) (by kernel_rfl) (by kernel_rfl) (fun _ _ _ h => h) (Or.inl ⟨by rfl, ?_⟩) (by assumption) ?_
  rotate_left
  · (intro w hSw; obtain ⟨s0, s1⟩ := hSw; go_simp; (try with_reducible rfl))
  simp only [Act.put, List.setIfInBounds_toArray, List.set_cons_zero, List.set_cons_succ]
  refine held_take (i := 17) (d := 32) (oi := _) (v := ?_) rfl rfl (by kernel_rfl) (by kernel_rfl) (by kernel_rfl) (fun _ _ _ h => h) (Or.inl ⟨by rfl, ?_⟩) (by assumption) ?_
  rotate_left
  · (intro w hSw; obtain ⟨s0, s1⟩ := hSw; go_simp; (try with_reducible rfl))
  simp only [Act.put, List.setIfInBounds_toArray, List.set_cons_zero, List.set_cons_succ]
  refine wpAnyH_ready (rs := [3, 15]) (by kernel_rfl) (by simp) ?_
  refine AllReadyH.cons rfl (fun K hK => ?_) (AllReadyH.cons rfl (fun K hK => ?_) AllReadyH.nil)
  · go_simp
    refine hK.out _ _ hH0 (fun _ => ?_)
    clear hK K
    refine wpAnyH_ready (rs := [15]) (by kernel_rfl) (by simp) ?_
    refine AllReadyH.cons rfl (fun K hK => ?_) AllReadyH.nil
    go_simp
    refine hK.out _ _ hH0 (fun _ => ?_)
    clear hK K
    refine held_take (i := 16) (d := 31) (oi := _) (v := ?_) rfl rfl (by kernel_rfl) (by kernel_rfl) (by kernel_rfl) (fun _ _ _ h => h) (Or.inl ⟨by rfl, ?_⟩) (by assumption) ?_
    rotate_left
    · (intro w hSw; obtain ⟨s0, s1⟩ := hSw; have hsl := HSL.out w; go_simp; (try with_reducible rfl))
    simp only [Act.put, List.setIfInBounds_toArray, List.set_cons_zero, List.set_cons_succ]
    refine wpAnyH_ready (rs := [18]) (by kernel_rfl) (by simp) ?_
    refine AllReadyH.cons rfl (fun K hK => ?_) AllReadyH.nil
    go_simp
    go_wp2_with (go_at_call 20; (with_reducible refine (copy_fit x0 mp A (room1 - held.length) (room1 - held.length) (d1.getD 0) held.length t a b c x0.heap.size HB0.out (by omega) (by omega) HA.out s l hu _ HM0.out hs hl' hh HMV.out).mono ?_); rintro e x1 hgv; obtain ⟨rfl, hmid⟩ := mid_of HT0.out H1.out HBL.out HRW.out HM0.out hgr (fun h0 => (HDD.out h0)) hgv; have HMID := Lib.hid hmid; clear hgv hmid)
    obtain ⟨d0, dd1, d2⟩ := Blk3.cells HMID.out.mblk
    obtain ⟨f0, f1, f2⟩ := Blk3.free HMID.out.mblk
    have hH1 : x1.cell? ⟨g, 0, none⟩ = some (.pointer mp) ∧ x1.cell? ⟨g, 1, none⟩ = some (rowOf d1 room1) := ⟨d0, dd1⟩
    refine hK.out _ _ hH1 (fun _ => ?_)
    clear hK K
    refine held_take (i := 19) (d := 34) (oi := _) (v := ?_) rfl rfl (by kernel_rfl) (by kernel_rfl) (by kernel_rfl) (fun _ _ _ h => h) (Or.inl ⟨by rfl, ?_⟩) (by assumption) ?_
    rotate_left
    · (intro w hSw; obtain ⟨s0, s1⟩ := hSw; go_simp; (try with_reducible rfl))
    simp only [Act.put, List.setIfInBounds_toArray, List.set_cons_zero, List.set_cons_succ]
    refine held_take (i := 20) (d := 35) (oi := _) (v := ?_) rfl rfl (by kernel_rfl) (by kernel_rfl) (by kernel_rfl) (fun _ _ _ h => h) (Or.inl ⟨by rfl, ?_⟩) (by assumption) ?_
    rotate_left
    · (intro w hSw; obtain ⟨s0, s1⟩ := hSw; go_simp; (try with_reducible rfl))
    simp only [Act.put, List.setIfInBounds_toArray, List.set_cons_zero, List.set_cons_succ]
    refine held_take (i := 21) (d := 36) (oi := _) (v := ?_) rfl rfl (by kernel_rfl) (by kernel_rfl) (by kernel_rfl) (fun _ _ _ h => h) (Or.inl ⟨by rfl, ?_⟩) (by assumption) ?_
    rotate_left
    · (intro w hSw; obtain ⟨s0, s1⟩ := hSw; go_simp; (try with_reducible rfl))
    simp only [Act.put, List.setIfInBounds_toArray, List.set_cons_zero, List.set_cons_succ]
    refine wpAnyH_ready (rs := [22]) (by kernel_rfl) (by simp) ?_
    refine AllReadyH.cons rfl (fun K hK => ?_) AllReadyH.nil
    go_simp
    have hH2 : (x1.setCell ⟨g, 2, none⟩ (.int .i64 ((held.length : Int) + (b.length : Int)))).cell? ⟨g, 0, none⟩ = some (.pointer mp) ∧ (x1.setCell ⟨g, 2, none⟩ (.int .i64 ((held.length : Int) + (b.length : Int)))).cell? ⟨g, 1, none⟩ = some (rowOf d1 room1) := ⟨(cell_other x1 g 2 0 _ (by omega)).trans d0, (cell_other x1 g 2 1 _ (by omega)).trans dd1⟩
    refine hK.out _ _ hH2 (fun _ => ?_)
    clear hK K
    refine wpAnyH_done (by kernel_rfl) ?_ _
    go_wp2
    go_end0
    exact HMID.out.stored H1.out hf H2.out HNR.out hfit HTL.out HTK.out hgr
  · go_simp
    refine hK.out _ _ hH0 (fun _ => ?_)
    clear hK K
    refine held_take (i := 16) (d := 31) (oi := _) (v := ?_) rfl rfl (by kernel_rfl) (by kernel_rfl) (by kernel_rfl) (fun _ _ _ h => h) (Or.inl ⟨by rfl, ?_⟩) (by assumption) ?_
    rotate_left
    · (intro w hSw; obtain ⟨s0, s1⟩ := hSw; have hsl := HSL.out w; go_simp; (try with_reducible rfl))
    simp only [Act.put, List.setIfInBounds_toArray, List.set_cons_zero, List.set_cons_succ]
    refine wpAnyH_ready (rs := [3, 18]) (by kernel_rfl) (by simp) ?_
    refine AllReadyH.cons rfl (fun K hK => ?_) (AllReadyH.cons rfl (fun K hK => ?_) AllReadyH.nil)
    · go_simp
      refine hK.out _ _ hH0 (fun _ => ?_)
      clear hK K
      refine wpAnyH_ready (rs := [18]) (by kernel_rfl) (by simp) ?_
      refine AllReadyH.cons rfl (fun K hK => ?_) AllReadyH.nil
      go_simp
      go_wp2_with (go_at_call 20; (with_reducible refine (copy_fit x0 mp A (room1 - held.length) (room1 - held.length) (d1.getD 0) held.length t a b c x0.heap.size HB0.out (by omega) (by omega) HA.out s l hu _ HM0.out hs hl' hh HMV.out).mono ?_); rintro e x1 hgv; obtain ⟨rfl, hmid⟩ := mid_of HT0.out H1.out HBL.out HRW.out HM0.out hgr (fun h0 => (HDD.out h0)) hgv; have HMID := Lib.hid hmid; clear hgv hmid)
      obtain ⟨d0, dd1, d2⟩ := Blk3.cells HMID.out.mblk
      obtain ⟨f0, f1, f2⟩ := Blk3.free HMID.out.mblk
      have hH1 : x1.cell? ⟨g, 0, none⟩ = some (.pointer mp) ∧ x1.cell? ⟨g, 1, none⟩ = some (rowOf d1 room1) := ⟨d0, dd1⟩
      refine hK.out _ _ hH1 (fun _ => ?_)
      clear hK K
      refine held_take (i := 19) (d := 34) (oi := _) (v := ?_) rfl rfl (by kernel_rfl) (by kernel_rfl) (by kernel_rfl) (fun _ _ _ h => h) (Or.inl ⟨by rfl, ?_⟩) (by assumption) ?_
      rotate_left
      · (intro w hSw; obtain ⟨s0, s1⟩ := hSw; go_simp; (try with_reducible rfl))
      simp only [Act.put, List.setIfInBounds_toArray, List.set_cons_zero, List.set_cons_succ]
      refine held_take (i := 20) (d := 35) (oi := _) (v := ?_) rfl rfl (by kernel_rfl) (by kernel_rfl) (by kernel_rfl) (fun _ _ _ h => h) (Or.inl ⟨by rfl, ?_⟩) (by assumption) ?_
      rotate_left
      · (intro w hSw; obtain ⟨s0, s1⟩ := hSw; go_simp; (try with_reducible rfl))
      simp only [Act.put, List.setIfInBounds_toArray, List.set_cons_zero, List.set_cons_succ]
      refine held_take (i := 21) (d := 36) (oi := _) (v := ?_) rfl rfl (by kernel_rfl) (by kernel_rfl) (by kernel_rfl) (fun _ _ _ h => h) (Or.inl ⟨by rfl, ?_⟩) (by assumption) ?_
      rotate_left
      · (intro w hSw; obtain ⟨s0, s1⟩ := hSw; go_simp; (try with_reducible rfl))
      simp only [Act.put, List.setIfInBounds_toArray, List.set_cons_zero, List.set_cons_succ]
      refine wpAnyH_ready (rs := [22]) (by kernel_rfl) (by simp) ?_
      refine AllReadyH.cons rfl (fun K hK => ?_) AllReadyH.nil
      go_simp
      have hH2 : (x1.setCell ⟨g, 2, none⟩ (.int .i64 ((held.length : Int) + (b.length : Int)))).cell? ⟨g, 0, none⟩ = some (.pointer mp) ∧ (x1.setCell ⟨g, 2, none⟩ (.int .i64 ((held.length : Int) + (b.length : Int)))).cell? ⟨g, 1, none⟩ = some (rowOf d1 room1) := ⟨(cell_other x1 g 2 0 _ (by omega)).trans d0, (cell_other x1 g 2 1 _ (by omega)).trans dd1⟩
      refine hK.out _ _ hH2 (fun _ => ?_)
      clear hK K
      refine wpAnyH_done (by kernel_rfl) ?_ _
      go_wp2
      go_end0
      exact HMID.out.stored H1.out hf H2.out HNR.out hfit HTL.out HTK.out hgr
    · go_simp
      go_wp2_with (go_at_call 20; (with_reducible refine (copy_fit x0 mp A (room1 - held.length) (room1 - held.length) (d1.getD 0) held.length t a b c x0.heap.size HB0.out (by omega) (by omega) HA.out s l hu _ HM0.out hs hl' hh HMV.out).mono ?_); rintro e x1 hgv; obtain ⟨rfl, hmid⟩ := mid_of HT0.out H1.out HBL.out HRW.out HM0.out hgr (fun h0 => (HDD.out h0)) hgv; have HMID := Lib.hid hmid; clear hgv hmid)
      obtain ⟨d0, dd1, d2⟩ := Blk3.cells HMID.out.mblk
      obtain ⟨f0, f1, f2⟩ := Blk3.free HMID.out.mblk
      have hH1 : x1.cell? ⟨g, 0, none⟩ = some (.pointer mp) ∧ x1.cell? ⟨g, 1, none⟩ = some (rowOf d1 room1) := ⟨d0, dd1⟩
      refine hK.out _ _ hH1 (fun _ => ?_)
      clear hK K
      refine wpAnyH_ready (rs := [3]) (by kernel_rfl) (by simp) ?_
      refine AllReadyH.cons rfl (fun K hK => ?_) AllReadyH.nil
      go_simp
      refine hK.out _ _ hH1 (fun _ => ?_)
      clear hK K
      refine held_take (i := 19) (d := 34) (oi := _) (v := ?_) rfl rfl (by kernel_rfl) (by kernel_rfl) (by kernel_rfl) (fun _ _ _ h => h) (Or.inl ⟨by rfl, ?_⟩) (by assumption) ?_
      rotate_left
      · (intro w hSw; obtain ⟨s0, s1⟩ := hSw; go_simp; (try with_reducible rfl))
      simp only [Act.put, List.setIfInBounds_toArray, List.set_cons_zero, List.set_cons_succ]
      refine held_take (i := 20) (d := 35) (oi := _) (v := ?_) rfl rfl (by kernel_rfl) (by kernel_rfl) (by kernel_rfl) (fun _ _ _ h => h) (Or.inl ⟨by rfl, ?_⟩) (by assumption) ?_
      rotate_left
      · (intro w hSw; obtain ⟨s0, s1⟩ := hSw; go_simp; (try with_reducible rfl))
      simp only [Act.put, List.setIfInBounds_toArray, List.set_cons_zero, List.set_cons_succ]
      refine held_take (i := 21) (d := 36) (oi := _) (v := ?_) rfl rfl (by kernel_rfl) (by kernel_rfl) (by kernel_rfl) (fun _ _ _ h => h) (Or.inl ⟨by rfl, ?_⟩) (by assumption) ?_
      rotate_left
      · (intro w hSw; obtain ⟨s0, s1⟩ := hSw; go_simp; (try with_reducible rfl))
      simp only [Act.put, List.setIfInBounds_toArray, List.set_cons_zero, List.set_cons_succ]
      refine wpAnyH_ready (rs := [22]) (by kernel_rfl) (by simp) ?_
      refine AllReadyH.cons rfl (fun K hK => ?_) AllReadyH.nil
      go_simp
      have hH2 : (x1.setCell ⟨g, 2, none⟩ (.int .i64 ((held.length : Int) + (b.length : Int)))).cell? ⟨g, 0, none⟩ = some (.pointer mp) ∧ (x1.setCell ⟨g, 2, none⟩ (.int .i64 ((held.length : Int) + (b.length : Int)))).cell? ⟨g, 1, none⟩ = some (rowOf d1 room1) := ⟨(cell_other x1 g 2 0 _ (by omega)).trans d0, (cell_other x1 g 2 1 _ (by omega)).trans dd1⟩
      refine hK.out _ _ hH2 (fun _ => ?_)
      clear hK K
      refine wpAnyH_done (by kernel_rfl) ?_ _
      go_wp2
      go_end0
      exact HMID.out.stored H1.out hf H2.out HNR.out hfit HTL.out HTK.out hgr
end Go.Proofs.Ytejokmnbijggcaa.Win
