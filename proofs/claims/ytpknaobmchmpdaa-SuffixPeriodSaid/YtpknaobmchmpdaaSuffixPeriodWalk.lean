/- The walk of SuffixPeriod. -/
import Derived.Test.YtpknaobmchmpdaaEg
namespace Go.Proofs.Ytpknaobmchmpdaa.suffixPeriod
open Go.Proofs.Ytpknaobmchmpdaa.Suf Go.Proofs.Ytpknaobmchmpdaa.Crt Go.RowKit Go.Maps
set_option maxRecDepth 100000
set_option linter.unusedVariables false
open Go.Proofs.Ytpknaobmchmpdaa.Reg
attribute [local go_sem ↓] Go.wp_at_zero Go.wp_at_succ
set_option maxHeartbeats 2000000 in
theorem walk (w : World) (l : Tx) (a : Option Addr) (cap : Nat) (hm : l.length ≤ maxLen) (hb : Bs w w.heap.size a l) :
    Calls Try.prog 4 #[.slice a l.length cap] w fun e w' => e = .returned (.bool true) ∧ Below w.heap.size w w' := by
  have HAW := Lib.hid (awake_any w)
  have Hhb := Lib.hid hb
  clear hb
  go_enter Try.func4, Try.ntmps4
  go_wp2_with fail
  refine HAW.out.mono ?_
  rintro e' w1 ⟨rfl, hb1⟩
  have HW := Lib.hid hb1
  have HBl : Hid (∀ X, Below w1.heap.size w1 X → Bs X X.heap.size a l) := Lib.hid fun X hX => ((Hhb.out.keep hb1).keep (hX.mono hb1.size)).more (Nat.le_trans hb1.size hX.size)
  clear hb1 HAW Hhb
  by_cases h1 : l.length ≤ 200
  · have hkl : ¬ (200 : Int) < (l.length : Int) := by omega
    have HP := Lib.hid (fun X (hX : Below w1.heap.size w1 X) => period_any X l a cap (HBl.out X hX) (by omega))
    have HR := Lib.hid (fun X => rperiod_any X l (by omega))
    have HBO := Lib.hid (fun X (hX : Below w1.heap.size w1 X) => borders_any X l a cap (HBl.out X hX) (by omega))
    have HRB := Lib.hid (fun X (hX : Below w1.heap.size w1 X) => rborders_any X l (by omega))
    have HCV := Lib.hid (fun X (hX : Below w1.heap.size w1 X) => str_of_bs cap (HBl.out X hX))
    have D1 := Lib.hid (Below.refl w1.heap.size w1)
    have hself : ((per l : Int) == (per l : Int)) = true := beq_self_eq_true _
    go_wp2
    refine wp_region_held_drew (S := fun w' => Below w1.drew.heap.size w1.drew w') (by kernel_rfl) (Below.refl _ _) (fun hH0 => ?_)
    have B0 := Lib.hid (below_drews D1.out 1)
    change Hid (Below _ _ w1.drew) at B0
    generalize w1.drew = x0 at *
    refine held_take (i := 0) (d := 10) (oi := _) (v := ?_) rfl rfl (by kernel_rfl) (by kernel_rfl) (by kernel_rfl) (fun _ _ _ h => h) (Or.inl ⟨by rfl, ?_⟩) (by assumption) ?_
    rotate_left
    · (intro w hSw; clear hSw; go_simp; (try with_reducible rfl))
    simp only [Act.put, List.setIfInBounds_toArray, List.set_cons_zero, List.set_cons_succ]
    refine held_take (i := 2) (d := 12) (oi := _) (v := ?_) rfl rfl (by kernel_rfl) (by kernel_rfl) (by kernel_rfl) (fun _ _ _ h => h) (Or.inl ⟨by rfl, ?_⟩) (by assumption) ?_
    rotate_left
    · (intro w hSw; clear hSw; go_simp; (try with_reducible rfl))
    simp only [Act.put, List.setIfInBounds_toArray, List.set_cons_zero, List.set_cons_succ]
    refine held_take (i := 3) (d := 13) (oi := _) (v := ?_) rfl rfl (by kernel_rfl) (by kernel_rfl) (by kernel_rfl) (fun _ _ _ h => h) (Or.inl ⟨by rfl, ?_⟩) (by assumption) ?_
    rotate_left
    · (intro w hSw; have hld := HCV.out w (B0.out.trans (hSw.mono B0.out.size)); clear hSw; go_simp; (try with_reducible rfl))
    simp only [Act.put, List.setIfInBounds_toArray, List.set_cons_zero, List.set_cons_succ]
    refine wpAnyH_ready (rs := [1]) (by kernel_rfl) (by simp) ?_
    refine AllReadyH.cons rfl (fun K hK => ?_) AllReadyH.nil
    go_simp
    go_wp2_with (go_at_call 12; (with_reducible refine (HP.out _ B0.out).mono ?_); rintro e x1 ⟨rfl, hb⟩)
    refine hK.out _ _ hb (fun _ => ?_)
    have B1 := Lib.hid (B0.out.trans (hb.mono B0.out.size))
    refine wpAnyH_more (S' := fun w' => Below x1.heap.size x1 w') (fun w' h => hb.trans (h.mono hb.size)) _ _ _ _ ?_
    have hH1 : Below x1.heap.size x1 x1 := Below.refl _ _
    clear hK K hH0 hb B0
    refine wpAnyH_ready (rs := [4]) (by kernel_rfl) (by simp) ?_
    refine AllReadyH.cons rfl (fun K hK => ?_) AllReadyH.nil
    go_simp
    go_wp2_with (go_at_call 13; (with_reducible refine (HR.out _).mono ?_); rintro e x' ⟨rfl, q, rfl⟩)
    have hb : Below x1.heap.size x1 (x1.drewN q) := below_drews (Below.refl _ _) q
    generalize x1.drewN q = x2 at *
    refine hK.out _ _ hb (fun _ => ?_)
    have B2 := Lib.hid (B1.out.trans (hb.mono B1.out.size))
    refine wpAnyH_more (S' := fun w' => Below x2.heap.size x2 w') (fun w' h => hb.trans (h.mono hb.size)) _ _ _ _ ?_
    have hH2 : Below x2.heap.size x2 x2 := Below.refl _ _
    clear hK K hH1 hb B1
    refine held_take (i := 5) (d := 15) (oi := _) (v := ?_) rfl rfl (by kernel_rfl) (by kernel_rfl) (by kernel_rfl) (fun _ _ _ h => h) (Or.inl ⟨by rfl, ?_⟩) (by assumption) ?_
    rotate_left
    · (intro w hSw; clear hSw; go_simp; (try with_reducible rfl))
    simp only [Act.put, List.setIfInBounds_toArray, List.set_cons_zero, List.set_cons_succ]
    refine held_take (i := 6) (d := 16) (oi := _) (v := ?_) rfl rfl (by kernel_rfl) (by kernel_rfl) (by kernel_rfl) (fun _ _ _ h => h) (Or.inl ⟨by rfl, ?_⟩) (by assumption) ?_
    rotate_left
    · (intro w hSw; clear hSw; go_simp; (try with_reducible rfl))
    simp only [Act.put, List.setIfInBounds_toArray, List.set_cons_zero, List.set_cons_succ]
    refine held_take (i := 7) (d := 17) (oi := _) (v := ?_) rfl rfl (by kernel_rfl) (by kernel_rfl) (by kernel_rfl) (fun _ _ _ h => h) (Or.inl ⟨by rfl, ?_⟩) (by assumption) ?_
    rotate_left
    · (intro w hSw; clear hSw; go_simp; (try with_reducible rfl))
    simp only [Act.put, List.setIfInBounds_toArray, List.set_cons_zero, List.set_cons_succ]
    refine held_take (i := 9) (d := 19) (oi := _) (v := ?_) rfl rfl (by kernel_rfl) (by kernel_rfl) (by kernel_rfl) (fun _ _ _ h => h) (Or.inl ⟨by rfl, ?_⟩) (by assumption) ?_
    rotate_left
    · (intro w hSw; clear hSw; go_simp; (try with_reducible rfl))
    simp only [Act.put, List.setIfInBounds_toArray, List.set_cons_zero, List.set_cons_succ]
    refine held_take (i := 10) (d := 20) (oi := _) (v := ?_) rfl rfl (by kernel_rfl) (by kernel_rfl) (by kernel_rfl) (fun _ _ _ h => h) (Or.inl ⟨by rfl, ?_⟩) (by assumption) ?_
    rotate_left
    · (intro w hSw; have hld := HCV.out w (B2.out.trans (hSw.mono B2.out.size)); clear hSw; go_simp; (try with_reducible rfl))
    simp only [Act.put, List.setIfInBounds_toArray, List.set_cons_zero, List.set_cons_succ]
    refine wpAnyH_ready (rs := [8]) (by kernel_rfl) (by simp) ?_
    refine AllReadyH.cons rfl (fun K hK => ?_) AllReadyH.nil
    go_simp
    go_wp2_with (go_at_call 15; (with_reducible refine (HBO.out _ B2.out).mono ?_); rintro e x3 ⟨aIA, cIA, rfl, hix, _, hb⟩)
    have IA := Lib.hid (fun (w' : World) (h : Below x3.heap.size x3 w') => (hix.keep h).more h.size)
    clear hix
    refine hK.out _ _ hb (fun _ => ?_)
    have B3 := Lib.hid (B2.out.trans (hb.mono B2.out.size))
    refine wpAnyH_more (S' := fun w' => Below x3.heap.size x3 w') (fun w' h => hb.trans (h.mono hb.size)) _ _ _ _ ?_
    have hH3 : Below x3.heap.size x3 x3 := Below.refl _ _
    clear hK K hH2 hb B2
    refine wpAnyH_ready (rs := [11]) (by kernel_rfl) (by simp) ?_
    refine AllReadyH.cons rfl (fun K hK => ?_) AllReadyH.nil
    go_simp
    go_wp2_with (go_at_call 16; (with_reducible refine (HRB.out _ B3.out).mono ?_); rintro e x4 ⟨aIB, cIB, rfl, hix, _, hb⟩)
    have IB := Lib.hid (fun (w' : World) (h : Below x4.heap.size x4 w') => (hix.keep h).more h.size)
    clear hix
    have IA := Lib.hid (fun (w' : World) (h : Below x4.heap.size x4 w') => IA.out w' (hb.trans (h.mono hb.size)))
    refine hK.out _ _ hb (fun _ => ?_)
    have B4 := Lib.hid (B3.out.trans (hb.mono B3.out.size))
    refine wpAnyH_more (S' := fun w' => Below x4.heap.size x4 w') (fun w' h => hb.trans (h.mono hb.size)) _ _ _ _ ?_
    have hH4 : Below x4.heap.size x4 x4 := Below.refl _ _
    clear hK K hH3 hb B3
    have C12 := Lib.hid (Lnk.isame_any x4 (ints (borders l)) (ints (borders l)) aIA aIB cIA cIB _ (IA.out _ (Below.refl _ _)) (IB.out _ (Below.refl _ _)) (by rw [ints_length]; have := bordTo_len l l.length; change (borders l).length ≤ _ at this; omega) (by rw [ints_length]; have := bordTo_len l l.length; change (borders l).length ≤ _ at this; omega))
    rw [decide_eq_true rfl] at C12
    refine wpAnyH_ready (rs := [12]) (by kernel_rfl) (by simp) ?_
    refine AllReadyH.cons rfl (fun K hK => ?_) AllReadyH.nil
    go_simp
    go_wp2_with (go_at_call 14; (with_reducible refine (C12.out).mono ?_); rintro e x' ⟨rfl, q, rfl⟩)
    have hb : Below x4.heap.size x4 (x4.drewN q) := below_drews (Below.refl _ _) q
    generalize x4.drewN q = x5 at *
    refine hK.out _ _ hb (fun _ => ?_)
    have B5 := Lib.hid (B4.out.trans (hb.mono B4.out.size))
    refine wpAnyH_more (S' := fun w' => Below x5.heap.size x5 w') (fun w' h => hb.trans (h.mono hb.size)) _ _ _ _ ?_
    have hH5 : Below x5.heap.size x5 x5 := Below.refl _ _
    clear hK K hH4 hb B4
    clear C12 IA IB
    refine held_take (i := 13) (d := 23) (oi := _) (v := ?_) rfl rfl (by kernel_rfl) (by kernel_rfl) (by kernel_rfl) (fun _ _ _ h => h) (Or.inl ⟨by rfl, ?_⟩) (by assumption) ?_
    rotate_left
    · (intro w hSw; clear hSw; go_simp; (try with_reducible rfl))
    simp only [Act.put, List.setIfInBounds_toArray, List.set_cons_zero, List.set_cons_succ]
    refine held_take (i := 14) (d := 2) (oi := _) (v := ?_) rfl rfl (by kernel_rfl) (by kernel_rfl) (by kernel_rfl) (fun _ _ _ h => h) (Or.inl ⟨by rfl, ?_⟩) (by assumption) ?_
    rotate_left
    · (intro w hSw; clear hSw; go_simp; (try with_reducible rfl))
    simp only [Act.put, List.setIfInBounds_toArray, List.set_cons_zero, List.set_cons_succ]
    refine wpAnyH_done (by kernel_rfl) ?_ _
    go_wp2
    go_ret
    exact ⟨rfl, HW.out.trans (B5.out.mono HW.out.size)⟩
  · have hkl : (200 : Int) < (l.length : Int) := by omega
    go_wp2
    go_ret
    exact ⟨rfl, HW.out⟩
end Go.Proofs.Ytpknaobmchmpdaa.suffixPeriod
