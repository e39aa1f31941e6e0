/- The walk of TwowayNext. -/
import Derived.Test.YtcoghcfhkndijaaJc
namespace Go.Proofs.Ytcoghcfhkndijaa.twowayNext
open Go.Proofs.Ytcoghcfhkndijaa.Two Go.Proofs.Ytcoghcfhkndijaa.Suf Go.Proofs.Ytcoghcfhkndijaa.Crt Go.Proofs.Ytcoghcfhkndijaa.Prs Go.RowKit Go.Maps
set_option maxRecDepth 100000
set_option linter.unusedVariables false
open Go.Proofs.Ytcoghcfhkndijaa.Reg

set_option maxHeartbeats 8000000 in
theorem walk (w : World) (b : Tx) (ab : Option Addr) (cb : Nat) (hmb : b.length ≤ maxLen) (hbb : Bs w w.heap.size ab b) (hnb : ab = none → cb = 0) (hcb : b.length ≤ cb) (line : Tx) (aline : Option Addr) (cline : Nat) (hmline : line.length ≤ maxLen) (hbline : Bs w w.heap.size aline line) (hnline : aline = none → cline = 0) (hcline : line.length ≤ cline) (x : Int) (hx : -9223372036854775808 ≤ x ∧ x ≤ 9223372036854775807) :
    Calls Try.prog 3 #[.slice ab b.length cb, .slice aline line.length cline, .int .i64 x] w fun e w' => e = .returned (.bool true) ∧ Below w.heap.size w w' := by
  have HAW := Lib.hid (awake_any w)
  have Kb : Hid (Ln w ab b cb) := Lib.hid ⟨hbb, hcb, hnb⟩
  clear hbb hcb hnb
  have Kline : Hid (Ln w aline line cline) := Lib.hid ⟨hbline, hcline, hnline⟩
  clear hbline hcline hnline

  go_enter Try.func3, Try.ntmps3
  go_wp2_with fail
  refine HAW.out.mono ?_
  rintro e' w1 ⟨rfl, hb1⟩
  have HW := Lib.hid hb1
  have Lb : Hid (∀ X, Below w1.heap.size w1 X → Ln X ab b cb) := Lib.hid fun X hX => (Kb.out.keep hb1).keep hX
  have Lline : Hid (∀ X, Below w1.heap.size w1 X → Ln X aline line cline) := Lib.hid fun X hX => (Kline.out.keep hb1).keep hX
  clear hb1 HAW Kb Kline
  by_cases hf : b.length ≤ 100 ∧ line.length ≤ 300
  · go_wp2_with fail
    refine (few_any w1 _ _ _ _ _ _).mono ?_
    rintro e' w1' ⟨rfl, rfl⟩
    rw [decide_eq_true hf]
    obtain ⟨hf1, hf2⟩ := hf
    by_cases h0 : b = []
    · subst h0
      have hz : (([] : Tx).length : Int) = 0 := rfl
      go_wp2_with fail
      refine (new_none w1 ab cb).mono ?_
      rintro e w2 ⟨rfl, hb2⟩
      have HW2 := Lib.hid (HW.out.trans (hb2.mono HW.out.size))
      clear hb2
      go_wp2_with fail
      refine (next_none w2 _ _ _ x).mono ?_
      rintro e w3 ⟨rfl, hb3⟩
      have HW3 := Lib.hid (HW2.out.trans (hb3.mono HW2.out.size))
      clear hb3
      go_wp2_with fail
      refine (scan_none w3 _ _ _).mono ?_
      rintro e w4 ⟨A, c, rfl, _, hb4⟩
      have HW4 := Lib.hid (HW3.out.trans (hb4.mono HW3.out.size))
      clear hb4
      go_wp2
      go_ret
      exact ⟨rfl, HW4.out⟩
    · have hz : ((b.length : Int) == 0) = false := by simpa using h0
      have hz2 : ¬ (b.length : Int) = 0 := by simpa using h0
      have HN := Lib.hid (fun X (hX : Below w1.heap.size w1 X) => new_some X b ab cb (Lb.out X hX) h0 (by omega))
      have HX := Lib.hid (fun X (hX : Below w1.heap.size w1 X) t (ht : Tw X w1.heap.size t b) => next_some X t b ht h0 (by omega) line aline cline (Lline.out X hX) (by omega) x hx)
      clear hx
      have HR := Lib.hid (fun X => rnext_any X b line h0 (by omega) (by omega) x)
      obtain ⟨V, hV⟩ : ∃ V, V = nextOf b line x.toNat := ⟨_, rfl⟩
      rw [← hV] at HX HR
      have hself : (V == V) = true := by simp
      clear hV h0
      go_wp2_with fail
      refine (HN.out w1 (Below.refl _ _)).mono ?_
      rintro e w2 ⟨t, rfl, ht, hb2⟩
      have HT2 := Lib.hid ht
      have HB2 := Lib.hid hb2
      clear ht hb2
      go_wp2_with fail
      have HX2 := Lib.hid (fun X (hX : Below w2.heap.size w2 X) => HX.out X (HB2.out.trans (hX.mono HB2.out.size)) t (HT2.out.keep hX))
      have HB0 := Lib.hid (Below.refl w2.heap.size w2)
      clear HX HT2 HN
      refine wp_region_held_drew (S := fun w' => Below w2.drew.heap.size w2.drew w') (by kernel_rfl) (Below.refl _ _) (fun hH0 => ?_)
      have B0 := Lib.hid (below_drews HB0.out 1)
      change Hid (Below _ _ w2.drew) at B0
      generalize w2.drew = x0 at *
      refine held_take (i := 0) (d := 47) (oi := _) (v := ?_) rfl rfl (by kernel_rfl) (by kernel_rfl) (by kernel_rfl) (fun _ _ _ h => h) (Or.inl ⟨by rfl, ?_⟩) (by assumption) ?_
      rotate_left
      · (intro w hSw; clear hSw; go_simp; (try with_reducible rfl))
      simp only [Act.put, List.setIfInBounds_toArray, List.set_cons_zero, List.set_cons_succ]
      refine held_take (i := 1) (d := 48) (oi := _) (v := ?_) rfl rfl (by kernel_rfl) (by kernel_rfl) (by kernel_rfl) (fun _ _ _ h => h) (Or.inl ⟨by rfl, ?_⟩) (by assumption) ?_
      rotate_left
      · (intro w hSw; clear hSw; go_simp; (try with_reducible rfl))
      simp only [Act.put, List.setIfInBounds_toArray, List.set_cons_zero, List.set_cons_succ]
      refine held_take (i := 2) (d := 49) (oi := _) (v := ?_) rfl rfl (by kernel_rfl) (by kernel_rfl) (by kernel_rfl) (fun _ _ _ h => h) (Or.inl ⟨by rfl, ?_⟩) (by assumption) ?_
      rotate_left
      · (intro w hSw; clear hSw; go_simp; (try with_reducible rfl))
      simp only [Act.put, List.setIfInBounds_toArray, List.set_cons_zero, List.set_cons_succ]
      refine held_take (i := 3) (d := 50) (oi := _) (v := ?_) rfl rfl (by kernel_rfl) (by kernel_rfl) (by kernel_rfl) (fun _ _ _ h => h) (Or.inl ⟨by rfl, ?_⟩) (by assumption) ?_
      rotate_left
      · (intro w hSw; clear hSw; go_simp; (try with_reducible rfl))
      simp only [Act.put, List.setIfInBounds_toArray, List.set_cons_zero, List.set_cons_succ]
      refine held_take (i := 4) (d := 51) (oi := _) (v := ?_) rfl rfl (by kernel_rfl) (by kernel_rfl) (by kernel_rfl) (fun _ _ _ h => h) (Or.inl ⟨by rfl, ?_⟩) (by assumption) ?_
      rotate_left
      · (intro w hSw; clear hSw; go_simp; (try with_reducible rfl))
      simp only [Act.put, List.setIfInBounds_toArray, List.set_cons_zero, List.set_cons_succ]
      refine held_take (i := 5) (d := 52) (oi := _) (v := ?_) rfl rfl (by kernel_rfl) (by kernel_rfl) (by kernel_rfl) (fun _ _ _ h => h) (Or.inl ⟨by rfl, ?_⟩) (by assumption) ?_
      rotate_left
      · (intro w hSw; clear hSw; go_simp; (try with_reducible rfl))
      simp only [Act.put, List.setIfInBounds_toArray, List.set_cons_zero, List.set_cons_succ]
      refine held_take (i := 7) (d := 54) (oi := _) (v := ?_) rfl rfl (by kernel_rfl) (by kernel_rfl) (by kernel_rfl) (fun _ _ _ h => h) (Or.inl ⟨by rfl, ?_⟩) (by assumption) ?_
      rotate_left
      · (intro w hSw; clear hSw; go_simp; (try with_reducible rfl))
      simp only [Act.put, List.setIfInBounds_toArray, List.set_cons_zero, List.set_cons_succ]
      refine held_take (i := 9) (d := 56) (oi := _) (v := ?_) rfl rfl (by kernel_rfl) (by kernel_rfl) (by kernel_rfl) (fun _ _ _ h => h) (Or.inl ⟨by rfl, ?_⟩) (by assumption) ?_
      rotate_left
      · (intro w hSw; clear hSw; go_simp; (try with_reducible rfl))
      simp only [Act.put, List.setIfInBounds_toArray, List.set_cons_zero, List.set_cons_succ]
      refine held_take (i := 11) (d := 58) (oi := _) (v := ?_) rfl rfl (by kernel_rfl) (by kernel_rfl) (by kernel_rfl) (fun _ _ _ h => h) (Or.inl ⟨by rfl, ?_⟩) (by assumption) ?_
      rotate_left
      · (intro w hSw; clear hSw; go_simp; (try with_reducible rfl))
      simp only [Act.put, List.setIfInBounds_toArray, List.set_cons_zero, List.set_cons_succ]
      have HCV1 := Lib.hid (fun w' (h : Below x0.heap.size x0 w') => str_of_bs cb (Lb.out w' (HB2.out.trans ((B0.out.trans (h.mono B0.out.size)).mono HB2.out.size))).1)
      have HCV2 := Lib.hid (fun w' (h : Below x0.heap.size x0 w') => str_of_bs cline (Lline.out w' (HB2.out.trans ((B0.out.trans (h.mono B0.out.size)).mono HB2.out.size))).1)
      refine held_take (i := 8) (d := 55) (oi := _) (v := ?_) rfl rfl (by kernel_rfl) (by kernel_rfl) (by kernel_rfl) (fun _ _ _ h => h) (Or.inl ⟨by rfl, ?_⟩) (by assumption) ?_
      rotate_left
      · (intro w hSw; have hcvw := HCV1.out w hSw; clear hSw; go_simp; (try with_reducible rfl))
      simp only [Act.put, List.setIfInBounds_toArray, List.set_cons_zero, List.set_cons_succ]
      refine held_take (i := 10) (d := 57) (oi := _) (v := ?_) rfl rfl (by kernel_rfl) (by kernel_rfl) (by kernel_rfl) (fun _ _ _ h => h) (Or.inl ⟨by rfl, ?_⟩) (by assumption) ?_
      rotate_left
      · (intro w hSw; have hcvw := HCV2.out w hSw; clear hSw; go_simp; (try with_reducible rfl))
      simp only [Act.put, List.setIfInBounds_toArray, List.set_cons_zero, List.set_cons_succ]
      refine wpAnyH_ready (rs := [6]) (by kernel_rfl) (by simp) ?_
      refine AllReadyH.cons rfl (fun K hK => ?_) AllReadyH.nil
      go_simp
      go_wp2_with (go_at_call 12; (with_reducible refine (HX2.out _ B0.out).mono ?_); rintro e x1 ⟨rfl, hb⟩)
      refine hK.out _ _ hb (fun _ => ?_)
      have B1 := Lib.hid (B0.out.trans (hb.mono B0.out.size))
      refine wpAnyH_more (S' := fun w' => Below x1.heap.size x1 w') (fun w' h => hb.trans (h.mono hb.size)) _ _ _ _ ?_
      have hH1 : Below x1.heap.size x1 x1 := Below.refl _ _
      clear hK K hH0 hb B0
      refine wpAnyH_ready (rs := [12]) (by kernel_rfl) (by simp) ?_
      refine AllReadyH.cons rfl (fun K hK => ?_) AllReadyH.nil
      go_simp
      go_wp2_with (go_at_call 14; (with_reducible refine (HR.out x1).mono ?_); rintro e x' ⟨rfl, q, rfl⟩)
      have hb : Below x1.heap.size x1 (x1.drewN q) := below_drews (Below.refl _ _) q
      generalize x1.drewN q = x2 at *
      refine hK.out _ _ hb (fun _ => ?_)
      have B2 := Lib.hid (B1.out.trans (hb.mono B1.out.size))
      refine wpAnyH_more (S' := fun w' => Below x2.heap.size x2 w') (fun w' h => hb.trans (h.mono hb.size)) _ _ _ _ ?_
      have hH2 : Below x2.heap.size x2 x2 := Below.refl _ _
      clear hK K hH1 hb B1
      refine held_take (i := 13) (d := 60) (oi := _) (v := ?_) rfl rfl (by kernel_rfl) (by kernel_rfl) (by kernel_rfl) (fun _ _ _ h => h) (Or.inl ⟨by rfl, ?_⟩) (by assumption) ?_
      rotate_left
      · (intro w hSw; clear hSw; go_simp; (try with_reducible rfl))
      simp only [Act.put, List.setIfInBounds_toArray, List.set_cons_zero, List.set_cons_succ]
      refine held_take (i := 14) (d := 61) (oi := _) (v := ?_) rfl rfl (by kernel_rfl) (by kernel_rfl) (by kernel_rfl) (fun _ _ _ h => h) (Or.inl ⟨by rfl, ?_⟩) (by assumption) ?_
      rotate_left
      · (intro w hSw; clear hSw; go_simp; (try with_reducible rfl))
      simp only [Act.put, List.setIfInBounds_toArray, List.set_cons_zero, List.set_cons_succ]
      refine held_take (i := 15) (d := 6) (oi := _) (v := ?_) rfl rfl (by kernel_rfl) (by kernel_rfl) (by kernel_rfl) (fun _ _ _ h => h) (Or.inl ⟨by rfl, ?_⟩) (by assumption) ?_
      rotate_left
      · (intro w hSw; clear hSw; go_simp; (try with_reducible rfl))
      simp only [Act.put, List.setIfInBounds_toArray, List.set_cons_zero, List.set_cons_succ]
      refine wpAnyH_done (by kernel_rfl) ?_ _
      go_wp2
      go_ret
      exact ⟨rfl, HW.out.trans ((HB2.out.trans (B2.out.mono HB2.out.size)).mono HW.out.size)⟩
  · go_wp2_with fail
    refine (few_any w1 _ _ _ _ _ _).mono ?_
    rintro e' w1' ⟨rfl, rfl⟩
    rw [decide_eq_false hf]
    go_wp2
    go_ret
    exact ⟨rfl, HW.out⟩
end Go.Proofs.Ytcoghcfhkndijaa.twowayNext
