/- The walk of SuffixPeriods. -/
import Derived.Test.YtpknaobmchmpdaaEh
namespace Go.Proofs.Ytpknaobmchmpdaa.suffixPeriods
open Go.Proofs.Ytpknaobmchmpdaa.Suf Go.Proofs.Ytpknaobmchmpdaa.Crt Go.RowKit Go.Maps
set_option maxRecDepth 100000
set_option linter.unusedVariables false
open Go.Proofs.Ytpknaobmchmpdaa.Reg
attribute [local go_sem ↓] Go.wp_at_zero Go.wp_at_succ
set_option maxHeartbeats 16000000 in
theorem walk (w : World) (l : Tx) (a : Option Addr) (cap : Nat) (hm : l.length ≤ maxLen) (hb : Bs w w.heap.size a l) (hn0 : a = none → cap = 0) (hc0 : l.length ≤ cap) :
    Calls Try.prog 7 #[.slice a l.length cap] w fun e w' => e = .returned (.bool true) ∧ Below w.heap.size w w' := by
  have HAW := Lib.hid (awake_any w)
  have Hhb := Lib.hid hb
  clear hb
  go_enter Try.func7, Try.ntmps7
  go_wp2_with fail
  refine HAW.out.mono ?_
  rintro e' w1 ⟨rfl, hb1⟩
  have HW := Lib.hid hb1
  have HBl : Hid (∀ X, Below w1.heap.size w1 X → Bs X X.heap.size a l) := Lib.hid fun X hX => ((Hhb.out.keep hb1).keep (hX.mono hb1.size)).more (Nat.le_trans hb1.size hX.size)
  clear hb1 HAW Hhb
  by_cases h1 : l.length ≤ 300
  · by_cases h0 : l = []
    · have hkl : ¬ (300 : Int) < (l.length : Int) := by omega
      have hz : ((l.length : Int) == 0) = true := by rw [h0]; rfl
      go_wp2
      go_ret
      exact ⟨rfl, HW.out⟩
    · have hkl : ¬ (300 : Int) < (l.length : Int) := by omega
      have hz : ((l.length : Int) == 0) = false := by simpa using h0
      have hpos := List.length_pos_iff.2 h0
      obtain ⟨b1, o1, rfl, hbx, hcx⟩ := HBl.out w1 (Below.refl _ _) hpos
      clear hbx hcx
      have HP := Lib.hid (fun X (hX : Below w1.heap.size w1 X) => period_any X l _ cap (HBl.out X hX) (by omega))
      have HBO := Lib.hid (fun X (hX : Below w1.heap.size w1 X) => borders_ic X l _ cap (HBl.out X hX) (by omega))
      have hpf := per_fl h0
      have hp1 := per_pos h0
      have hfl := fl_lt h0
      clear hn0
      go_wp2_with fail
      refine (HBO.out _ (Below.refl _ _)).mono ?_
      rintro e2 w2 ⟨a2, c2, rfl, hi2, hn2, hm2, b2⟩
      have HM2 := Lib.hid hm2
      clear hm2
      have HW2 := Lib.hid b2
      have HI2 := Lib.hid (fun X (hX : Below w2.heap.size w2 X) => (hi2.keep hX).more hX.size)
      clear b2 hi2
      go_wp2_with fail
      refine (HP.out _ HW2.out).mono ?_
      rintro e3 w3 ⟨rfl, b3⟩
      have HW3 := Lib.hid (HW2.out.trans (b3.mono HW2.out.size))
      have HI3 := Lib.hid (fun X (hX : Below w3.heap.size w3 X) => HI2.out X (b3.trans (hX.mono b3.size)))
      clear b3 HI2 HP
      have hself : ((per l : Int) != (per l : Int)) = false := by simp
      have hpl1 : ¬ (per l : Int) < 1 := by omega
      have hpl2 : ¬ (l.length : Int) < (per l : Int) := by have := per_le h0; omega
      have hd1 : decide ((per l : Int) < 1) = false := decide_eq_false (by omega)
      have hd2 : decide (l.length < per l) = false := decide_eq_false (by have := per_le h0; omega)
      have hd3 : decide ((300 : Int) < (l.length : Int)) = false := decide_eq_false (by omega)
      have hch := borders_chain l
      have hbl := bordTo_len l l.length
      change (borders l).length ≤ _ at hbl
      have hil := ints_length (borders l)
      rcases hB : borders l with _ | ⟨f, rest⟩
      · rw [hB] at hch HI3
        have hf0 : fl l = 0 := by
          by_cases e : fl l = 0
          · exact e
          · rw [if_neg e] at hch; cases hch
        have hpe : per l = l.length := by omega
        rw [show ints ([] : List Nat) = [] from rfl] at *
        have hself2 : ((l.length : Int) != (l.length : Int)) = false := by simp
        rw [hpe] at *
        clear hch hil hpf hf0
        have hM : (([] : List Int).length : Int) = 0 := rfl
        generalize ([] : List Int).length = M at *
        clear hself HI3 hpl1 hpl2 HBO
        go_wp2
        go_loopw [6] (fun i wr => i = .int .i64 0 ∧ wr = w3) (fun _ _ => 0)
        case atStart => exact ⟨rfl, rfl⟩
        case round =>
          obtain ⟨rfl, rfl⟩ := hrel
          go_wp2
          go_quiet (fail)
          go_wp2
          go_ret
          exact ⟨rfl, below_drews (HW.out.trans (HW3.out.mono HW.out.size)) _⟩
      · rw [hB] at hch HI3 hbl hil HBO HM2
        have hf0 : fl l ≠ 0 := by
          intro e
          rw [if_pos e] at hch; cases hch
        rw [if_neg hf0] at hch
        obtain ⟨rfl, hrest⟩ := List.cons.inj hch
        have HBD : Hid (∀ k (h : k < (fl l :: rest).length), Bord l (fl l :: rest)[k]) := Lib.hid fun k h => (mem_borders l _).1 (by rw [hB]; exact List.getElem_mem h)
        have HFA : Hid (∀ k (h : k + 1 < (fl l :: rest).length), (fl l :: rest)[k + 1] < (fl l :: rest)[k]) := Lib.hid fun k h => by
          have hp := bordTo_falls l l.length
          change (borders l).Pairwise _ at hp
          rw [hB] at hp
          exact (List.pairwise_iff_getElem.1 hp) k (k + 1) _ _ (by omega)
        have hM0 : 0 < (ints (fl l :: rest)).length := by rw [ints_length, List.length_cons]; omega
        obtain ⟨b2, o2, rfl, hbx, hcx⟩ := HI3.out w3 (Below.refl _ _) hM0
        clear hbx hcx
        have HC : Hid (∀ X, Below w3.heap.size w3 X → ∀ k (h : k < (fl l :: rest).length), X.cell? ⟨b2, o2 + k, none⟩ = some (.int .i64 ((fl l :: rest)[k] : Int))) := Lib.hid fun X hX k h => by
          obtain ⟨b', o', e, _, hc⟩ := HI3.out X hX hM0
          cases e
          have := hc k (by rw [ints_length]; exact h)
          rw [this]
          simp only [ints, List.getElem_map]
        have HRE := Lib.hid hrest
        have HLE := Lib.hid hil
        have hMl : (ints (fl l :: rest)).length ≤ 300 := by rw [ints_length]; omega
        generalize (ints (fl l :: rest)).length = M at *
        have hMi : (0 : Int) < (M : Int) := by omega
        have hc0 : w3.cell? ⟨b2, o2, none⟩ = some (.int .i64 (fl l : Int)) := HC.out w3 (Below.refl _ _) 0 (by simp)
        have hwr : wrap64 ((l.length : Int) - (fl l : Int)) = (per l : Int) := by rw [IntWalk.wrap64_in _ (by omega)]; omega
        have hq1 : ((per l : Int) != (l.length : Int) - (fl l : Int)) = false := by simp; omega
        have hq2 : ((M : Int) == 0) = false := by simp; omega
        have hf1 : (fl l : Int) < (l.length : Int) := by omega
        have HPF := Lib.hid hpf
        clear hrest hil hch hB hf0 HI3 HBO hbl hpf hn2 hself
        go_wp2
        clear hc0
        go_loopw [6] (fun i wr => ∃ k : Nat, k ≤ M ∧ i = .int .i64 (k : Int) ∧ Drew w3 wr) (fun i _ => M - (intOf i).toNat)
        case atStart => exact ⟨0, Nat.zero_le _, rfl, Drew.refl _⟩
        case round =>
          obtain ⟨k, hk, rfl, hdr⟩ := hrel
          have HD := Lib.hid hdr
          have HBw : Hid (Below w3.heap.size w3 wr) := Lib.hid (by obtain ⟨q, rfl⟩ := hdr; exact below_drews (Below.refl _ _) q)
          clear hdr
          by_cases hlt : k < M
          · have hkl : (k : Int) < (M : Int) := by omega
            have hk2 : k < (fl l :: rest).length := by rw [← HLE.out]; exact hlt
            have hck := HC.out wr HBw.out k hk2
            obtain ⟨hb1, hb2, hb3⟩ := HBD.out k hk2
            have HPRE : Hid (∀ k1, k1 + 1 = k → ∃ p : Nat, (∀ X, Below w3.heap.size w3 X → X.cell? ⟨b2, o2 + k1, none⟩ = some (.int .i64 (p : Int))) ∧ (fl l :: rest)[k] < p) := Lib.hid fun k1 e => by
              subst e
              exact ⟨_, fun X hX => HC.out X hX k1 (by omega), HFA.out k1 hk2⟩
            generalize (fl l :: rest)[k] = n at *
            obtain ⟨D, hD⟩ : ∃ D, D = l.length - n := ⟨_, rfl⟩
            have hsl1 := fun W => run_front b1 o1 l.length cap n (by omega) W
            have hsl2 := fun W => run_back b1 o1 l.length cap D (by omega) hc0 W
            have hcv1 : ∀ q, (convert 22 9 (.slice (some ⟨b1, o1, none⟩) n cap)).run Try.prog (wr.drewN q) = .ok (.string (str (l.take n))) (wr.drewN q) := fun q => str_front (HBl.out _ (HW3.out.trans ((below_drews HBw.out q).mono HW3.out.size))) n cap (by omega)
            have hcv2 : ∀ q, (convert 22 9 (.slice (some ⟨b1, o1 + D, none⟩) (l.length - D) (cap - D))).run Try.prog (wr.drewN q) = .ok (.string (str (l.take n))) (wr.drewN q) := fun q => by
              rw [hb3, ← hD]
              exact str_back (HBl.out _ (HW3.out.trans ((below_drews HBw.out q).mono HW3.out.size))) D _
            have hws : IntKind.i64.wrap ((l.length : Int) - (n : Int)) = (D : Int) := by rw [IntWalk.i64_in _ (by omega)]; omega
            have hg1 : decide ((n : Int) < 1) = false := decide_eq_false (by omega)
            have hg2 : decide ((l.length : Int) ≤ (n : Int)) = false := decide_eq_false (by omega)
            have hg7 : decide (l.length ≤ n) = false := decide_eq_false (by omega)
            clear hb3 hD
            by_cases hk0 : k = 0
            · subst hk0
              clear HPRE hkl
              rw [Nat.add_zero] at hck
              go_wp2
              clear hck
              refine wp_region_quiet_lit (by kernel_rfl) (by kernel_rfl) ?_
              refine wpQuiet_step (fun K hK => ?_)
              go_simp
              repeat
                (generalize hX : Act.mk _ _ = X
                 refine hK _ ?_
                 clear hK K
                 refine wpQuiet_step (fun K hK => ?_)
                 subst hX
                 go_simp)
              generalize hX : Act.mk _ _ = X
              refine hK _ ?_
              clear hK K
              refine wpQuiet_nil ?_
              intro _ hw'
              obtain ⟨nq, hw''⟩ := hw'
              subst hw''
              subst hX
              go_wp2
              exact ⟨⟨1, hlt, rfl, HD.out.more _⟩, by simp [intOf]; omega⟩
            · obtain ⟨k1, hk1⟩ : ∃ k1, k1 + 1 = k := ⟨k - 1, by omega⟩
              obtain ⟨P, hP, hnP⟩ := HPRE.out k1 hk1
              have hcP := hP wr HBw.out
              have hg3 : decide ((0 : Int) < (k : Int)) = true := decide_eq_true (by omega)
              have hg4 : decide ((P : Int) ≤ (n : Int)) = false := decide_eq_false (by omega)
              have hwk : IntKind.i64.wrap ((k : Int) - 1) = (k1 : Int) := by rw [IntWalk.i64_in _ (by omega)]; omega
              have hk1M : k1 < M := by omega
              have hk1M2 : (k1 : Int) < (M : Int) := by omega
              have hg5 : 0 < k := by omega
              have hg6 : ¬ P ≤ n := by omega
              have hg8 : decide (P ≤ n) = false := decide_eq_false hg6
              clear hk0 hk1 hP
              go_wp2
              clear hck
              refine wp_region_quiet_lit (by kernel_rfl) (by kernel_rfl) ?_
              refine wpQuiet_step (fun K hK => ?_)
              go_simp
              repeat
                (generalize hX : Act.mk _ _ = X
                 refine hK _ ?_
                 clear hK K
                 refine wpQuiet_step (fun K hK => ?_)
                 subst hX
                 go_simp)
              generalize hX : Act.mk _ _ = X
              refine hK _ ?_
              clear hK K
              refine wpQuiet_nil ?_
              intro _ hw'
              obtain ⟨nq, hw''⟩ := hw'
              subst hw''
              subst hX
              go_wp2
              exact ⟨⟨k + 1, hlt, by go_num, HD.out.more _⟩, by simp [intOf]; omega⟩
          · have hkl : ¬ (k : Int) < (M : Int) := by omega
            have HC0 : Hid (∀ X, Below w3.heap.size w3 X → X.cell? ⟨b2, o2, none⟩ = some (.int .i64 (fl l : Int))) := Lib.hid fun X hX => HC.out X hX 0 (by simp)
            have hsl1 := fun W => run_front b1 o1 l.length cap (fl l) (by omega) W
            obtain ⟨A, hsl2, hA⟩ := run_rest b2 o2 M c2 hM0 HM2.out
            have HA := Lib.hid hA
            have HBF : Hid (∀ X, Below w3.heap.size w3 X → Calls Try.prog 15 #[.slice (some ⟨b1, o1, none⟩) (fl l) cap] X (Lnk.GivesInts X (ints rest))) := Lib.hid fun X hX => by
              have := borders_any X (l.take (fl l)) _ cap (bs_front (HBl.out X (HW3.out.trans (hX.mono HW3.out.size))) (fl l)) (by rw [List.length_take]; omega)
              rwa [List.length_take, Nat.min_eq_left (by omega), ← HRE.out] at this
            have HRL : Hid ((ints rest).length = M - 1) := Lib.hid (by rw [ints_length, HLE.out]; simp)
            have HIR : Hid (∀ X, Below w3.heap.size w3 X → Lnk.Is X X.heap.size (some A) (ints rest)) := Lib.hid fun X hX h0 => by
              rw [HRL.out] at h0
              have hM2 : 1 < M := by omega
              refine ⟨b2, o2 + 1, by rw [HA.out hM2], ?_, fun i hi => ?_⟩
              · have := HC.out X hX 0 (by simp)
                exact Tri.cell_lt0 this
              · have hi2 : i < rest.length := by rw [ints_length] at hi; exact hi
                have := HC.out X hX (i + 1) (by simp; exact hi2)
                rw [show o2 + 1 + i = o2 + (i + 1) by omega, this]
                simp [ints]
            clear hA hfl
            go_wp2
            refine wp_region_held_drew (S := fun w' => Below wr.drew.heap.size wr.drew w') (by kernel_rfl) (Below.refl _ _) (fun hH0 => ?_)
            have B0 := Lib.hid (below_drews HBw.out 1)
            change Hid (Below _ _ wr.drew) at B0
            generalize wr.drew = x0 at *
            refine held_take (i := 0) (d := 102) (oi := _) (v := ?_) rfl rfl (by kernel_rfl) (by kernel_rfl) (by kernel_rfl) (fun _ _ _ h => h) (Or.inl ⟨by rfl, ?_⟩) (by assumption) ?_
            rotate_left
            · (intro w hSw; clear hSw; go_simp; (try with_reducible rfl))
            simp only [Act.put, List.setIfInBounds_toArray, List.set_cons_zero, List.set_cons_succ]
            refine held_take (i := 1) (d := 103) (oi := _) (v := ?_) rfl rfl (by kernel_rfl) (by kernel_rfl) (by kernel_rfl) (fun _ _ _ h => h) (Or.inl ⟨by rfl, ?_⟩) (by assumption) ?_
            rotate_left
            · (intro w hSw; clear hSw; go_simp; (try with_reducible rfl))
            simp only [Act.put, List.setIfInBounds_toArray, List.set_cons_zero, List.set_cons_succ]
            refine held_take (i := 2) (d := 104) (oi := _) (v := ?_) rfl rfl (by kernel_rfl) (by kernel_rfl) (by kernel_rfl) (fun _ _ _ h => h) (Or.inl ⟨by rfl, ?_⟩) (by assumption) ?_
            rotate_left
            · (intro w hSw; clear hSw; go_simp; (try with_reducible rfl))
            simp only [Act.put, List.setIfInBounds_toArray, List.set_cons_zero, List.set_cons_succ]
            refine held_take (i := 3) (d := 105) (oi := _) (v := ?_) rfl rfl (by kernel_rfl) (by kernel_rfl) (by kernel_rfl) (fun _ _ _ h => h) (Or.inl ⟨by rfl, ?_⟩) (by assumption) ?_
            rotate_left
            · (intro w hSw; clear hSw; go_simp; (try with_reducible rfl))
            simp only [Act.put, List.setIfInBounds_toArray, List.set_cons_zero, List.set_cons_succ]
            refine held_take (i := 4) (d := 106) (oi := _) (v := ?_) rfl rfl (by kernel_rfl) (by kernel_rfl) (by kernel_rfl) (fun _ _ _ h => h) (Or.inl ⟨by rfl, ?_⟩) (by assumption) ?_
            rotate_left
            · (intro w hSw; clear hSw; go_simp; (try with_reducible rfl))
            simp only [Act.put, List.setIfInBounds_toArray, List.set_cons_zero, List.set_cons_succ]
            refine held_take (i := 5) (d := 107) (oi := _) (v := ?_) rfl rfl (by kernel_rfl) (by kernel_rfl) (by kernel_rfl) (fun _ _ _ h => h) (Or.inl ⟨by rfl, ?_⟩) (by assumption) ?_
            rotate_left
            · (intro w hSw; clear hSw; go_simp; (try with_reducible rfl))
            simp only [Act.put, List.setIfInBounds_toArray, List.set_cons_zero, List.set_cons_succ]
            refine held_take (i := 6) (d := 108) (oi := _) (v := ?_) rfl rfl (by kernel_rfl) (by kernel_rfl) (by kernel_rfl) (fun _ _ _ h => h) (Or.inl ⟨by rfl, ?_⟩) (by assumption) ?_
            rotate_left
            · (intro w hSw; clear hSw; go_simp; (try with_reducible rfl))
            simp only [Act.put, List.setIfInBounds_toArray, List.set_cons_zero, List.set_cons_succ]
            refine held_take (i := 7) (d := 109) (oi := _) (v := ?_) rfl rfl (by kernel_rfl) (by kernel_rfl) (by kernel_rfl) (fun _ _ _ h => h) (Or.inl ⟨by rfl, ?_⟩) (by assumption) ?_
            rotate_left
            · (intro w hSw; have hld := HC0.out w (B0.out.trans (hSw.mono B0.out.size)); clear hSw; go_simp; (try with_reducible rfl))
            simp only [Act.put, List.setIfInBounds_toArray, List.set_cons_zero, List.set_cons_succ]
            refine held_take (i := 8) (d := 110) (oi := _) (v := ?_) rfl rfl (by kernel_rfl) (by kernel_rfl) (by kernel_rfl) (fun _ _ _ h => h) (Or.inl ⟨by rfl, ?_⟩) (by assumption) ?_
            rotate_left
            · (intro w hSw; clear hSw; go_simp; (try with_reducible rfl))
            simp only [Act.put, List.setIfInBounds_toArray, List.set_cons_zero, List.set_cons_succ]
            refine held_take (i := 10) (d := 112) (oi := _) (v := ?_) rfl rfl (by kernel_rfl) (by kernel_rfl) (by kernel_rfl) (fun _ _ _ h => h) (Or.inl ⟨by rfl, ?_⟩) (by assumption) ?_
            rotate_left
            · (intro w hSw; clear hSw; go_simp; (try with_reducible rfl))
            simp only [Act.put, List.setIfInBounds_toArray, List.set_cons_zero, List.set_cons_succ]
            refine held_take (i := 11) (d := 113) (oi := _) (v := ?_) rfl rfl (by kernel_rfl) (by kernel_rfl) (by kernel_rfl) (fun _ _ _ h => h) (Or.inl ⟨by rfl, ?_⟩) (by assumption) ?_
            rotate_left
            · (intro w hSw; clear hSw; go_simp; (try with_reducible rfl))
            simp only [Act.put, List.setIfInBounds_toArray, List.set_cons_zero, List.set_cons_succ]
            refine wpAnyH_ready (rs := [9]) (by kernel_rfl) (by simp) ?_
            refine AllReadyH.cons rfl (fun K hK => ?_) AllReadyH.nil
            go_simp
            go_wp2_with (go_at_call 15; (with_reducible refine (HBF.out _ B0.out).mono ?_); rintro e x1 ⟨aIA, cIA, rfl, hix, _, hb⟩)
            have IA := Lib.hid (fun (w' : World) (h : Below x1.heap.size x1 w') => (hix.keep h).more h.size)
            clear hix
            refine hK.out _ _ hb (fun _ => ?_)
            have B1 := Lib.hid (B0.out.trans (hb.mono B0.out.size))
            refine wpAnyH_more (S' := fun w' => Below x1.heap.size x1 w') (fun w' h => hb.trans (h.mono hb.size)) _ _ _ _ ?_
            have hH1 : Below x1.heap.size x1 x1 := Below.refl _ _
            clear hK K hH0 hb B0
            have C12 := Lib.hid (isame_len x1 (ints rest) (ints rest) (M - 1) HRL.out aIA (some A) cIA (c2 - 1) _ (IA.out _ (Below.refl _ _)) (HIR.out _ B1.out) (by rw [HRL.out]; omega) (by rw [HRL.out]; omega))
            rw [decide_eq_true rfl] at C12
            refine wpAnyH_ready (rs := [12]) (by kernel_rfl) (by simp) ?_
            refine AllReadyH.cons rfl (fun K hK => ?_) AllReadyH.nil
            go_simp
            go_wp2_with (go_at_call 14; (with_reducible refine (C12.out).mono ?_); rintro e x' ⟨rfl, q, rfl⟩)
            have hb : Below x1.heap.size x1 (x1.drewN q) := below_drews (Below.refl _ _) q
            generalize x1.drewN q = x2 at *
            refine hK.out _ _ hb (fun _ => ?_)
            have B2 := Lib.hid (B1.out.trans (hb.mono B1.out.size))
            refine wpAnyH_more (S' := fun w' => Below x2.heap.size x2 w') (fun w' h => hb.trans (h.mono hb.size)) _ _ _ _ ?_
            have hH2 : Below x2.heap.size x2 x2 := Below.refl _ _
            clear hK K hH1 hb B1
            clear C12 IA
            refine held_take (i := 13) (d := 115) (oi := _) (v := ?_) rfl rfl (by kernel_rfl) (by kernel_rfl) (by kernel_rfl) (fun _ _ _ h => h) (Or.inl ⟨by rfl, ?_⟩) (by assumption) ?_
            rotate_left
            · (intro w hSw; clear hSw; go_simp; (try with_reducible rfl))
            simp only [Act.put, List.setIfInBounds_toArray, List.set_cons_zero, List.set_cons_succ]
            refine held_take (i := 14) (d := 2) (oi := _) (v := ?_) rfl rfl (by kernel_rfl) (by kernel_rfl) (by kernel_rfl) (fun _ _ _ h => h) (Or.inl ⟨by rfl, ?_⟩) (by assumption) ?_
            rotate_left
            · (intro w hSw; clear hSw; go_simp; (try with_reducible rfl))
            simp only [Act.put, List.setIfInBounds_toArray, List.set_cons_zero, List.set_cons_succ]
            refine wpAnyH_done (by kernel_rfl) ?_ _
            go_wp2
            go_ret
            exact ⟨rfl, (HW.out.trans (HW3.out.mono HW.out.size)).trans (B2.out.mono (Nat.le_trans HW.out.size HW3.out.size))⟩
  · have hkl : (300 : Int) < (l.length : Int) := by omega
    go_wp2
    go_ret
    exact ⟨rfl, HW.out⟩
end Go.Proofs.Ytpknaobmchmpdaa.suffixPeriods
