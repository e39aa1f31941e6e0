/- The walk of DfaClasses. -/
import Derived.Test.YtnbfdjpmppflmaaDi
namespace Go.Proofs.Ytnbfdjpmppflmaa.dfaClasses
open Go.Proofs.Ytnbfdjpmppflmaa.Tri Go.Proofs.Ytnbfdjpmppflmaa.Lnk Go.Proofs.Ytnbfdjpmppflmaa.Prs Go.Proofs.Ytnbfdjpmppflmaa.Reg Go.Proofs.Ytnbfdjpmppflmaa.Dfa Go.RowKit Go.Maps
set_option maxRecDepth 100000
set_option linter.unusedVariables false
attribute [local go_sem ↓] Met.eql_counts

set_option maxHeartbeats 8000000 in
theorem small (w : World) (xs : List TxV) (a0 : Option Addr) (cap0 : Nat) (hts : Ts w a0 xs) (h0 : xs.length ≤ 12) (hx : ∀ x ∈ xs, x.text.length ≤ 40) (n : Int) (a b : UInt8) :
    Calls Try.prog 8 #[.slice a0 xs.length cap0, .int .i64 n, .int .u8 (a.toNat : Int), .int .u8 (b.toNat : Int)] w fun e w' => e = .returned (.bool true) ∧ Below w.heap.size w w' := by
  have hx' : ∀ x ∈ xs, x.text.length ≤ maxLen := fun x h => Nat.le_trans (hx x h) (by unfold maxLen; omega)
  have htot := Spa.few_tot h0 hx
  have HX := Lib.hid hx
  have HX' := Lib.hid hx'
  have HAW := Lib.hid (Dfa.awake_any w)
  clear hx hx'
  go_enter Try.func8, Try.ntmps8
  go_wp2_with fail
  refine HAW.out.mono ?_
  rintro e' w1 ⟨rfl, hb2⟩
  have ts1 := hts.keep hb2
  go_wp2_with fail
  refine (ltexts_any xs a0 cap0 w1 ts1 (by omega) HX'.out).mono ?_
  rintro e' w2 ⟨hb3, hcase⟩
  rcases hcase with ⟨hbad, _⟩ | ⟨_, aL, cL, rfl, hsL⟩
  · exact absurd HX.out hbad
  rw [decide_eq_true h0]
  have HTS := Lib.hid (ts1.keep hb3)
  have HB := Lib.hid (hb2.trans (hb3.mono hb2.size))
  have hszw := HB.out.size
  obtain ⟨l, hl⟩ : ∃ l, l = xs.map TxV.text := ⟨_, rfl⟩
  have HNEW : Hid ((paths l).length ≤ 160 → ∀ X, Below w2.heap.size w2 X → Calls Try.prog 13 #[.slice a0 xs.length cap0] X (GivesDt X l)) := Lib.hid fun hn X hX => by
    have := dnew_any X xs a0 cap0 (HTS.out.keep hX) (by omega) (by omega) (fun x h => Nat.le_trans (HX.out x h) (by omega)) (by rw [← hl]; exact hn)
    rwa [← hl] at this
  have HOVER : Hid (160 < (paths l).length → ∀ X, Below w2.heap.size w2 X → Calls Try.prog 13 #[.slice a0 xs.length cap0] X (GivesNone X)) := Lib.hid fun hn X hX =>
    dnew_over X xs a0 cap0 (HTS.out.keep hX) (by omega) (by omega) (by rw [← hl]; exact hn)
  have HLN : Hid (xs.length = l.length) := Lib.hid (by rw [hl]; simp)
  have HLL := Lib.hid hl
  have HL40 : Hid (∀ x ∈ l, x.length ≤ 40) := Lib.hid fun x h => by
    rw [hl] at h
    obtain ⟨y, hy, rfl⟩ := List.mem_map.1 h
    exact HX.out y hy
  rw [← hl] at hsL htot
  have HSL := Lib.hid hsL
  have HPT : Hid (∀ X, Below w2.heap.size w2 X → Calls Try.prog 14 #[.slice aL xs.length cL] X (GivesSs X (paths l))) := Lib.hid fun X hX => by
    have := paths_any X l aL cL (HSL.out.keep hX) (by rw [← HLN.out]; omega) (by omega)
    rwa [← HLN.out] at this
  have hps : (paths l).length ≤ 481 := by have := paths_len l; omega
  have HW := Lib.hid (paths_wf l)
  clear HAW hb2 hb3 ts1 hsL hts hl HX'
  clear HPT HX HSL
  by_cases hn : (paths l).length ≤ 160
  · have HN := Lib.hid (HNEW.out hn w2 (Below.refl _ _))
    have HOF : Hid (∀ X, Below w2.heap.size w2 X → Calls Try.prog 31 #[.slice a0 xs.length cap0] X fun e w' => e = .returned (.agg (Cls.cc (Cls.stands l))) ∧ Below X.heap.size X w') := Lib.hid fun X hX => by
      have := Cls.of_any9 xs a0 cap0 X (HTS.out.keep hX) (by omega) (fun x h => by
        have := HL40.out x.text (by rw [HLL.out]; exact List.mem_map_of_mem h)
        omega)
      rwa [← HLL.out] at this
    have HCS := Lib.hid (Cls.cc_size (Cls.stands l))
    have HCO := Lib.hid (Cls.cc_one (Cls.stands l))
    have HCA := Lib.hid (fun X => Cls.class_any (Cls.stands l) a X)
    have HCB := Lib.hid (fun X => Cls.class_any (Cls.stands l) b X)
    have HCL := Lib.hid (fun X => Cls.len_any (Cls.stands l) X)
    have HZ := Lib.hid (Cls.cc_size (fun _ => false))
    have hz60 := Cls.zero29
    generalize Cls.cc (fun _ => false) = z at *
    generalize Cls.cc (Cls.stands l) = cs at *
    clear HNEW HTS HOVER HL40 HLL
    go_wp2_with fail
    refine HN.out.mono ?_
    rintro e5 w5 ⟨t, rfl, hD, b5⟩
    have HD := Lib.hid hD
    have HO5 := Lib.hid (HOF.out w5 b5)
    have HB5 := Lib.hid b5
    clear hD b5 HN HOF
    go_wp2_with fail
    refine HO5.out.mono ?_
    rintro e6 w6 ⟨rfl, b6⟩
    have HG := Lib.hid (heap_alloc_new w6 (.cells z 60))
    have HB6 := Lib.hid b6
    clear b6 HO5
    go_wp2_with (with_reducible refine wpList_store_row rfl 60 (.tmp 14) (.tmp 37) rfl w6.heap.size cs rfl rfl 60 z HG.out (by rw [HCS.out]; exact Cls.size29) (by rw [HCS.out, HZ.out]) HCO.out ?_)
    have es : (w6.alloc (.cells z 60)).setRow w6.heap.size cs = w6.alloc (.cells cs 60) := World.setRow_alloc_new _ _ _ _
    have hb7 := HB6.out.alloc HB6.out.size (.cells cs 60)
    have HG7 := Lib.hid (heap_alloc_new w6 (.cells cs 60))
    rw [es]
    generalize w6.heap.size = g at *
    generalize w6.alloc (.cells cs 60) = w7 at *
    have HB7 := Lib.hid hb7
    have HBW : Hid (Below w7.heap.size w7 w7) := Lib.hid (Below.refl _ _)
    have HD7 := Lib.hid (HD.out.keep hb7)
    have HNA := Lib.hid (fun X (hX : Below w7.heap.size w7 X) => dnext_at X _ t l (HD7.out.keep hX) n a)
    have HNB := Lib.hid (fun X (hX : Below w7.heap.size w7 X) => dnext_at X _ t l (HD7.out.keep hX) n b)
    have HST := Lib.hid (fun X (hX : Below w7.heap.size w7 X) => dstates_at X _ t l (HD7.out.keep hX))
    have HWI := Lib.hid (fun X (hX : Below w7.heap.size w7 X) => dwidth_at X _ t l (HD7.out.keep hX))
    have HR : Hid (∀ X, Below w7.heap.size w7 X → (loadVar 60 ⟨g, 0, none⟩).run Try.prog X = .ok (.agg cs) X) := Lib.hid fun X hX => Cls.load29 HCS.out HG7.out hX
    clear es hb7 HB6 HD HG hz60 HZ
    go_wp2_with fail
    refine (HNA.out _ (Below.refl _ _)).mono ?_
    rintro e8 w8 ⟨rfl, q8, rfl⟩
    have B8 : Below w7.heap.size w7 (w7.drewN q8) := below_drews (Below.refl _ _) q8
    go_wp2_with fail
    refine (HNB.out _ B8).mono ?_
    rintro e9 w9 ⟨rfl, q9, rfl⟩
    have HB9 := Lib.hid (below_drews B8 q9)
    clear HNA HNB B8
    generalize (w7.drewN q8).drewN q9 = w9 at *
    have HBZ := Lib.hid (HB.out.trans ((HB5.out.trans ((HB7.out.trans (HB9.out.mono HB7.out.size)).mono HB5.out.size)).mono hszw))
    by_cases hin : 0 ≤ n ∧ n < (paths l).length
    · obtain ⟨i, rfl⟩ : ∃ i : Nat, n = (i : Int) := ⟨n.toNat, by omega⟩
      have hi : i < (paths l).length := by omega
      have hil : (i : Int) < ((paths l).length : Int) := by omega
      have hil2 : ¬ (((paths l).length : Int) ≤ (i : Int)) := by omega
      rw [next_at hi, next_at hi]
      clear hin
      go_wp2_with (go_at_call 19; (with_reducible refine (HST.out _ HB9.out).mono ?_); rintro e10 w10 ⟨rfl, rfl⟩)
      have HBW9 : Hid (Below w9.heap.size w9 w9) := Lib.hid (Below.refl _ _)
      have hs9 := HB9.out.size
      have HR9 : Hid (∀ X, Below w9.heap.size w9 X → (loadVar 60 ⟨g, 0, none⟩).run Try.prog X = .ok (.agg cs) X) := Lib.hid fun X hX => HR.out X (HB9.out.trans (hX.mono hs9))
      have HCA9 : Hid (∀ X, Below w9.heap.size w9 X → Calls Try.prog 32 #[.agg cs, .int .u8 (a.toNat : Int)] X fun e w' => e = .returned (.int .i64 (Cls.cls (Cls.stands l) a : Int)) ∧ Below X.heap.size X w') := Lib.hid fun X _ => HCA.out X
      have HCB9 : Hid (∀ X, Below w9.heap.size w9 X → Calls Try.prog 32 #[.agg cs, .int .u8 (b.toNat : Int)] X fun e w' => e = .returned (.int .i64 (Cls.cls (Cls.stands l) b : Int)) ∧ Below X.heap.size X w') := Lib.hid fun X _ => HCB.out X
      have HCL9 : Hid (∀ X, Below w9.heap.size w9 X → Calls Try.prog 33 #[.agg cs] X fun e w' => e = .returned (.int .i64 ((Cls.cnt (Cls.stands l) : Int) + 1)) ∧ Below X.heap.size X w') := Lib.hid fun X _ => HCL.out X
      have HST9 := Lib.hid (fun X (hX : Below w9.heap.size w9 X) => HST.out X (HB9.out.trans (hX.mono hs9)))
      have HWI9 := Lib.hid (fun X (hX : Below w9.heap.size w9 X) => HWI.out X (HB9.out.trans (hX.mono hs9)))
      have hwself : ((((Cls.cnt (Cls.stands l) : Int) + 1)) == ((Cls.cnt (Cls.stands l) : Int) + 1)) = true := beq_self_eq_true _
      have HE : Hid (Cls.cls (Cls.stands l) a = Cls.cls (Cls.stands l) b → place (paths l) (Spa.stepT (paths l) a (paths l)[i]) = place (paths l) (Spa.stepT (paths l) b (paths l)[i])) := Lib.hid fun h => by rw [step_cls h]
      have HZE : Hid (Cls.cls (Cls.stands l) a = 0 → place (paths l) (Spa.stepT (paths l) a (paths l)[i]) = 0) := Lib.hid fun h => by
        rw [Dfa.step_none (by cases hs : Cls.stands l a with | false => rfl | true => (have := (Cls.cls_pos (Cls.stands l) a).2 hs; omega)), Lnk.place_nil HW.out]
      have hX0 : 0 ≤ place (paths l) (Spa.stepT (paths l) a (paths l)[i]) := (place_nonneg _ _).2 (Spa.stepT_mem HW.out a _)
      have hX1 : place (paths l) (Spa.stepT (paths l) a (paths l)[i]) < ((paths l).length : Int) := place_lt _ _
      clear HST HWI HCA HCB HCL HR HW HD7 HBW HG7 HCO
      generalize place (paths l) (Spa.stepT (paths l) a (paths l)[i]) = X at *
      generalize place (paths l) (Spa.stepT (paths l) b (paths l)[i]) = Y at *
      generalize Cls.cls (Cls.stands l) a = ka at *
      generalize Cls.cls (Cls.stands l) b = kb at *
      by_cases hE : ka = kb
      · have hXY := HE.out hE
        subst hXY
        subst hE
        have hb1 : ((ka : Int) != (ka : Int)) = false := by simp
        have hb2 : (X == X) = true := beq_self_eq_true _
        clear HE
        by_cases hZ : ka = 0
        · have hX := HZE.out hZ
          subst hX
          subst hZ
          have hp0 : decide (0 < (paths l).length) = true := decide_eq_true (by omega)
          clear HZE hb1 hb2
          go_wp2
          refine wp_region_held_drew (S := fun w' => Below w9.drew.heap.size w9.drew w') (by kernel_rfl) (Below.refl _ _) (fun hH0 => ?_)
          have B0 := Lib.hid (below_drews HBW9.out 1)
          change Hid (Below _ _ w9.drew) at B0
          generalize w9.drew = y0 at *
          refine held_take (i := 0) (d := 60) (oi := _) (v := _) rfl rfl (by kernel_rfl) (by kernel_rfl) (by kernel_rfl) (fun _ _ _ h => h) (Or.inl ⟨by rfl, fun w hSw => Cls.exec_load rfl rfl (HR9.out w (B0.out.trans (hSw.mono B0.out.size)))⟩) (by assumption) ?_
          simp only [Act.put, List.setIfInBounds_toArray, List.set_cons_zero, List.set_cons_succ]
          refine held_take (i := 1) (d := 61) (oi := _) (v := ?_) rfl rfl (by kernel_rfl) (by kernel_rfl) (by kernel_rfl) (fun _ _ _ h => h) (Or.inl ⟨by rfl, ?_⟩) (by assumption) ?_
          rotate_left
          · (intro w hSw; clear hSw; go_simp; (try with_reducible rfl))
          simp only [Act.put, List.setIfInBounds_toArray, List.set_cons_zero, List.set_cons_succ]
          refine held_take (i := 3) (d := 63) (oi := _) (v := _) rfl rfl (by kernel_rfl) (by kernel_rfl) (by kernel_rfl) (fun _ _ _ h => h) (Or.inl ⟨by rfl, fun w hSw => Cls.exec_load rfl rfl (HR9.out w (B0.out.trans (hSw.mono B0.out.size)))⟩) (by assumption) ?_
          simp only [Act.put, List.setIfInBounds_toArray, List.set_cons_zero, List.set_cons_succ]
          refine held_take (i := 4) (d := 64) (oi := _) (v := ?_) rfl rfl (by kernel_rfl) (by kernel_rfl) (by kernel_rfl) (fun _ _ _ h => h) (Or.inl ⟨by rfl, ?_⟩) (by assumption) ?_
          rotate_left
          · (intro w hSw; clear hSw; go_simp; (try with_reducible rfl))
          simp only [Act.put, List.setIfInBounds_toArray, List.set_cons_zero, List.set_cons_succ]
          refine wpAnyH_ready (rs := [2]) (by kernel_rfl) (by simp) ?_
          refine AllReadyH.cons rfl (fun K hK => ?_) AllReadyH.nil
          go_simp
          go_wp2_with (go_at_call 32; (with_reducible refine (HCA9.out _ B0.out).mono ?_); rintro e x1 ⟨rfl, hb⟩)
          refine hK.out _ _ hb (fun _ => ?_)
          have B1 := Lib.hid (B0.out.trans (hb.mono B0.out.size))
          refine wpAnyH_more (S' := fun w' => Below x1.heap.size x1 w') (fun w' h => hb.trans (h.mono hb.size)) _ _ _ _ ?_
          have hH1 : Below x1.heap.size x1 x1 := Below.refl _ _
          clear hK K hH0 hb B0
          refine wpAnyH_ready (rs := [5]) (by kernel_rfl) (by simp) ?_
          refine AllReadyH.cons rfl (fun K hK => ?_) AllReadyH.nil
          go_simp
          go_wp2_with (go_at_call 32; (with_reducible refine (HCB9.out _ B1.out).mono ?_); rintro e x2 ⟨rfl, hb⟩)
          refine hK.out _ _ hb (fun _ => ?_)
          have B2 := Lib.hid (B1.out.trans (hb.mono B1.out.size))
          refine wpAnyH_more (S' := fun w' => Below x2.heap.size x2 w') (fun w' h => hb.trans (h.mono hb.size)) _ _ _ _ ?_
          have hH2 : Below x2.heap.size x2 x2 := Below.refl _ _
          clear hK K hH1 hb B1
          refine held_take (i := 6) (d := 66) (oi := _) (v := ?_) rfl rfl (by kernel_rfl) (by kernel_rfl) (by kernel_rfl) (fun _ _ _ h => h) (Or.inl ⟨by rfl, ?_⟩) (by assumption) ?_
          rotate_left
          · (intro w hSw; clear hSw; go_simp; (try with_reducible rfl))
          simp only [Act.put, List.setIfInBounds_toArray, List.set_cons_zero, List.set_cons_succ]
          refine held_take (i := 7) (d := 67) (oi := _) (v := ?_) rfl rfl (by kernel_rfl) (by kernel_rfl) (by kernel_rfl) (fun _ _ _ h => h) (Or.inl ⟨by rfl, ?_⟩) (by assumption) ?_
          rotate_left
          · (intro w hSw; clear hSw; go_simp; (try with_reducible rfl))
          simp only [Act.put, List.setIfInBounds_toArray, List.set_cons_zero, List.set_cons_succ]
          refine held_take (i := 8) (d := 68) (oi := _) (v := ?_) rfl rfl (by kernel_rfl) (by kernel_rfl) (by kernel_rfl) (fun _ _ _ h => h) (Or.inl ⟨by rfl, ?_⟩) (by assumption) ?_
          rotate_left
          · (intro w hSw; clear hSw; go_simp; (try with_reducible rfl))
          simp only [Act.put, List.setIfInBounds_toArray, List.set_cons_zero, List.set_cons_succ]
          refine held_take (i := 9) (d := 69) (oi := _) (v := ?_) rfl rfl (by kernel_rfl) (by kernel_rfl) (by kernel_rfl) (fun _ _ _ h => h) (Or.inl ⟨by rfl, ?_⟩) (by assumption) ?_
          rotate_left
          · (intro w hSw; clear hSw; go_simp; (try with_reducible rfl))
          simp only [Act.put, List.setIfInBounds_toArray, List.set_cons_zero, List.set_cons_succ]
          refine held_take (i := 10) (d := 70) (oi := _) (v := ?_) rfl rfl (by kernel_rfl) (by kernel_rfl) (by kernel_rfl) (fun _ _ _ h => h) (Or.inl ⟨by rfl, ?_⟩) (by assumption) ?_
          rotate_left
          · (intro w hSw; clear hSw; go_simp; (try with_reducible rfl))
          simp only [Act.put, List.setIfInBounds_toArray, List.set_cons_zero, List.set_cons_succ]
          refine held_take (i := 11) (d := 71) (oi := _) (v := ?_) rfl rfl (by kernel_rfl) (by kernel_rfl) (by kernel_rfl) (fun _ _ _ h => h) (Or.inl ⟨by rfl, ?_⟩) (by assumption) ?_
          rotate_left
          · (intro w hSw; clear hSw; go_simp; (try with_reducible rfl))
          simp only [Act.put, List.setIfInBounds_toArray, List.set_cons_zero, List.set_cons_succ]
          refine held_take (i := 12) (d := 72) (oi := _) (v := ?_) rfl rfl (by kernel_rfl) (by kernel_rfl) (by kernel_rfl) (fun _ _ _ h => h) (Or.inl ⟨by rfl, ?_⟩) (by assumption) ?_
          rotate_left
          · (intro w hSw; clear hSw; go_simp; (try with_reducible rfl))
          simp only [Act.put, List.setIfInBounds_toArray, List.set_cons_zero, List.set_cons_succ]
          refine held_take (i := 13) (d := 73) (oi := _) (v := _) rfl rfl (by kernel_rfl) (by kernel_rfl) (by kernel_rfl) (fun _ _ _ h => h) (Or.inl ⟨by rfl, fun w hSw => Cls.exec_load rfl rfl (HR9.out w (B2.out.trans (hSw.mono B2.out.size)))⟩) (by assumption) ?_
          simp only [Act.put, List.setIfInBounds_toArray, List.set_cons_zero, List.set_cons_succ]
          refine held_take (i := 14) (d := 74) (oi := _) (v := ?_) rfl rfl (by kernel_rfl) (by kernel_rfl) (by kernel_rfl) (fun _ _ _ h => h) (Or.inl ⟨by rfl, ?_⟩) (by assumption) ?_
          rotate_left
          · (intro w hSw; clear hSw; go_simp; (try with_reducible rfl))
          simp only [Act.put, List.setIfInBounds_toArray, List.set_cons_zero, List.set_cons_succ]
          refine wpAnyH_ready (rs := [15]) (by kernel_rfl) (by simp) ?_
          refine AllReadyH.cons rfl (fun K hK => ?_) AllReadyH.nil
          go_simp
          go_wp2_with (go_at_call 32; (with_reducible refine (HCA9.out _ B2.out).mono ?_); rintro e x3 ⟨rfl, hb⟩)
          refine hK.out _ _ hb (fun _ => ?_)
          have B3 := Lib.hid (B2.out.trans (hb.mono B2.out.size))
          refine wpAnyH_more (S' := fun w' => Below x3.heap.size x3 w') (fun w' h => hb.trans (h.mono hb.size)) _ _ _ _ ?_
          have hH3 : Below x3.heap.size x3 x3 := Below.refl _ _
          clear hK K hH2 hb B2
          refine held_take (i := 16) (d := 76) (oi := _) (v := ?_) rfl rfl (by kernel_rfl) (by kernel_rfl) (by kernel_rfl) (fun _ _ _ h => h) (Or.inl ⟨by rfl, ?_⟩) (by assumption) ?_
          rotate_left
          · (intro w hSw; clear hSw; go_simp; (try with_reducible rfl))
          simp only [Act.put, List.setIfInBounds_toArray, List.set_cons_zero, List.set_cons_succ]
          refine held_take (i := 17) (d := 77) (oi := _) (v := ?_) rfl rfl (by kernel_rfl) (by kernel_rfl) (by kernel_rfl) (fun _ _ _ h => h) (Or.inl ⟨by rfl, ?_⟩) (by assumption) ?_
          rotate_left
          · (intro w hSw; clear hSw; go_simp; (try with_reducible rfl))
          simp only [Act.put, List.setIfInBounds_toArray, List.set_cons_zero, List.set_cons_succ]
          refine held_take (i := 18) (d := 78) (oi := _) (v := ?_) rfl rfl (by kernel_rfl) (by kernel_rfl) (by kernel_rfl) (fun _ _ _ h => h) (Or.inl ⟨by rfl, ?_⟩) (by assumption) ?_
          rotate_left
          · (intro w hSw; clear hSw; go_simp; (try with_reducible rfl))
          simp only [Act.put, List.setIfInBounds_toArray, List.set_cons_zero, List.set_cons_succ]
          refine held_take (i := 19) (d := 79) (oi := _) (v := ?_) rfl rfl (by kernel_rfl) (by kernel_rfl) (by kernel_rfl) (fun _ _ _ h => h) (Or.inl ⟨by rfl, ?_⟩) (by assumption) ?_
          rotate_left
          · (intro w hSw; clear hSw; go_simp; (try with_reducible rfl))
          simp only [Act.put, List.setIfInBounds_toArray, List.set_cons_zero, List.set_cons_succ]
          refine held_take (i := 20) (d := 80) (oi := _) (v := ?_) rfl rfl (by kernel_rfl) (by kernel_rfl) (by kernel_rfl) (fun _ _ _ h => h) (Or.inl ⟨by rfl, ?_⟩) (by assumption) ?_
          rotate_left
          · (intro w hSw; clear hSw; go_simp; (try with_reducible rfl))
          simp only [Act.put, List.setIfInBounds_toArray, List.set_cons_zero, List.set_cons_succ]
          refine held_take (i := 21) (d := 81) (oi := _) (v := ?_) rfl rfl (by kernel_rfl) (by kernel_rfl) (by kernel_rfl) (fun _ _ _ h => h) (Or.inl ⟨by rfl, ?_⟩) (by assumption) ?_
          rotate_left
          · (intro w hSw; clear hSw; go_simp; (try with_reducible rfl))
          simp only [Act.put, List.setIfInBounds_toArray, List.set_cons_zero, List.set_cons_succ]
          refine held_take (i := 22) (d := 82) (oi := _) (v := ?_) rfl rfl (by kernel_rfl) (by kernel_rfl) (by kernel_rfl) (fun _ _ _ h => h) (Or.inl ⟨by rfl, ?_⟩) (by assumption) ?_
          rotate_left
          · (intro w hSw; clear hSw; go_simp; (try with_reducible rfl))
          simp only [Act.put, List.setIfInBounds_toArray, List.set_cons_zero, List.set_cons_succ]
          refine held_take (i := 23) (d := 83) (oi := _) (v := ?_) rfl rfl (by kernel_rfl) (by kernel_rfl) (by kernel_rfl) (fun _ _ _ h => h) (Or.inl ⟨by rfl, ?_⟩) (by assumption) ?_
          rotate_left
          · (intro w hSw; clear hSw; go_simp; (try with_reducible rfl))
          simp only [Act.put, List.setIfInBounds_toArray, List.set_cons_zero, List.set_cons_succ]
          refine held_take (i := 24) (d := 84) (oi := _) (v := ?_) rfl rfl (by kernel_rfl) (by kernel_rfl) (by kernel_rfl) (fun _ _ _ h => h) (Or.inl ⟨by rfl, ?_⟩) (by assumption) ?_
          rotate_left
          · (intro w hSw; clear hSw; go_simp; (try with_reducible rfl))
          simp only [Act.put, List.setIfInBounds_toArray, List.set_cons_zero, List.set_cons_succ]
          refine held_take (i := 25) (d := 85) (oi := _) (v := ?_) rfl rfl (by kernel_rfl) (by kernel_rfl) (by kernel_rfl) (fun _ _ _ h => h) (Or.inl ⟨by rfl, ?_⟩) (by assumption) ?_
          rotate_left
          · (intro w hSw; clear hSw; go_simp; (try with_reducible rfl))
          simp only [Act.put, List.setIfInBounds_toArray, List.set_cons_zero, List.set_cons_succ]
          refine held_take (i := 26) (d := 86) (oi := _) (v := ?_) rfl rfl (by kernel_rfl) (by kernel_rfl) (by kernel_rfl) (fun _ _ _ h => h) (Or.inl ⟨by rfl, ?_⟩) (by assumption) ?_
          rotate_left
          · (intro w hSw; clear hSw; go_simp; (try with_reducible rfl))
          simp only [Act.put, List.setIfInBounds_toArray, List.set_cons_zero, List.set_cons_succ]
          refine held_take (i := 27) (d := 87) (oi := _) (v := ?_) rfl rfl (by kernel_rfl) (by kernel_rfl) (by kernel_rfl) (fun _ _ _ h => h) (Or.inl ⟨by rfl, ?_⟩) (by assumption) ?_
          rotate_left
          · (intro w hSw; clear hSw; go_simp; (try with_reducible rfl))
          simp only [Act.put, List.setIfInBounds_toArray, List.set_cons_zero, List.set_cons_succ]
          refine held_take (i := 28) (d := 88) (oi := _) (v := ?_) rfl rfl (by kernel_rfl) (by kernel_rfl) (by kernel_rfl) (fun _ _ _ h => h) (Or.inl ⟨by rfl, ?_⟩) (by assumption) ?_
          rotate_left
          · (intro w hSw; clear hSw; go_simp; (try with_reducible rfl))
          simp only [Act.put, List.setIfInBounds_toArray, List.set_cons_zero, List.set_cons_succ]
          refine wpAnyH_ready (rs := [29]) (by kernel_rfl) (by simp) ?_
          refine AllReadyH.cons rfl (fun K hK => ?_) AllReadyH.nil
          go_simp
          go_wp2_with (go_at_call 19; (with_reducible refine (HST9.out _ B3.out).mono ?_); rintro e x' ⟨rfl, rfl⟩)
          refine hK.out _ _ hH3 (fun _ => ?_)
          clear hK K
          refine held_take (i := 30) (d := 90) (oi := _) (v := ?_) rfl rfl (by kernel_rfl) (by kernel_rfl) (by kernel_rfl) (fun _ _ _ h => h) (Or.inl ⟨by rfl, ?_⟩) (by assumption) ?_
          rotate_left
          · (intro w hSw; clear hSw; go_simp; (try with_reducible rfl))
          simp only [Act.put, List.setIfInBounds_toArray, List.set_cons_zero, List.set_cons_succ]
          refine held_take (i := 31) (d := 91) (oi := _) (v := ?_) rfl rfl (by kernel_rfl) (by kernel_rfl) (by kernel_rfl) (fun _ _ _ h => h) (Or.inl ⟨by rfl, ?_⟩) (by assumption) ?_
          rotate_left
          · (intro w hSw; clear hSw; go_simp; (try with_reducible rfl))
          simp only [Act.put, List.setIfInBounds_toArray, List.set_cons_zero, List.set_cons_succ]
          refine held_take (i := 32) (d := 92) (oi := _) (v := ?_) rfl rfl (by kernel_rfl) (by kernel_rfl) (by kernel_rfl) (fun _ _ _ h => h) (Or.inl ⟨by rfl, ?_⟩) (by assumption) ?_
          rotate_left
          · (intro w hSw; clear hSw; go_simp; (try with_reducible rfl))
          simp only [Act.put, List.setIfInBounds_toArray, List.set_cons_zero, List.set_cons_succ]
          refine held_take (i := 33) (d := 93) (oi := _) (v := ?_) rfl rfl (by kernel_rfl) (by kernel_rfl) (by kernel_rfl) (fun _ _ _ h => h) (Or.inl ⟨by rfl, ?_⟩) (by assumption) ?_
          rotate_left
          · (intro w hSw; clear hSw; go_simp; (try with_reducible rfl))
          simp only [Act.put, List.setIfInBounds_toArray, List.set_cons_zero, List.set_cons_succ]
          refine held_take (i := 35) (d := 95) (oi := _) (v := _) rfl rfl (by kernel_rfl) (by kernel_rfl) (by kernel_rfl) (fun _ _ _ h => h) (Or.inl ⟨by rfl, fun w hSw => Cls.exec_load rfl rfl (HR9.out w (B3.out.trans (hSw.mono B3.out.size)))⟩) (by assumption) ?_
          simp only [Act.put, List.setIfInBounds_toArray, List.set_cons_zero, List.set_cons_succ]
          refine wpAnyH_ready (rs := [34]) (by kernel_rfl) (by simp) ?_
          refine AllReadyH.cons rfl (fun K hK => ?_) AllReadyH.nil
          go_simp
          go_wp2_with (go_at_call 20; (with_reducible refine (HWI9.out _ B3.out).mono ?_); rintro e x' ⟨rfl, rfl⟩)
          refine hK.out _ _ hH3 (fun _ => ?_)
          clear hK K
          refine wpAnyH_ready (rs := [36]) (by kernel_rfl) (by simp) ?_
          refine AllReadyH.cons rfl (fun K hK => ?_) AllReadyH.nil
          go_simp
          go_wp2_with (go_at_call 33; (with_reducible refine (HCL9.out _ B3.out).mono ?_); rintro e x4 ⟨rfl, hb⟩)
          refine hK.out _ _ hb (fun _ => ?_)
          have B4 := Lib.hid (B3.out.trans (hb.mono B3.out.size))
          refine wpAnyH_more (S' := fun w' => Below x4.heap.size x4 w') (fun w' h => hb.trans (h.mono hb.size)) _ _ _ _ ?_
          have hH4 : Below x4.heap.size x4 x4 := Below.refl _ _
          clear hK K hH3 hb B3
          refine held_take (i := 37) (d := 97) (oi := _) (v := ?_) rfl rfl (by kernel_rfl) (by kernel_rfl) (by kernel_rfl) (fun _ _ _ h => h) (Or.inl ⟨by rfl, ?_⟩) (by assumption) ?_
          rotate_left
          · (intro w hSw; clear hSw; go_simp; (try with_reducible rfl))
          simp only [Act.put, List.setIfInBounds_toArray, List.set_cons_zero, List.set_cons_succ]
          refine held_take (i := 38) (d := 98) (oi := _) (v := ?_) rfl rfl (by kernel_rfl) (by kernel_rfl) (by kernel_rfl) (fun _ _ _ h => h) (Or.inl ⟨by rfl, ?_⟩) (by assumption) ?_
          rotate_left
          · (intro w hSw; clear hSw; go_simp; (try with_reducible rfl))
          simp only [Act.put, List.setIfInBounds_toArray, List.set_cons_zero, List.set_cons_succ]
          refine held_take (i := 39) (d := 8) (oi := _) (v := ?_) rfl rfl (by kernel_rfl) (by kernel_rfl) (by kernel_rfl) (fun _ _ _ h => h) (Or.inl ⟨by rfl, ?_⟩) (by assumption) ?_
          rotate_left
          · (intro w hSw; clear hSw; go_simp; (try with_reducible rfl))
          simp only [Act.put, List.setIfInBounds_toArray, List.set_cons_zero, List.set_cons_succ]
          refine wpAnyH_done (by kernel_rfl) ?_ _
          go_wp2
          go_ret
          exact ⟨rfl, HBZ.out.trans (B4.out.mono HBZ.out.size)⟩
        · have hb3 : ((ka : Int) != 0) = true := by simp; omega
          clear hZ HZE
          go_wp2
          refine wp_region_held_drew (S := fun w' => Below w9.drew.heap.size w9.drew w') (by kernel_rfl) (Below.refl _ _) (fun hH0 => ?_)
          have B0 := Lib.hid (below_drews HBW9.out 1)
          change Hid (Below _ _ w9.drew) at B0
          generalize w9.drew = y0 at *
          refine held_take (i := 0) (d := 60) (oi := _) (v := _) rfl rfl (by kernel_rfl) (by kernel_rfl) (by kernel_rfl) (fun _ _ _ h => h) (Or.inl ⟨by rfl, fun w hSw => Cls.exec_load rfl rfl (HR9.out w (B0.out.trans (hSw.mono B0.out.size)))⟩) (by assumption) ?_
          simp only [Act.put, List.setIfInBounds_toArray, List.set_cons_zero, List.set_cons_succ]
          refine held_take (i := 1) (d := 61) (oi := _) (v := ?_) rfl rfl (by kernel_rfl) (by kernel_rfl) (by kernel_rfl) (fun _ _ _ h => h) (Or.inl ⟨by rfl, ?_⟩) (by assumption) ?_
          rotate_left
          · (intro w hSw; clear hSw; go_simp; (try with_reducible rfl))
          simp only [Act.put, List.setIfInBounds_toArray, List.set_cons_zero, List.set_cons_succ]
          refine held_take (i := 3) (d := 63) (oi := _) (v := _) rfl rfl (by kernel_rfl) (by kernel_rfl) (by kernel_rfl) (fun _ _ _ h => h) (Or.inl ⟨by rfl, fun w hSw => Cls.exec_load rfl rfl (HR9.out w (B0.out.trans (hSw.mono B0.out.size)))⟩) (by assumption) ?_
          simp only [Act.put, List.setIfInBounds_toArray, List.set_cons_zero, List.set_cons_succ]
          refine held_take (i := 4) (d := 64) (oi := _) (v := ?_) rfl rfl (by kernel_rfl) (by kernel_rfl) (by kernel_rfl) (fun _ _ _ h => h) (Or.inl ⟨by rfl, ?_⟩) (by assumption) ?_
          rotate_left
          · (intro w hSw; clear hSw; go_simp; (try with_reducible rfl))
          simp only [Act.put, List.setIfInBounds_toArray, List.set_cons_zero, List.set_cons_succ]
          refine wpAnyH_ready (rs := [2]) (by kernel_rfl) (by simp) ?_
          refine AllReadyH.cons rfl (fun K hK => ?_) AllReadyH.nil
          go_simp
          go_wp2_with (go_at_call 32; (with_reducible refine (HCA9.out _ B0.out).mono ?_); rintro e x1 ⟨rfl, hb⟩)
          refine hK.out _ _ hb (fun _ => ?_)
          have B1 := Lib.hid (B0.out.trans (hb.mono B0.out.size))
          refine wpAnyH_more (S' := fun w' => Below x1.heap.size x1 w') (fun w' h => hb.trans (h.mono hb.size)) _ _ _ _ ?_
          have hH1 : Below x1.heap.size x1 x1 := Below.refl _ _
          clear hK K hH0 hb B0
          refine wpAnyH_ready (rs := [5]) (by kernel_rfl) (by simp) ?_
          refine AllReadyH.cons rfl (fun K hK => ?_) AllReadyH.nil
          go_simp
          go_wp2_with (go_at_call 32; (with_reducible refine (HCB9.out _ B1.out).mono ?_); rintro e x2 ⟨rfl, hb⟩)
          refine hK.out _ _ hb (fun _ => ?_)
          have B2 := Lib.hid (B1.out.trans (hb.mono B1.out.size))
          refine wpAnyH_more (S' := fun w' => Below x2.heap.size x2 w') (fun w' h => hb.trans (h.mono hb.size)) _ _ _ _ ?_
          have hH2 : Below x2.heap.size x2 x2 := Below.refl _ _
          clear hK K hH1 hb B1
          refine held_take (i := 6) (d := 66) (oi := _) (v := ?_) rfl rfl (by kernel_rfl) (by kernel_rfl) (by kernel_rfl) (fun _ _ _ h => h) (Or.inl ⟨by rfl, ?_⟩) (by assumption) ?_
          rotate_left
          · (intro w hSw; clear hSw; go_simp; (try with_reducible rfl))
          simp only [Act.put, List.setIfInBounds_toArray, List.set_cons_zero, List.set_cons_succ]
          refine held_take (i := 7) (d := 67) (oi := _) (v := ?_) rfl rfl (by kernel_rfl) (by kernel_rfl) (by kernel_rfl) (fun _ _ _ h => h) (Or.inl ⟨by rfl, ?_⟩) (by assumption) ?_
          rotate_left
          · (intro w hSw; clear hSw; go_simp; (try with_reducible rfl))
          simp only [Act.put, List.setIfInBounds_toArray, List.set_cons_zero, List.set_cons_succ]
          refine held_take (i := 8) (d := 68) (oi := _) (v := ?_) rfl rfl (by kernel_rfl) (by kernel_rfl) (by kernel_rfl) (fun _ _ _ h => h) (Or.inl ⟨by rfl, ?_⟩) (by assumption) ?_
          rotate_left
          · (intro w hSw; clear hSw; go_simp; (try with_reducible rfl))
          simp only [Act.put, List.setIfInBounds_toArray, List.set_cons_zero, List.set_cons_succ]
          refine held_take (i := 9) (d := 69) (oi := _) (v := ?_) rfl rfl (by kernel_rfl) (by kernel_rfl) (by kernel_rfl) (fun _ _ _ h => h) (Or.inl ⟨by rfl, ?_⟩) (by assumption) ?_
          rotate_left
          · (intro w hSw; clear hSw; go_simp; (try with_reducible rfl))
          simp only [Act.put, List.setIfInBounds_toArray, List.set_cons_zero, List.set_cons_succ]
          refine held_take (i := 10) (d := 70) (oi := _) (v := ?_) rfl rfl (by kernel_rfl) (by kernel_rfl) (by kernel_rfl) (fun _ _ _ h => h) (Or.inl ⟨by rfl, ?_⟩) (by assumption) ?_
          rotate_left
          · (intro w hSw; clear hSw; go_simp; (try with_reducible rfl))
          simp only [Act.put, List.setIfInBounds_toArray, List.set_cons_zero, List.set_cons_succ]
          refine held_take (i := 11) (d := 71) (oi := _) (v := ?_) rfl rfl (by kernel_rfl) (by kernel_rfl) (by kernel_rfl) (fun _ _ _ h => h) (Or.inl ⟨by rfl, ?_⟩) (by assumption) ?_
          rotate_left
          · (intro w hSw; clear hSw; go_simp; (try with_reducible rfl))
          simp only [Act.put, List.setIfInBounds_toArray, List.set_cons_zero, List.set_cons_succ]
          refine held_take (i := 12) (d := 72) (oi := _) (v := ?_) rfl rfl (by kernel_rfl) (by kernel_rfl) (by kernel_rfl) (fun _ _ _ h => h) (Or.inl ⟨by rfl, ?_⟩) (by assumption) ?_
          rotate_left
          · (intro w hSw; clear hSw; go_simp; (try with_reducible rfl))
          simp only [Act.put, List.setIfInBounds_toArray, List.set_cons_zero, List.set_cons_succ]
          refine held_take (i := 13) (d := 73) (oi := _) (v := _) rfl rfl (by kernel_rfl) (by kernel_rfl) (by kernel_rfl) (fun _ _ _ h => h) (Or.inl ⟨by rfl, fun w hSw => Cls.exec_load rfl rfl (HR9.out w (B2.out.trans (hSw.mono B2.out.size)))⟩) (by assumption) ?_
          simp only [Act.put, List.setIfInBounds_toArray, List.set_cons_zero, List.set_cons_succ]
          refine held_take (i := 14) (d := 74) (oi := _) (v := ?_) rfl rfl (by kernel_rfl) (by kernel_rfl) (by kernel_rfl) (fun _ _ _ h => h) (Or.inl ⟨by rfl, ?_⟩) (by assumption) ?_
          rotate_left
          · (intro w hSw; clear hSw; go_simp; (try with_reducible rfl))
          simp only [Act.put, List.setIfInBounds_toArray, List.set_cons_zero, List.set_cons_succ]
          refine wpAnyH_ready (rs := [15]) (by kernel_rfl) (by simp) ?_
          refine AllReadyH.cons rfl (fun K hK => ?_) AllReadyH.nil
          go_simp
          go_wp2_with (go_at_call 32; (with_reducible refine (HCA9.out _ B2.out).mono ?_); rintro e x3 ⟨rfl, hb⟩)
          refine hK.out _ _ hb (fun _ => ?_)
          have B3 := Lib.hid (B2.out.trans (hb.mono B2.out.size))
          refine wpAnyH_more (S' := fun w' => Below x3.heap.size x3 w') (fun w' h => hb.trans (h.mono hb.size)) _ _ _ _ ?_
          have hH3 : Below x3.heap.size x3 x3 := Below.refl _ _
          clear hK K hH2 hb B2
          refine held_take (i := 16) (d := 76) (oi := _) (v := ?_) rfl rfl (by kernel_rfl) (by kernel_rfl) (by kernel_rfl) (fun _ _ _ h => h) (Or.inl ⟨by rfl, ?_⟩) (by assumption) ?_
          rotate_left
          · (intro w hSw; clear hSw; go_simp; (try with_reducible rfl))
          simp only [Act.put, List.setIfInBounds_toArray, List.set_cons_zero, List.set_cons_succ]
          refine held_take (i := 17) (d := 77) (oi := _) (v := ?_) rfl rfl (by kernel_rfl) (by kernel_rfl) (by kernel_rfl) (fun _ _ _ h => h) (Or.inl ⟨by rfl, ?_⟩) (by assumption) ?_
          rotate_left
          · (intro w hSw; clear hSw; go_simp; (try with_reducible rfl))
          simp only [Act.put, List.setIfInBounds_toArray, List.set_cons_zero, List.set_cons_succ]
          refine held_take (i := 18) (d := 78) (oi := _) (v := undef) rfl rfl (by kernel_rfl) (by kernel_rfl) (by kernel_rfl) (fun _ _ _ h => h) (Or.inr ⟨by rfl, rfl⟩) (by assumption) ?_
          simp only [Act.put, List.setIfInBounds_toArray, List.set_cons_zero, List.set_cons_succ]
          refine held_take (i := 19) (d := 79) (oi := _) (v := undef) rfl rfl (by kernel_rfl) (by kernel_rfl) (by kernel_rfl) (fun _ _ _ h => h) (Or.inr ⟨by rfl, rfl⟩) (by assumption) ?_
          simp only [Act.put, List.setIfInBounds_toArray, List.set_cons_zero, List.set_cons_succ]
          refine held_take (i := 20) (d := 80) (oi := _) (v := ?_) rfl rfl (by kernel_rfl) (by kernel_rfl) (by kernel_rfl) (fun _ _ _ h => h) (Or.inl ⟨by rfl, ?_⟩) (by assumption) ?_
          rotate_left
          · (intro w hSw; clear hSw; go_simp; (try with_reducible rfl))
          simp only [Act.put, List.setIfInBounds_toArray, List.set_cons_zero, List.set_cons_succ]
          refine held_take (i := 21) (d := 81) (oi := _) (v := ?_) rfl rfl (by kernel_rfl) (by kernel_rfl) (by kernel_rfl) (fun _ _ _ h => h) (Or.inl ⟨by rfl, ?_⟩) (by assumption) ?_
          rotate_left
          · (intro w hSw; clear hSw; go_simp; (try with_reducible rfl))
          simp only [Act.put, List.setIfInBounds_toArray, List.set_cons_zero, List.set_cons_succ]
          refine held_take (i := 22) (d := 82) (oi := _) (v := ?_) rfl rfl (by kernel_rfl) (by kernel_rfl) (by kernel_rfl) (fun _ _ _ h => h) (Or.inl ⟨by rfl, ?_⟩) (by assumption) ?_
          rotate_left
          · (intro w hSw; clear hSw; go_simp; (try with_reducible rfl))
          simp only [Act.put, List.setIfInBounds_toArray, List.set_cons_zero, List.set_cons_succ]
          refine held_take (i := 23) (d := 83) (oi := _) (v := ?_) rfl rfl (by kernel_rfl) (by kernel_rfl) (by kernel_rfl) (fun _ _ _ h => h) (Or.inl ⟨by rfl, ?_⟩) (by assumption) ?_
          rotate_left
          · (intro w hSw; clear hSw; go_simp; (try with_reducible rfl))
          simp only [Act.put, List.setIfInBounds_toArray, List.set_cons_zero, List.set_cons_succ]
          refine held_take (i := 24) (d := 84) (oi := _) (v := ?_) rfl rfl (by kernel_rfl) (by kernel_rfl) (by kernel_rfl) (fun _ _ _ h => h) (Or.inl ⟨by rfl, ?_⟩) (by assumption) ?_
          rotate_left
          · (intro w hSw; clear hSw; go_simp; (try with_reducible rfl))
          simp only [Act.put, List.setIfInBounds_toArray, List.set_cons_zero, List.set_cons_succ]
          refine held_take (i := 25) (d := 85) (oi := _) (v := ?_) rfl rfl (by kernel_rfl) (by kernel_rfl) (by kernel_rfl) (fun _ _ _ h => h) (Or.inl ⟨by rfl, ?_⟩) (by assumption) ?_
          rotate_left
          · (intro w hSw; clear hSw; go_simp; (try with_reducible rfl))
          simp only [Act.put, List.setIfInBounds_toArray, List.set_cons_zero, List.set_cons_succ]
          refine held_take (i := 26) (d := 86) (oi := _) (v := ?_) rfl rfl (by kernel_rfl) (by kernel_rfl) (by kernel_rfl) (fun _ _ _ h => h) (Or.inl ⟨by rfl, ?_⟩) (by assumption) ?_
          rotate_left
          · (intro w hSw; clear hSw; go_simp; (try with_reducible rfl))
          simp only [Act.put, List.setIfInBounds_toArray, List.set_cons_zero, List.set_cons_succ]
          refine held_take (i := 27) (d := 87) (oi := _) (v := ?_) rfl rfl (by kernel_rfl) (by kernel_rfl) (by kernel_rfl) (fun _ _ _ h => h) (Or.inl ⟨by rfl, ?_⟩) (by assumption) ?_
          rotate_left
          · (intro w hSw; clear hSw; go_simp; (try with_reducible rfl))
          simp only [Act.put, List.setIfInBounds_toArray, List.set_cons_zero, List.set_cons_succ]
          refine held_take (i := 28) (d := 88) (oi := _) (v := ?_) rfl rfl (by kernel_rfl) (by kernel_rfl) (by kernel_rfl) (fun _ _ _ h => h) (Or.inl ⟨by rfl, ?_⟩) (by assumption) ?_
          rotate_left
          · (intro w hSw; clear hSw; go_simp; (try with_reducible rfl))
          simp only [Act.put, List.setIfInBounds_toArray, List.set_cons_zero, List.set_cons_succ]
          refine wpAnyH_ready (rs := [29]) (by kernel_rfl) (by simp) ?_
          refine AllReadyH.cons rfl (fun K hK => ?_) AllReadyH.nil
          go_simp
          go_wp2_with (go_at_call 19; (with_reducible refine (HST9.out _ B3.out).mono ?_); rintro e x' ⟨rfl, rfl⟩)
          refine hK.out _ _ hH3 (fun _ => ?_)
          clear hK K
          refine held_take (i := 30) (d := 90) (oi := _) (v := ?_) rfl rfl (by kernel_rfl) (by kernel_rfl) (by kernel_rfl) (fun _ _ _ h => h) (Or.inl ⟨by rfl, ?_⟩) (by assumption) ?_
          rotate_left
          · (intro w hSw; clear hSw; go_simp; (try with_reducible rfl))
          simp only [Act.put, List.setIfInBounds_toArray, List.set_cons_zero, List.set_cons_succ]
          refine held_take (i := 31) (d := 91) (oi := _) (v := ?_) rfl rfl (by kernel_rfl) (by kernel_rfl) (by kernel_rfl) (fun _ _ _ h => h) (Or.inl ⟨by rfl, ?_⟩) (by assumption) ?_
          rotate_left
          · (intro w hSw; clear hSw; go_simp; (try with_reducible rfl))
          simp only [Act.put, List.setIfInBounds_toArray, List.set_cons_zero, List.set_cons_succ]
          refine held_take (i := 32) (d := 92) (oi := _) (v := ?_) rfl rfl (by kernel_rfl) (by kernel_rfl) (by kernel_rfl) (fun _ _ _ h => h) (Or.inl ⟨by rfl, ?_⟩) (by assumption) ?_
          rotate_left
          · (intro w hSw; clear hSw; go_simp; (try with_reducible rfl))
          simp only [Act.put, List.setIfInBounds_toArray, List.set_cons_zero, List.set_cons_succ]
          refine held_take (i := 33) (d := 93) (oi := _) (v := ?_) rfl rfl (by kernel_rfl) (by kernel_rfl) (by kernel_rfl) (fun _ _ _ h => h) (Or.inl ⟨by rfl, ?_⟩) (by assumption) ?_
          rotate_left
          · (intro w hSw; clear hSw; go_simp; (try with_reducible rfl))
          simp only [Act.put, List.setIfInBounds_toArray, List.set_cons_zero, List.set_cons_succ]
          refine held_take (i := 35) (d := 95) (oi := _) (v := _) rfl rfl (by kernel_rfl) (by kernel_rfl) (by kernel_rfl) (fun _ _ _ h => h) (Or.inl ⟨by rfl, fun w hSw => Cls.exec_load rfl rfl (HR9.out w (B3.out.trans (hSw.mono B3.out.size)))⟩) (by assumption) ?_
          simp only [Act.put, List.setIfInBounds_toArray, List.set_cons_zero, List.set_cons_succ]
          refine wpAnyH_ready (rs := [34]) (by kernel_rfl) (by simp) ?_
          refine AllReadyH.cons rfl (fun K hK => ?_) AllReadyH.nil
          go_simp
          go_wp2_with (go_at_call 20; (with_reducible refine (HWI9.out _ B3.out).mono ?_); rintro e x' ⟨rfl, rfl⟩)
          refine hK.out _ _ hH3 (fun _ => ?_)
          clear hK K
          refine wpAnyH_ready (rs := [36]) (by kernel_rfl) (by simp) ?_
          refine AllReadyH.cons rfl (fun K hK => ?_) AllReadyH.nil
          go_simp
          go_wp2_with (go_at_call 33; (with_reducible refine (HCL9.out _ B3.out).mono ?_); rintro e x4 ⟨rfl, hb⟩)
          refine hK.out _ _ hb (fun _ => ?_)
          have B4 := Lib.hid (B3.out.trans (hb.mono B3.out.size))
          refine wpAnyH_more (S' := fun w' => Below x4.heap.size x4 w') (fun w' h => hb.trans (h.mono hb.size)) _ _ _ _ ?_
          have hH4 : Below x4.heap.size x4 x4 := Below.refl _ _
          clear hK K hH3 hb B3
          refine held_take (i := 37) (d := 97) (oi := _) (v := ?_) rfl rfl (by kernel_rfl) (by kernel_rfl) (by kernel_rfl) (fun _ _ _ h => h) (Or.inl ⟨by rfl, ?_⟩) (by assumption) ?_
          rotate_left
          · (intro w hSw; clear hSw; go_simp; (try with_reducible rfl))
          simp only [Act.put, List.setIfInBounds_toArray, List.set_cons_zero, List.set_cons_succ]
          refine held_take (i := 38) (d := 98) (oi := _) (v := ?_) rfl rfl (by kernel_rfl) (by kernel_rfl) (by kernel_rfl) (fun _ _ _ h => h) (Or.inl ⟨by rfl, ?_⟩) (by assumption) ?_
          rotate_left
          · (intro w hSw; clear hSw; go_simp; (try with_reducible rfl))
          simp only [Act.put, List.setIfInBounds_toArray, List.set_cons_zero, List.set_cons_succ]
          refine held_take (i := 39) (d := 8) (oi := _) (v := ?_) rfl rfl (by kernel_rfl) (by kernel_rfl) (by kernel_rfl) (fun _ _ _ h => h) (Or.inl ⟨by rfl, ?_⟩) (by assumption) ?_
          rotate_left
          · (intro w hSw; clear hSw; go_simp; (try with_reducible rfl))
          simp only [Act.put, List.setIfInBounds_toArray, List.set_cons_zero, List.set_cons_succ]
          refine wpAnyH_done (by kernel_rfl) ?_ _
          go_wp2
          go_ret
          exact ⟨rfl, HBZ.out.trans (B4.out.mono HBZ.out.size)⟩
      · have hb0 : ((ka : Int) != (kb : Int)) = true := by simp; omega
        clear HE
        by_cases hZ : ka = 0
        · have hX := HZE.out hZ
          subst hX
          subst hZ
          have hp0 : decide (0 < (paths l).length) = true := decide_eq_true (by omega)
          have hb1 : ((0 : Int) != (kb : Int)) = true := by simp; omega
          clear HZE hE
          go_wp2
          refine wp_region_held_drew (S := fun w' => Below w9.drew.heap.size w9.drew w') (by kernel_rfl) (Below.refl _ _) (fun hH0 => ?_)
          have B0 := Lib.hid (below_drews HBW9.out 1)
          change Hid (Below _ _ w9.drew) at B0
          generalize w9.drew = y0 at *
          refine held_take (i := 0) (d := 60) (oi := _) (v := _) rfl rfl (by kernel_rfl) (by kernel_rfl) (by kernel_rfl) (fun _ _ _ h => h) (Or.inl ⟨by rfl, fun w hSw => Cls.exec_load rfl rfl (HR9.out w (B0.out.trans (hSw.mono B0.out.size)))⟩) (by assumption) ?_
          simp only [Act.put, List.setIfInBounds_toArray, List.set_cons_zero, List.set_cons_succ]
          refine held_take (i := 1) (d := 61) (oi := _) (v := ?_) rfl rfl (by kernel_rfl) (by kernel_rfl) (by kernel_rfl) (fun _ _ _ h => h) (Or.inl ⟨by rfl, ?_⟩) (by assumption) ?_
          rotate_left
          · (intro w hSw; clear hSw; go_simp; (try with_reducible rfl))
          simp only [Act.put, List.setIfInBounds_toArray, List.set_cons_zero, List.set_cons_succ]
          refine held_take (i := 3) (d := 63) (oi := _) (v := _) rfl rfl (by kernel_rfl) (by kernel_rfl) (by kernel_rfl) (fun _ _ _ h => h) (Or.inl ⟨by rfl, fun w hSw => Cls.exec_load rfl rfl (HR9.out w (B0.out.trans (hSw.mono B0.out.size)))⟩) (by assumption) ?_
          simp only [Act.put, List.setIfInBounds_toArray, List.set_cons_zero, List.set_cons_succ]
          refine held_take (i := 4) (d := 64) (oi := _) (v := ?_) rfl rfl (by kernel_rfl) (by kernel_rfl) (by kernel_rfl) (fun _ _ _ h => h) (Or.inl ⟨by rfl, ?_⟩) (by assumption) ?_
          rotate_left
          · (intro w hSw; clear hSw; go_simp; (try with_reducible rfl))
          simp only [Act.put, List.setIfInBounds_toArray, List.set_cons_zero, List.set_cons_succ]
          refine wpAnyH_ready (rs := [2]) (by kernel_rfl) (by simp) ?_
          refine AllReadyH.cons rfl (fun K hK => ?_) AllReadyH.nil
          go_simp
          go_wp2_with (go_at_call 32; (with_reducible refine (HCA9.out _ B0.out).mono ?_); rintro e x1 ⟨rfl, hb⟩)
          refine hK.out _ _ hb (fun _ => ?_)
          have B1 := Lib.hid (B0.out.trans (hb.mono B0.out.size))
          refine wpAnyH_more (S' := fun w' => Below x1.heap.size x1 w') (fun w' h => hb.trans (h.mono hb.size)) _ _ _ _ ?_
          have hH1 : Below x1.heap.size x1 x1 := Below.refl _ _
          clear hK K hH0 hb B0
          refine wpAnyH_ready (rs := [5]) (by kernel_rfl) (by simp) ?_
          refine AllReadyH.cons rfl (fun K hK => ?_) AllReadyH.nil
          go_simp
          go_wp2_with (go_at_call 32; (with_reducible refine (HCB9.out _ B1.out).mono ?_); rintro e x2 ⟨rfl, hb⟩)
          refine hK.out _ _ hb (fun _ => ?_)
          have B2 := Lib.hid (B1.out.trans (hb.mono B1.out.size))
          refine wpAnyH_more (S' := fun w' => Below x2.heap.size x2 w') (fun w' h => hb.trans (h.mono hb.size)) _ _ _ _ ?_
          have hH2 : Below x2.heap.size x2 x2 := Below.refl _ _
          clear hK K hH1 hb B1
          refine held_take (i := 6) (d := 66) (oi := _) (v := ?_) rfl rfl (by kernel_rfl) (by kernel_rfl) (by kernel_rfl) (fun _ _ _ h => h) (Or.inl ⟨by rfl, ?_⟩) (by assumption) ?_
          rotate_left
          · (intro w hSw; clear hSw; go_simp; (try with_reducible rfl))
          simp only [Act.put, List.setIfInBounds_toArray, List.set_cons_zero, List.set_cons_succ]
          refine held_take (i := 7) (d := 67) (oi := _) (v := ?_) rfl rfl (by kernel_rfl) (by kernel_rfl) (by kernel_rfl) (fun _ _ _ h => h) (Or.inl ⟨by rfl, ?_⟩) (by assumption) ?_
          rotate_left
          · (intro w hSw; clear hSw; go_simp; (try with_reducible rfl))
          simp only [Act.put, List.setIfInBounds_toArray, List.set_cons_zero, List.set_cons_succ]
          refine held_take (i := 8) (d := 68) (oi := _) (v := undef) rfl rfl (by kernel_rfl) (by kernel_rfl) (by kernel_rfl) (fun _ _ _ h => h) (Or.inr ⟨by rfl, rfl⟩) (by assumption) ?_
          simp only [Act.put, List.setIfInBounds_toArray, List.set_cons_zero, List.set_cons_succ]
          refine held_take (i := 9) (d := 69) (oi := _) (v := undef) rfl rfl (by kernel_rfl) (by kernel_rfl) (by kernel_rfl) (fun _ _ _ h => h) (Or.inr ⟨by rfl, rfl⟩) (by assumption) ?_
          simp only [Act.put, List.setIfInBounds_toArray, List.set_cons_zero, List.set_cons_succ]
          refine held_take (i := 10) (d := 70) (oi := _) (v := undef) rfl rfl (by kernel_rfl) (by kernel_rfl) (by kernel_rfl) (fun _ _ _ h => h) (Or.inr ⟨by rfl, rfl⟩) (by assumption) ?_
          simp only [Act.put, List.setIfInBounds_toArray, List.set_cons_zero, List.set_cons_succ]
          refine held_take (i := 11) (d := 71) (oi := _) (v := ?_) rfl rfl (by kernel_rfl) (by kernel_rfl) (by kernel_rfl) (fun _ _ _ h => h) (Or.inl ⟨by rfl, ?_⟩) (by assumption) ?_
          rotate_left
          · (intro w hSw; clear hSw; go_simp; (try with_reducible rfl))
          simp only [Act.put, List.setIfInBounds_toArray, List.set_cons_zero, List.set_cons_succ]
          refine held_take (i := 12) (d := 72) (oi := _) (v := ?_) rfl rfl (by kernel_rfl) (by kernel_rfl) (by kernel_rfl) (fun _ _ _ h => h) (Or.inl ⟨by rfl, ?_⟩) (by assumption) ?_
          rotate_left
          · (intro w hSw; clear hSw; go_simp; (try with_reducible rfl))
          simp only [Act.put, List.setIfInBounds_toArray, List.set_cons_zero, List.set_cons_succ]
          refine held_take (i := 13) (d := 73) (oi := _) (v := _) rfl rfl (by kernel_rfl) (by kernel_rfl) (by kernel_rfl) (fun _ _ _ h => h) (Or.inl ⟨by rfl, fun w hSw => Cls.exec_load rfl rfl (HR9.out w (B2.out.trans (hSw.mono B2.out.size)))⟩) (by assumption) ?_
          simp only [Act.put, List.setIfInBounds_toArray, List.set_cons_zero, List.set_cons_succ]
          refine held_take (i := 14) (d := 74) (oi := _) (v := ?_) rfl rfl (by kernel_rfl) (by kernel_rfl) (by kernel_rfl) (fun _ _ _ h => h) (Or.inl ⟨by rfl, ?_⟩) (by assumption) ?_
          rotate_left
          · (intro w hSw; clear hSw; go_simp; (try with_reducible rfl))
          simp only [Act.put, List.setIfInBounds_toArray, List.set_cons_zero, List.set_cons_succ]
          refine wpAnyH_ready (rs := [15]) (by kernel_rfl) (by simp) ?_
          refine AllReadyH.cons rfl (fun K hK => ?_) AllReadyH.nil
          go_simp
          go_wp2_with (go_at_call 32; (with_reducible refine (HCA9.out _ B2.out).mono ?_); rintro e x3 ⟨rfl, hb⟩)
          refine hK.out _ _ hb (fun _ => ?_)
          have B3 := Lib.hid (B2.out.trans (hb.mono B2.out.size))
          refine wpAnyH_more (S' := fun w' => Below x3.heap.size x3 w') (fun w' h => hb.trans (h.mono hb.size)) _ _ _ _ ?_
          have hH3 : Below x3.heap.size x3 x3 := Below.refl _ _
          clear hK K hH2 hb B2
          refine held_take (i := 16) (d := 76) (oi := _) (v := ?_) rfl rfl (by kernel_rfl) (by kernel_rfl) (by kernel_rfl) (fun _ _ _ h => h) (Or.inl ⟨by rfl, ?_⟩) (by assumption) ?_
          rotate_left
          · (intro w hSw; clear hSw; go_simp; (try with_reducible rfl))
          simp only [Act.put, List.setIfInBounds_toArray, List.set_cons_zero, List.set_cons_succ]
          refine held_take (i := 17) (d := 77) (oi := _) (v := ?_) rfl rfl (by kernel_rfl) (by kernel_rfl) (by kernel_rfl) (fun _ _ _ h => h) (Or.inl ⟨by rfl, ?_⟩) (by assumption) ?_
          rotate_left
          · (intro w hSw; clear hSw; go_simp; (try with_reducible rfl))
          simp only [Act.put, List.setIfInBounds_toArray, List.set_cons_zero, List.set_cons_succ]
          refine held_take (i := 18) (d := 78) (oi := _) (v := ?_) rfl rfl (by kernel_rfl) (by kernel_rfl) (by kernel_rfl) (fun _ _ _ h => h) (Or.inl ⟨by rfl, ?_⟩) (by assumption) ?_
          rotate_left
          · (intro w hSw; clear hSw; go_simp; (try with_reducible rfl))
          simp only [Act.put, List.setIfInBounds_toArray, List.set_cons_zero, List.set_cons_succ]
          refine held_take (i := 19) (d := 79) (oi := _) (v := ?_) rfl rfl (by kernel_rfl) (by kernel_rfl) (by kernel_rfl) (fun _ _ _ h => h) (Or.inl ⟨by rfl, ?_⟩) (by assumption) ?_
          rotate_left
          · (intro w hSw; clear hSw; go_simp; (try with_reducible rfl))
          simp only [Act.put, List.setIfInBounds_toArray, List.set_cons_zero, List.set_cons_succ]
          refine held_take (i := 20) (d := 80) (oi := _) (v := ?_) rfl rfl (by kernel_rfl) (by kernel_rfl) (by kernel_rfl) (fun _ _ _ h => h) (Or.inl ⟨by rfl, ?_⟩) (by assumption) ?_
          rotate_left
          · (intro w hSw; clear hSw; go_simp; (try with_reducible rfl))
          simp only [Act.put, List.setIfInBounds_toArray, List.set_cons_zero, List.set_cons_succ]
          refine held_take (i := 21) (d := 81) (oi := _) (v := ?_) rfl rfl (by kernel_rfl) (by kernel_rfl) (by kernel_rfl) (fun _ _ _ h => h) (Or.inl ⟨by rfl, ?_⟩) (by assumption) ?_
          rotate_left
          · (intro w hSw; clear hSw; go_simp; (try with_reducible rfl))
          simp only [Act.put, List.setIfInBounds_toArray, List.set_cons_zero, List.set_cons_succ]
          refine held_take (i := 22) (d := 82) (oi := _) (v := ?_) rfl rfl (by kernel_rfl) (by kernel_rfl) (by kernel_rfl) (fun _ _ _ h => h) (Or.inl ⟨by rfl, ?_⟩) (by assumption) ?_
          rotate_left
          · (intro w hSw; clear hSw; go_simp; (try with_reducible rfl))
          simp only [Act.put, List.setIfInBounds_toArray, List.set_cons_zero, List.set_cons_succ]
          refine held_take (i := 23) (d := 83) (oi := _) (v := ?_) rfl rfl (by kernel_rfl) (by kernel_rfl) (by kernel_rfl) (fun _ _ _ h => h) (Or.inl ⟨by rfl, ?_⟩) (by assumption) ?_
          rotate_left
          · (intro w hSw; clear hSw; go_simp; (try with_reducible rfl))
          simp only [Act.put, List.setIfInBounds_toArray, List.set_cons_zero, List.set_cons_succ]
          refine held_take (i := 24) (d := 84) (oi := _) (v := ?_) rfl rfl (by kernel_rfl) (by kernel_rfl) (by kernel_rfl) (fun _ _ _ h => h) (Or.inl ⟨by rfl, ?_⟩) (by assumption) ?_
          rotate_left
          · (intro w hSw; clear hSw; go_simp; (try with_reducible rfl))
          simp only [Act.put, List.setIfInBounds_toArray, List.set_cons_zero, List.set_cons_succ]
          refine held_take (i := 25) (d := 85) (oi := _) (v := ?_) rfl rfl (by kernel_rfl) (by kernel_rfl) (by kernel_rfl) (fun _ _ _ h => h) (Or.inl ⟨by rfl, ?_⟩) (by assumption) ?_
          rotate_left
          · (intro w hSw; clear hSw; go_simp; (try with_reducible rfl))
          simp only [Act.put, List.setIfInBounds_toArray, List.set_cons_zero, List.set_cons_succ]
          refine held_take (i := 26) (d := 86) (oi := _) (v := ?_) rfl rfl (by kernel_rfl) (by kernel_rfl) (by kernel_rfl) (fun _ _ _ h => h) (Or.inl ⟨by rfl, ?_⟩) (by assumption) ?_
          rotate_left
          · (intro w hSw; clear hSw; go_simp; (try with_reducible rfl))
          simp only [Act.put, List.setIfInBounds_toArray, List.set_cons_zero, List.set_cons_succ]
          refine held_take (i := 27) (d := 87) (oi := _) (v := ?_) rfl rfl (by kernel_rfl) (by kernel_rfl) (by kernel_rfl) (fun _ _ _ h => h) (Or.inl ⟨by rfl, ?_⟩) (by assumption) ?_
          rotate_left
          · (intro w hSw; clear hSw; go_simp; (try with_reducible rfl))
          simp only [Act.put, List.setIfInBounds_toArray, List.set_cons_zero, List.set_cons_succ]
          refine held_take (i := 28) (d := 88) (oi := _) (v := ?_) rfl rfl (by kernel_rfl) (by kernel_rfl) (by kernel_rfl) (fun _ _ _ h => h) (Or.inl ⟨by rfl, ?_⟩) (by assumption) ?_
          rotate_left
          · (intro w hSw; clear hSw; go_simp; (try with_reducible rfl))
          simp only [Act.put, List.setIfInBounds_toArray, List.set_cons_zero, List.set_cons_succ]
          refine wpAnyH_ready (rs := [29]) (by kernel_rfl) (by simp) ?_
          refine AllReadyH.cons rfl (fun K hK => ?_) AllReadyH.nil
          go_simp
          go_wp2_with (go_at_call 19; (with_reducible refine (HST9.out _ B3.out).mono ?_); rintro e x' ⟨rfl, rfl⟩)
          refine hK.out _ _ hH3 (fun _ => ?_)
          clear hK K
          refine held_take (i := 30) (d := 90) (oi := _) (v := ?_) rfl rfl (by kernel_rfl) (by kernel_rfl) (by kernel_rfl) (fun _ _ _ h => h) (Or.inl ⟨by rfl, ?_⟩) (by assumption) ?_
          rotate_left
          · (intro w hSw; clear hSw; go_simp; (try with_reducible rfl))
          simp only [Act.put, List.setIfInBounds_toArray, List.set_cons_zero, List.set_cons_succ]
          refine held_take (i := 31) (d := 91) (oi := _) (v := ?_) rfl rfl (by kernel_rfl) (by kernel_rfl) (by kernel_rfl) (fun _ _ _ h => h) (Or.inl ⟨by rfl, ?_⟩) (by assumption) ?_
          rotate_left
          · (intro w hSw; clear hSw; go_simp; (try with_reducible rfl))
          simp only [Act.put, List.setIfInBounds_toArray, List.set_cons_zero, List.set_cons_succ]
          refine held_take (i := 32) (d := 92) (oi := _) (v := ?_) rfl rfl (by kernel_rfl) (by kernel_rfl) (by kernel_rfl) (fun _ _ _ h => h) (Or.inl ⟨by rfl, ?_⟩) (by assumption) ?_
          rotate_left
          · (intro w hSw; clear hSw; go_simp; (try with_reducible rfl))
          simp only [Act.put, List.setIfInBounds_toArray, List.set_cons_zero, List.set_cons_succ]
          refine held_take (i := 33) (d := 93) (oi := _) (v := ?_) rfl rfl (by kernel_rfl) (by kernel_rfl) (by kernel_rfl) (fun _ _ _ h => h) (Or.inl ⟨by rfl, ?_⟩) (by assumption) ?_
          rotate_left
          · (intro w hSw; clear hSw; go_simp; (try with_reducible rfl))
          simp only [Act.put, List.setIfInBounds_toArray, List.set_cons_zero, List.set_cons_succ]
          refine held_take (i := 35) (d := 95) (oi := _) (v := _) rfl rfl (by kernel_rfl) (by kernel_rfl) (by kernel_rfl) (fun _ _ _ h => h) (Or.inl ⟨by rfl, fun w hSw => Cls.exec_load rfl rfl (HR9.out w (B3.out.trans (hSw.mono B3.out.size)))⟩) (by assumption) ?_
          simp only [Act.put, List.setIfInBounds_toArray, List.set_cons_zero, List.set_cons_succ]
          refine wpAnyH_ready (rs := [34]) (by kernel_rfl) (by simp) ?_
          refine AllReadyH.cons rfl (fun K hK => ?_) AllReadyH.nil
          go_simp
          go_wp2_with (go_at_call 20; (with_reducible refine (HWI9.out _ B3.out).mono ?_); rintro e x' ⟨rfl, rfl⟩)
          refine hK.out _ _ hH3 (fun _ => ?_)
          clear hK K
          refine wpAnyH_ready (rs := [36]) (by kernel_rfl) (by simp) ?_
          refine AllReadyH.cons rfl (fun K hK => ?_) AllReadyH.nil
          go_simp
          go_wp2_with (go_at_call 33; (with_reducible refine (HCL9.out _ B3.out).mono ?_); rintro e x4 ⟨rfl, hb⟩)
          refine hK.out _ _ hb (fun _ => ?_)
          have B4 := Lib.hid (B3.out.trans (hb.mono B3.out.size))
          refine wpAnyH_more (S' := fun w' => Below x4.heap.size x4 w') (fun w' h => hb.trans (h.mono hb.size)) _ _ _ _ ?_
          have hH4 : Below x4.heap.size x4 x4 := Below.refl _ _
          clear hK K hH3 hb B3
          refine held_take (i := 37) (d := 97) (oi := _) (v := ?_) rfl rfl (by kernel_rfl) (by kernel_rfl) (by kernel_rfl) (fun _ _ _ h => h) (Or.inl ⟨by rfl, ?_⟩) (by assumption) ?_
          rotate_left
          · (intro w hSw; clear hSw; go_simp; (try with_reducible rfl))
          simp only [Act.put, List.setIfInBounds_toArray, List.set_cons_zero, List.set_cons_succ]
          refine held_take (i := 38) (d := 98) (oi := _) (v := ?_) rfl rfl (by kernel_rfl) (by kernel_rfl) (by kernel_rfl) (fun _ _ _ h => h) (Or.inl ⟨by rfl, ?_⟩) (by assumption) ?_
          rotate_left
          · (intro w hSw; clear hSw; go_simp; (try with_reducible rfl))
          simp only [Act.put, List.setIfInBounds_toArray, List.set_cons_zero, List.set_cons_succ]
          refine held_take (i := 39) (d := 8) (oi := _) (v := ?_) rfl rfl (by kernel_rfl) (by kernel_rfl) (by kernel_rfl) (fun _ _ _ h => h) (Or.inl ⟨by rfl, ?_⟩) (by assumption) ?_
          rotate_left
          · (intro w hSw; clear hSw; go_simp; (try with_reducible rfl))
          simp only [Act.put, List.setIfInBounds_toArray, List.set_cons_zero, List.set_cons_succ]
          refine wpAnyH_done (by kernel_rfl) ?_ _
          go_wp2
          go_ret
          exact ⟨rfl, HBZ.out.trans (B4.out.mono HBZ.out.size)⟩
        · have hb3 : ((ka : Int) != 0) = true := by simp; omega
          clear hZ HZE hE
          go_wp2
          refine wp_region_held_drew (S := fun w' => Below w9.drew.heap.size w9.drew w') (by kernel_rfl) (Below.refl _ _) (fun hH0 => ?_)
          have B0 := Lib.hid (below_drews HBW9.out 1)
          change Hid (Below _ _ w9.drew) at B0
          generalize w9.drew = y0 at *
          refine held_take (i := 0) (d := 60) (oi := _) (v := _) rfl rfl (by kernel_rfl) (by kernel_rfl) (by kernel_rfl) (fun _ _ _ h => h) (Or.inl ⟨by rfl, fun w hSw => Cls.exec_load rfl rfl (HR9.out w (B0.out.trans (hSw.mono B0.out.size)))⟩) (by assumption) ?_
          simp only [Act.put, List.setIfInBounds_toArray, List.set_cons_zero, List.set_cons_succ]
          refine held_take (i := 1) (d := 61) (oi := _) (v := ?_) rfl rfl (by kernel_rfl) (by kernel_rfl) (by kernel_rfl) (fun _ _ _ h => h) (Or.inl ⟨by rfl, ?_⟩) (by assumption) ?_
          rotate_left
          · (intro w hSw; clear hSw; go_simp; (try with_reducible rfl))
          simp only [Act.put, List.setIfInBounds_toArray, List.set_cons_zero, List.set_cons_succ]
          refine held_take (i := 3) (d := 63) (oi := _) (v := _) rfl rfl (by kernel_rfl) (by kernel_rfl) (by kernel_rfl) (fun _ _ _ h => h) (Or.inl ⟨by rfl, fun w hSw => Cls.exec_load rfl rfl (HR9.out w (B0.out.trans (hSw.mono B0.out.size)))⟩) (by assumption) ?_
          simp only [Act.put, List.setIfInBounds_toArray, List.set_cons_zero, List.set_cons_succ]
          refine held_take (i := 4) (d := 64) (oi := _) (v := ?_) rfl rfl (by kernel_rfl) (by kernel_rfl) (by kernel_rfl) (fun _ _ _ h => h) (Or.inl ⟨by rfl, ?_⟩) (by assumption) ?_
          rotate_left
          · (intro w hSw; clear hSw; go_simp; (try with_reducible rfl))
          simp only [Act.put, List.setIfInBounds_toArray, List.set_cons_zero, List.set_cons_succ]
          refine wpAnyH_ready (rs := [2]) (by kernel_rfl) (by simp) ?_
          refine AllReadyH.cons rfl (fun K hK => ?_) AllReadyH.nil
          go_simp
          go_wp2_with (go_at_call 32; (with_reducible refine (HCA9.out _ B0.out).mono ?_); rintro e x1 ⟨rfl, hb⟩)
          refine hK.out _ _ hb (fun _ => ?_)
          have B1 := Lib.hid (B0.out.trans (hb.mono B0.out.size))
          refine wpAnyH_more (S' := fun w' => Below x1.heap.size x1 w') (fun w' h => hb.trans (h.mono hb.size)) _ _ _ _ ?_
          have hH1 : Below x1.heap.size x1 x1 := Below.refl _ _
          clear hK K hH0 hb B0
          refine wpAnyH_ready (rs := [5]) (by kernel_rfl) (by simp) ?_
          refine AllReadyH.cons rfl (fun K hK => ?_) AllReadyH.nil
          go_simp
          go_wp2_with (go_at_call 32; (with_reducible refine (HCB9.out _ B1.out).mono ?_); rintro e x2 ⟨rfl, hb⟩)
          refine hK.out _ _ hb (fun _ => ?_)
          have B2 := Lib.hid (B1.out.trans (hb.mono B1.out.size))
          refine wpAnyH_more (S' := fun w' => Below x2.heap.size x2 w') (fun w' h => hb.trans (h.mono hb.size)) _ _ _ _ ?_
          have hH2 : Below x2.heap.size x2 x2 := Below.refl _ _
          clear hK K hH1 hb B1
          refine held_take (i := 6) (d := 66) (oi := _) (v := ?_) rfl rfl (by kernel_rfl) (by kernel_rfl) (by kernel_rfl) (fun _ _ _ h => h) (Or.inl ⟨by rfl, ?_⟩) (by assumption) ?_
          rotate_left
          · (intro w hSw; clear hSw; go_simp; (try with_reducible rfl))
          simp only [Act.put, List.setIfInBounds_toArray, List.set_cons_zero, List.set_cons_succ]
          refine held_take (i := 7) (d := 67) (oi := _) (v := ?_) rfl rfl (by kernel_rfl) (by kernel_rfl) (by kernel_rfl) (fun _ _ _ h => h) (Or.inl ⟨by rfl, ?_⟩) (by assumption) ?_
          rotate_left
          · (intro w hSw; clear hSw; go_simp; (try with_reducible rfl))
          simp only [Act.put, List.setIfInBounds_toArray, List.set_cons_zero, List.set_cons_succ]
          refine held_take (i := 8) (d := 68) (oi := _) (v := undef) rfl rfl (by kernel_rfl) (by kernel_rfl) (by kernel_rfl) (fun _ _ _ h => h) (Or.inr ⟨by rfl, rfl⟩) (by assumption) ?_
          simp only [Act.put, List.setIfInBounds_toArray, List.set_cons_zero, List.set_cons_succ]
          refine held_take (i := 9) (d := 69) (oi := _) (v := undef) rfl rfl (by kernel_rfl) (by kernel_rfl) (by kernel_rfl) (fun _ _ _ h => h) (Or.inr ⟨by rfl, rfl⟩) (by assumption) ?_
          simp only [Act.put, List.setIfInBounds_toArray, List.set_cons_zero, List.set_cons_succ]
          refine held_take (i := 10) (d := 70) (oi := _) (v := undef) rfl rfl (by kernel_rfl) (by kernel_rfl) (by kernel_rfl) (fun _ _ _ h => h) (Or.inr ⟨by rfl, rfl⟩) (by assumption) ?_
          simp only [Act.put, List.setIfInBounds_toArray, List.set_cons_zero, List.set_cons_succ]
          refine held_take (i := 11) (d := 71) (oi := _) (v := ?_) rfl rfl (by kernel_rfl) (by kernel_rfl) (by kernel_rfl) (fun _ _ _ h => h) (Or.inl ⟨by rfl, ?_⟩) (by assumption) ?_
          rotate_left
          · (intro w hSw; clear hSw; go_simp; (try with_reducible rfl))
          simp only [Act.put, List.setIfInBounds_toArray, List.set_cons_zero, List.set_cons_succ]
          refine held_take (i := 12) (d := 72) (oi := _) (v := ?_) rfl rfl (by kernel_rfl) (by kernel_rfl) (by kernel_rfl) (fun _ _ _ h => h) (Or.inl ⟨by rfl, ?_⟩) (by assumption) ?_
          rotate_left
          · (intro w hSw; clear hSw; go_simp; (try with_reducible rfl))
          simp only [Act.put, List.setIfInBounds_toArray, List.set_cons_zero, List.set_cons_succ]
          refine held_take (i := 13) (d := 73) (oi := _) (v := _) rfl rfl (by kernel_rfl) (by kernel_rfl) (by kernel_rfl) (fun _ _ _ h => h) (Or.inl ⟨by rfl, fun w hSw => Cls.exec_load rfl rfl (HR9.out w (B2.out.trans (hSw.mono B2.out.size)))⟩) (by assumption) ?_
          simp only [Act.put, List.setIfInBounds_toArray, List.set_cons_zero, List.set_cons_succ]
          refine held_take (i := 14) (d := 74) (oi := _) (v := ?_) rfl rfl (by kernel_rfl) (by kernel_rfl) (by kernel_rfl) (fun _ _ _ h => h) (Or.inl ⟨by rfl, ?_⟩) (by assumption) ?_
          rotate_left
          · (intro w hSw; clear hSw; go_simp; (try with_reducible rfl))
          simp only [Act.put, List.setIfInBounds_toArray, List.set_cons_zero, List.set_cons_succ]
          refine wpAnyH_ready (rs := [15]) (by kernel_rfl) (by simp) ?_
          refine AllReadyH.cons rfl (fun K hK => ?_) AllReadyH.nil
          go_simp
          go_wp2_with (go_at_call 32; (with_reducible refine (HCA9.out _ B2.out).mono ?_); rintro e x3 ⟨rfl, hb⟩)
          refine hK.out _ _ hb (fun _ => ?_)
          have B3 := Lib.hid (B2.out.trans (hb.mono B2.out.size))
          refine wpAnyH_more (S' := fun w' => Below x3.heap.size x3 w') (fun w' h => hb.trans (h.mono hb.size)) _ _ _ _ ?_
          have hH3 : Below x3.heap.size x3 x3 := Below.refl _ _
          clear hK K hH2 hb B2
          refine held_take (i := 16) (d := 76) (oi := _) (v := ?_) rfl rfl (by kernel_rfl) (by kernel_rfl) (by kernel_rfl) (fun _ _ _ h => h) (Or.inl ⟨by rfl, ?_⟩) (by assumption) ?_
          rotate_left
          · (intro w hSw; clear hSw; go_simp; (try with_reducible rfl))
          simp only [Act.put, List.setIfInBounds_toArray, List.set_cons_zero, List.set_cons_succ]
          refine held_take (i := 17) (d := 77) (oi := _) (v := ?_) rfl rfl (by kernel_rfl) (by kernel_rfl) (by kernel_rfl) (fun _ _ _ h => h) (Or.inl ⟨by rfl, ?_⟩) (by assumption) ?_
          rotate_left
          · (intro w hSw; clear hSw; go_simp; (try with_reducible rfl))
          simp only [Act.put, List.setIfInBounds_toArray, List.set_cons_zero, List.set_cons_succ]
          refine held_take (i := 18) (d := 78) (oi := _) (v := undef) rfl rfl (by kernel_rfl) (by kernel_rfl) (by kernel_rfl) (fun _ _ _ h => h) (Or.inr ⟨by rfl, rfl⟩) (by assumption) ?_
          simp only [Act.put, List.setIfInBounds_toArray, List.set_cons_zero, List.set_cons_succ]
          refine held_take (i := 19) (d := 79) (oi := _) (v := undef) rfl rfl (by kernel_rfl) (by kernel_rfl) (by kernel_rfl) (fun _ _ _ h => h) (Or.inr ⟨by rfl, rfl⟩) (by assumption) ?_
          simp only [Act.put, List.setIfInBounds_toArray, List.set_cons_zero, List.set_cons_succ]
          refine held_take (i := 20) (d := 80) (oi := _) (v := ?_) rfl rfl (by kernel_rfl) (by kernel_rfl) (by kernel_rfl) (fun _ _ _ h => h) (Or.inl ⟨by rfl, ?_⟩) (by assumption) ?_
          rotate_left
          · (intro w hSw; clear hSw; go_simp; (try with_reducible rfl))
          simp only [Act.put, List.setIfInBounds_toArray, List.set_cons_zero, List.set_cons_succ]
          refine held_take (i := 21) (d := 81) (oi := _) (v := ?_) rfl rfl (by kernel_rfl) (by kernel_rfl) (by kernel_rfl) (fun _ _ _ h => h) (Or.inl ⟨by rfl, ?_⟩) (by assumption) ?_
          rotate_left
          · (intro w hSw; clear hSw; go_simp; (try with_reducible rfl))
          simp only [Act.put, List.setIfInBounds_toArray, List.set_cons_zero, List.set_cons_succ]
          refine held_take (i := 22) (d := 82) (oi := _) (v := ?_) rfl rfl (by kernel_rfl) (by kernel_rfl) (by kernel_rfl) (fun _ _ _ h => h) (Or.inl ⟨by rfl, ?_⟩) (by assumption) ?_
          rotate_left
          · (intro w hSw; clear hSw; go_simp; (try with_reducible rfl))
          simp only [Act.put, List.setIfInBounds_toArray, List.set_cons_zero, List.set_cons_succ]
          refine held_take (i := 23) (d := 83) (oi := _) (v := ?_) rfl rfl (by kernel_rfl) (by kernel_rfl) (by kernel_rfl) (fun _ _ _ h => h) (Or.inl ⟨by rfl, ?_⟩) (by assumption) ?_
          rotate_left
          · (intro w hSw; clear hSw; go_simp; (try with_reducible rfl))
          simp only [Act.put, List.setIfInBounds_toArray, List.set_cons_zero, List.set_cons_succ]
          refine held_take (i := 24) (d := 84) (oi := _) (v := ?_) rfl rfl (by kernel_rfl) (by kernel_rfl) (by kernel_rfl) (fun _ _ _ h => h) (Or.inl ⟨by rfl, ?_⟩) (by assumption) ?_
          rotate_left
          · (intro w hSw; clear hSw; go_simp; (try with_reducible rfl))
          simp only [Act.put, List.setIfInBounds_toArray, List.set_cons_zero, List.set_cons_succ]
          refine held_take (i := 25) (d := 85) (oi := _) (v := ?_) rfl rfl (by kernel_rfl) (by kernel_rfl) (by kernel_rfl) (fun _ _ _ h => h) (Or.inl ⟨by rfl, ?_⟩) (by assumption) ?_
          rotate_left
          · (intro w hSw; clear hSw; go_simp; (try with_reducible rfl))
          simp only [Act.put, List.setIfInBounds_toArray, List.set_cons_zero, List.set_cons_succ]
          refine held_take (i := 26) (d := 86) (oi := _) (v := ?_) rfl rfl (by kernel_rfl) (by kernel_rfl) (by kernel_rfl) (fun _ _ _ h => h) (Or.inl ⟨by rfl, ?_⟩) (by assumption) ?_
          rotate_left
          · (intro w hSw; clear hSw; go_simp; (try with_reducible rfl))
          simp only [Act.put, List.setIfInBounds_toArray, List.set_cons_zero, List.set_cons_succ]
          refine held_take (i := 27) (d := 87) (oi := _) (v := ?_) rfl rfl (by kernel_rfl) (by kernel_rfl) (by kernel_rfl) (fun _ _ _ h => h) (Or.inl ⟨by rfl, ?_⟩) (by assumption) ?_
          rotate_left
          · (intro w hSw; clear hSw; go_simp; (try with_reducible rfl))
          simp only [Act.put, List.setIfInBounds_toArray, List.set_cons_zero, List.set_cons_succ]
          refine held_take (i := 28) (d := 88) (oi := _) (v := ?_) rfl rfl (by kernel_rfl) (by kernel_rfl) (by kernel_rfl) (fun _ _ _ h => h) (Or.inl ⟨by rfl, ?_⟩) (by assumption) ?_
          rotate_left
          · (intro w hSw; clear hSw; go_simp; (try with_reducible rfl))
          simp only [Act.put, List.setIfInBounds_toArray, List.set_cons_zero, List.set_cons_succ]
          refine wpAnyH_ready (rs := [29]) (by kernel_rfl) (by simp) ?_
          refine AllReadyH.cons rfl (fun K hK => ?_) AllReadyH.nil
          go_simp
          go_wp2_with (go_at_call 19; (with_reducible refine (HST9.out _ B3.out).mono ?_); rintro e x' ⟨rfl, rfl⟩)
          refine hK.out _ _ hH3 (fun _ => ?_)
          clear hK K
          refine held_take (i := 30) (d := 90) (oi := _) (v := ?_) rfl rfl (by kernel_rfl) (by kernel_rfl) (by kernel_rfl) (fun _ _ _ h => h) (Or.inl ⟨by rfl, ?_⟩) (by assumption) ?_
          rotate_left
          · (intro w hSw; clear hSw; go_simp; (try with_reducible rfl))
          simp only [Act.put, List.setIfInBounds_toArray, List.set_cons_zero, List.set_cons_succ]
          refine held_take (i := 31) (d := 91) (oi := _) (v := ?_) rfl rfl (by kernel_rfl) (by kernel_rfl) (by kernel_rfl) (fun _ _ _ h => h) (Or.inl ⟨by rfl, ?_⟩) (by assumption) ?_
          rotate_left
          · (intro w hSw; clear hSw; go_simp; (try with_reducible rfl))
          simp only [Act.put, List.setIfInBounds_toArray, List.set_cons_zero, List.set_cons_succ]
          refine held_take (i := 32) (d := 92) (oi := _) (v := ?_) rfl rfl (by kernel_rfl) (by kernel_rfl) (by kernel_rfl) (fun _ _ _ h => h) (Or.inl ⟨by rfl, ?_⟩) (by assumption) ?_
          rotate_left
          · (intro w hSw; clear hSw; go_simp; (try with_reducible rfl))
          simp only [Act.put, List.setIfInBounds_toArray, List.set_cons_zero, List.set_cons_succ]
          refine held_take (i := 33) (d := 93) (oi := _) (v := ?_) rfl rfl (by kernel_rfl) (by kernel_rfl) (by kernel_rfl) (fun _ _ _ h => h) (Or.inl ⟨by rfl, ?_⟩) (by assumption) ?_
          rotate_left
          · (intro w hSw; clear hSw; go_simp; (try with_reducible rfl))
          simp only [Act.put, List.setIfInBounds_toArray, List.set_cons_zero, List.set_cons_succ]
          refine held_take (i := 35) (d := 95) (oi := _) (v := _) rfl rfl (by kernel_rfl) (by kernel_rfl) (by kernel_rfl) (fun _ _ _ h => h) (Or.inl ⟨by rfl, fun w hSw => Cls.exec_load rfl rfl (HR9.out w (B3.out.trans (hSw.mono B3.out.size)))⟩) (by assumption) ?_
          simp only [Act.put, List.setIfInBounds_toArray, List.set_cons_zero, List.set_cons_succ]
          refine wpAnyH_ready (rs := [34]) (by kernel_rfl) (by simp) ?_
          refine AllReadyH.cons rfl (fun K hK => ?_) AllReadyH.nil
          go_simp
          go_wp2_with (go_at_call 20; (with_reducible refine (HWI9.out _ B3.out).mono ?_); rintro e x' ⟨rfl, rfl⟩)
          refine hK.out _ _ hH3 (fun _ => ?_)
          clear hK K
          refine wpAnyH_ready (rs := [36]) (by kernel_rfl) (by simp) ?_
          refine AllReadyH.cons rfl (fun K hK => ?_) AllReadyH.nil
          go_simp
          go_wp2_with (go_at_call 33; (with_reducible refine (HCL9.out _ B3.out).mono ?_); rintro e x4 ⟨rfl, hb⟩)
          refine hK.out _ _ hb (fun _ => ?_)
          have B4 := Lib.hid (B3.out.trans (hb.mono B3.out.size))
          refine wpAnyH_more (S' := fun w' => Below x4.heap.size x4 w') (fun w' h => hb.trans (h.mono hb.size)) _ _ _ _ ?_
          have hH4 : Below x4.heap.size x4 x4 := Below.refl _ _
          clear hK K hH3 hb B3
          refine held_take (i := 37) (d := 97) (oi := _) (v := ?_) rfl rfl (by kernel_rfl) (by kernel_rfl) (by kernel_rfl) (fun _ _ _ h => h) (Or.inl ⟨by rfl, ?_⟩) (by assumption) ?_
          rotate_left
          · (intro w hSw; clear hSw; go_simp; (try with_reducible rfl))
          simp only [Act.put, List.setIfInBounds_toArray, List.set_cons_zero, List.set_cons_succ]
          refine held_take (i := 38) (d := 98) (oi := _) (v := ?_) rfl rfl (by kernel_rfl) (by kernel_rfl) (by kernel_rfl) (fun _ _ _ h => h) (Or.inl ⟨by rfl, ?_⟩) (by assumption) ?_
          rotate_left
          · (intro w hSw; clear hSw; go_simp; (try with_reducible rfl))
          simp only [Act.put, List.setIfInBounds_toArray, List.set_cons_zero, List.set_cons_succ]
          refine held_take (i := 39) (d := 8) (oi := _) (v := ?_) rfl rfl (by kernel_rfl) (by kernel_rfl) (by kernel_rfl) (fun _ _ _ h => h) (Or.inl ⟨by rfl, ?_⟩) (by assumption) ?_
          rotate_left
          · (intro w hSw; clear hSw; go_simp; (try with_reducible rfl))
          simp only [Act.put, List.setIfInBounds_toArray, List.set_cons_zero, List.set_cons_succ]
          refine wpAnyH_done (by kernel_rfl) ?_ _
          go_wp2
          go_ret
          exact ⟨rfl, HBZ.out.trans (B4.out.mono HBZ.out.size)⟩
    · have hx1 : nextOf (paths l) n a = -1 := next_out hin a
      have hx2 : nextOf (paths l) n b = -1 := next_out hin b
      rw [hx1, hx2]
      by_cases hneg : n < 0
      · clear hin
        go_wp2
        go_ret
        exact ⟨rfl, HBZ.out⟩
      · have hge : ((paths l).length : Int) ≤ n := by omega
        have hn0 : 0 ≤ n := by omega
        clear hin hneg
        go_wp2_with (go_at_call 19; (with_reducible refine (HST.out _ HB9.out).mono ?_); rintro e10 w10 ⟨rfl, rfl⟩)
        go_ret
        exact ⟨rfl, HBZ.out⟩
  · have hn2 : 160 < (paths l).length := by omega
    go_wp2_with fail
    refine (HOVER.out hn2 w2 (Below.refl _ _)).mono ?_
    rintro e5 w5 ⟨rfl, b5⟩
    go_wp2
    go_ret
    exact ⟨rfl, HB.out.trans (b5.mono hszw)⟩
set_option maxHeartbeats 8000000 in
theorem walk (w : World) (xs : List TxV) (a0 : Option Addr) (cap0 : Nat) (hz0 : xs.length ≤ 6000000000000) (hx0 : ∀ x ∈ xs, x.text.length ≤ maxLen) (hts : Ts w a0 xs) (n : Int) (a b : UInt8) :
    Calls Try.prog 8 #[.slice a0 xs.length cap0, .int .i64 n, .int .u8 (a.toNat : Int), .int .u8 (b.toNat : Int)] w fun e w' => e = .returned (.bool true) ∧ Below w.heap.size w w' := by
  by_cases hall : xs.length ≤ 12 ∧ (∀ x ∈ xs, x.text.length ≤ 40)
  · exact small w xs a0 cap0 hts hall.1 hall.2 n a b
  · have HALL := Lib.hid hall
    have HX := Lib.hid hx0
    clear hall hx0
    go_enter Try.func8, Try.ntmps8
    go_wp2_with fail
    refine (Dfa.awake_any _).mono ?_
    rintro e' w1 ⟨rfl, hb2⟩
    have ts1 := hts.keep hb2
    go_wp2_with fail
    refine (ltexts_any xs a0 cap0 w1 ts1 hz0 HX.out).mono ?_
    rintro e' w2 ⟨hb3, hcase⟩
    have B2 := hb2.trans (hb3.mono hb2.size)
    rcases hcase with ⟨_, rfl⟩ | ⟨hok, aL, cL, rfl, _⟩
    · go_wp2
      go_ret
      exact ⟨rfl, B2⟩
    · have h12 : ¬ xs.length ≤ 12 := fun h => HALL.out ⟨h, hok⟩
      rw [decide_eq_false h12]
      clear HALL hok
      go_wp2
      go_ret
      exact ⟨rfl, B2⟩
end Go.Proofs.Ytnbfdjpmppflmaa.dfaClasses
