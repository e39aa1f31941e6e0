/- The walk of StreamOver. -/
import Derived.Test.YtcekifknbljbiaaStrC4
namespace Go.Proofs.Ytcekifknbljbiaa.streamOver
open Go.Proofs.Ytcekifknbljbiaa.Stm Go.Proofs.Ytcekifknbljbiaa.Str Go.Proofs.Ytcekifknbljbiaa.Reg Go.RowKit Go.Maps
set_option maxRecDepth 100000
set_option linter.unusedVariables false

attribute [local go_sem ↓] Met.eql_counts
set_option maxHeartbeats 8000000 in
theorem walk (w : World) (xs : List TxV) (a0 : Option Addr) (cap0 : Nat) (hz0 : xs.length ≤ 6000000000000) (hx0 : ∀ x ∈ xs, x.text.length ≤ maxLen) (hts : Ts w a0 xs) (hcx : ∀ x ∈ xs, x.text.length ≤ x.cap) (most : Int) (hw0 : (Lit.int .i64 most).wf = true) (ms : List TxV) (a2 : Option Addr) (cap2 : Nat) (hz2 : ms.length ≤ 6000000000000) (hx2 : ∀ x ∈ ms, x.text.length ≤ maxLen) (hts2 : Ts w a2 ms) (hcx2 : ∀ x ∈ ms, x.text.length ≤ x.cap) :
    Calls Try.prog 8 #[.slice a0 xs.length cap0, .int .i64 most, .slice a2 ms.length cap2] w fun e w' => e = .returned (.bool true) ∧ Below w.heap.size w w' := by
  have HS := Lib.hid hts
  have HX := Lib.hid hx0
  have HCX := Lib.hid hcx
  have HAW := Lib.hid (awake_any w)
  have hz1 : xs.length ≤ maxLen := by unfold maxLen; omega
  clear hts hx0 hcx
  have HS2 := Lib.hid hts2
  have HX2 := Lib.hid hx2
  have HCX2 := Lib.hid hcx2
  have hz3 : ms.length ≤ maxLen := by unfold maxLen; omega
  obtain ⟨M, hM⟩ := max_nat most
  clear hts2 hx2 hcx2 hz2 hw0
  go_enter Try.func8, Try.ntmps8
  go_wp2_with fail
  refine HAW.out.mono ?_
  rintro e' w1 ⟨rfl, hb1⟩
  have HB1 := Lib.hid hb1
  clear HAW hb1
  have HS1 := Lib.hid (HS.out.keep HB1.out)
  go_wp2_with fail
  refine (few_any w1 a0 cap0 xs HS1.out hz1 HX.out).mono ?_
  rintro e' w2 ⟨z, rfl, rfl, hz⟩
  cases z
  · clear hz
    go_wp2_with fail
    go_ret
    exact ⟨rfl, HB1.out⟩
  have HF := Lib.hid (hz rfl)
  clear hz HS1 HX hz0 hz1
  go_wp2_with fail
  refine (few_any w2 a2 cap2 ms (HS2.out.keep HB1.out) hz3 HX2.out).mono ?_
  rintro e' w3 ⟨z, rfl, rfl, hz⟩
  cases z
  · clear hz
    go_wp2_with fail
    go_ret
    exact ⟨rfl, HB1.out⟩
  have HF2 := Lib.hid (hz rfl)
  clear hz HX2 hz3
  go_wp2_with fail
  refine (Met.new_mt w3).mono ?_
  rintro e' w4 ⟨rfl, hMt, hb4⟩
  have hsz := HB1.out.size
  have NW := Lib.hid (snew_any w w4 (some ⟨w3.heap.size, 0, none⟩) most M hM (HB1.out.trans (hb4.mono hsz)) hMt (fun k hk => by cases hk; exact hsz))
  clear hMt hb4 hM
  generalize w3.heap.size = gm at *
  go_wp2_with fail
  refine NW.out.mono ?_
  rintro e' w5 ⟨p, g, rfl, _, _, hS5, _⟩
  have RN := Lib.hid (run_any w w5 p _ g none (stNew M) hS5 0 (bd_new M) (by decide) xs a0 _ cap0 rfl (arg_cks HS.out HCX.out hS5.sbel (fun k hk => hS5.own0 hk)) (by have := HF.out.1; omega) (by have := HF.out.2.1; omega))
  clear NW hS5
  go_wp2_with fail
  refine RN.out.mono ?_
  rintro e' w6 ⟨v6, ys6, d6, rfl, _, _, _, hS6, _⟩
  have hbd : Bd 2000 (runs (stNew M) (tx xs)).1 := ((bd_new M).runs (tx xs)).more (by have : (tx xs).flatten.length ≤ 1500 := HF.out.2.1; omega)
  have hov := runs_is_over (stNew M) (tx xs)
  generalize (runs (stNew M) (tx xs)).1 = s1 at *
  have HS6 := Lib.hid hS6
  have HBD := Lib.hid hbd
  have HOV := Lib.hid hov
  clear RN hS6 hbd hov
  go_wp2_with fail
  refine (Met.counts_mt w6 gm 0 0 _ _ HS6.out.smt).mono ?_
  rintro e' w7 ⟨rfl, hb7⟩
  have HS7 := Lib.hid (HS6.out.keep hb7)
  clear hb7 HS6
  have hal : Below w7.heap.size w7 (w7.alloc (.cells #[.int .i64 0, .int .i64 0, .int .i64 (s1.hunt : Int), .int .i64 (s1.w.move : Int)] 44)) := Met.below_new _ _
  have HBL := Lib.hid (Met.Blk4.new w7 44 (.int .i64 0) (.int .i64 0) (.int .i64 (s1.hunt : Int)) (.int .i64 (s1.w.move : Int)))
  have HS8 := Lib.hid (HS7.out.keep hal)
  have hcb : w.heap.size ≤ w7.heap.size := HS7.out.sbel.size
  have hno : ¬ Str.Own p g d6 (some ⟨gm, 0, none⟩) w7.heap.size := fun e => by have := HS7.out.ownl e; omega
  have HNO := Lib.hid hno
  have HCB := Lib.hid hcb
  clear hal HS7 hno hcb
  go_wp2_with fail
  generalize w7.alloc (.cells #[.int .i64 0, .int .i64 0, .int .i64 (s1.hunt : Int), .int .i64 (s1.w.move : Int)] 44) = w8 at *
  generalize w7.heap.size = cb at *
  refine (serr_any w w8 p _ g d6 s1 HS8.out).mono ?_
  rintro e' w9 ⟨rfl, q, hq⟩
  have hb9 : Below w8.heap.size w8 w9 := by rw [hq]; exact below_drews (Below.refl _ _) _
  have HS9 := Lib.hid (HS8.out.keep hb9)
  have HBL9 := Lib.hid (HBL.out.same (hb9.block _ HBL.out.lt))
  have RN := Lib.hid (run_any w w9 p _ g d6 s1 HS9.out 2000 HBD.out (by decide) ms a2 _ cap2 rfl (arg_cks HS2.out HCX2.out HS9.out.sbel (fun k hk => HS9.out.own0 hk)) (by have := HF2.out.1; omega) (by have := HF2.out.2.1; omega))
  clear HS8 HBL hq hb9
  go_wp2_with fail
  refine RN.out.mono ?_
  rintro e' wa ⟨va, ysa, da, rfl, hya, hga, _, hSa, hca⟩
  rw [runs_over HOV.out] at hya hSa
  obtain rfl := map_nil_of hya
  obtain ⟨aa, ca, rfl, _⟩ := own_lt hga.1 (fun x hx => (hga.2 x hx).1)
  have HSa := Lib.hid hSa
  have HBLa := Lib.hid (HBL9.out.same (hca.cblk _ HBL9.out.lt HNO.out))
  clear RN hya hga hSa hca HS9 HBL9
  go_wp2_with fail
  refine (serr_any w wa p _ g da s1 HSa.out).mono ?_
  rintro e' wb ⟨rfl, q, hq⟩
  have hbb : Below wa.heap.size wa wb := by rw [hq]; exact below_drews (Below.refl _ _) _
  have HSb := Lib.hid (HSa.out.keep hbb)
  have HBLb := Lib.hid (HBLa.out.same (hbb.block _ HBLa.out.lt))
  clear HSa HBLa hq hbb
  have HBB : Hid (Below wb.heap.size wb wb) := Lib.hid (Below.refl _ _)
  have CC : Hid (∀ X, Below wb.heap.size wb X → Calls Try.prog 19 #[.pointer (some ⟨gm, 0, none⟩)] X fun e w' => e = .returned (.agg #[.int .i64 0, .int .i64 0, .int .i64 (s1.hunt : Int), .int .i64 (s1.w.move : Int)]) ∧ Below X.heap.size X w') := Lib.hid fun X h => Met.counts_mt X gm 0 0 _ _ (HSb.out.keep h).smt
  have L0 : Hid (∀ X, Below wb.heap.size wb X → X.cell? ⟨cb, 0, none⟩ = some (.int .i64 0) ∧ X.cell? ⟨cb, 1, none⟩ = some (.int .i64 0) ∧ X.cell? ⟨cb, 2, none⟩ = some (.int .i64 (s1.hunt : Int)) ∧ X.cell? ⟨cb, 3, none⟩ = some (.int .i64 (s1.w.move : Int))) := Lib.hid fun X h => (HBLb.out.same (h.block _ HBLb.out.lt)).cells
  have n1 := Met.eql_counts 0 0 (s1.hunt : Int) (s1.w.move : Int) 0 0 (s1.hunt : Int) (s1.w.move : Int)
  have n2 : (errOf s1 == errOf s1) = true := beq_self_eq_true _
  have n3 : (badNum s1 == badNum s1) = true := beq_self_eq_true _
  go_wp2_with fail
  refine wp_region_held_drew (S := fun w' => Below wb.drew.heap.size wb.drew w') (by kernel_rfl) (Below.refl _ _) (fun hH0 => ?_)
  have B0 := Lib.hid (below_drews HBB.out 1)
  change Hid (Below _ _ wb.drew) at B0
  generalize wb.drew = x0 at *
  refine held_take (i := 0) (d := 50) (oi := _) (v := ?_) rfl rfl (by kernel_rfl) (by kernel_rfl) (by kernel_rfl) (fun _ _ _ h => h) (Or.inl ⟨by rfl, ?_⟩) (by assumption) ?_
  rotate_left
  · (intro w hSw; clear hSw; go_simp; (try with_reducible rfl))
  simp only [Act.put, List.setIfInBounds_toArray, List.set_cons_zero, List.set_cons_succ]
  refine held_take (i := 1) (d := 51) (oi := _) (v := ?_) rfl rfl (by kernel_rfl) (by kernel_rfl) (by kernel_rfl) (fun _ _ _ h => h) (Or.inl ⟨by rfl, ?_⟩) (by assumption) ?_
  rotate_left
  · (intro w hSw; clear hSw; go_simp; (try with_reducible rfl))
  simp only [Act.put, List.setIfInBounds_toArray, List.set_cons_zero, List.set_cons_succ]
  refine held_take (i := 2) (d := 52) (oi := _) (v := ?_) rfl rfl (by kernel_rfl) (by kernel_rfl) (by kernel_rfl) (fun _ _ _ h => h) (Or.inl ⟨by rfl, ?_⟩) (by assumption) ?_
  rotate_left
  · (intro w hSw; clear hSw; go_simp; (try with_reducible rfl))
  simp only [Act.put, List.setIfInBounds_toArray, List.set_cons_zero, List.set_cons_succ]
  refine held_take (i := 3) (d := 53) (oi := _) (v := ?_) rfl rfl (by kernel_rfl) (by kernel_rfl) (by kernel_rfl) (fun _ _ _ h => h) (Or.inl ⟨by rfl, ?_⟩) (by assumption) ?_
  rotate_left
  · (intro w hSw; clear hSw; go_simp; (try with_reducible rfl))
  simp only [Act.put, List.setIfInBounds_toArray, List.set_cons_zero, List.set_cons_succ]
  refine held_take (i := 4) (d := 54) (oi := _) (v := ?_) rfl rfl (by kernel_rfl) (by kernel_rfl) (by kernel_rfl) (fun _ _ _ h => h) (Or.inl ⟨by rfl, ?_⟩) (by assumption) ?_
  rotate_left
  · (intro w hSw; clear hSw; go_simp; (try with_reducible rfl))
  simp only [Act.put, List.setIfInBounds_toArray, List.set_cons_zero, List.set_cons_succ]
  refine held_take (i := 6) (d := 56) (oi := _) (v := ?_) rfl rfl (by kernel_rfl) (by kernel_rfl) (by kernel_rfl) (fun _ _ _ h => h) (Or.inl ⟨by rfl, ?_⟩) (by assumption) ?_
  rotate_left
  · (intro w hSw; have hld := L0.out w (B0.out.trans (hSw.mono B0.out.size)); obtain ⟨g0, g1, g2, g3⟩ := hld; clear hSw; go_simp; (try with_reducible rfl))
  simp only [Act.put, List.setIfInBounds_toArray, List.set_cons_zero, List.set_cons_succ]
  refine wpAnyH_ready (rs := [5]) (by kernel_rfl) (by simp) ?_
  refine AllReadyH.cons rfl (fun K hK => ?_) AllReadyH.nil
  go_simp
  go_wp2_with (go_at_call 19; (with_reducible refine (CC.out _ B0.out).mono ?_); rintro e x1 ⟨rfl, hb⟩)
  refine hK.out _ _ hb (fun _ => ?_)
  have B1 := Lib.hid (B0.out.trans (hb.mono B0.out.size))
  refine wpAnyH_more (S' := fun w' => Below x1.heap.size x1 w') (fun w' h => hb.trans (h.mono hb.size)) _ _ _ _ ?_
  have hH1 : Below x1.heap.size x1 x1 := Below.refl _ _
  clear hK K hH0 hb B0
  refine held_take (i := 7) (d := 57) (oi := _) (v := ?_) rfl rfl (by kernel_rfl) (by kernel_rfl) (by kernel_rfl) (fun _ _ _ h => h) (Or.inl ⟨by rfl, ?_⟩) (by assumption) ?_
  rotate_left
  · (intro w hSw; clear hSw; go_simp; (try with_reducible rfl))
  simp only [Act.put, List.setIfInBounds_toArray, List.set_cons_zero, List.set_cons_succ]
  refine held_take (i := 8) (d := 58) (oi := _) (v := ?_) rfl rfl (by kernel_rfl) (by kernel_rfl) (by kernel_rfl) (fun _ _ _ h => h) (Or.inl ⟨by rfl, ?_⟩) (by assumption) ?_
  rotate_left
  · (intro w hSw; clear hSw; go_simp; (try with_reducible rfl))
  simp only [Act.put, List.setIfInBounds_toArray, List.set_cons_zero, List.set_cons_succ]
  refine held_take (i := 9) (d := 59) (oi := _) (v := ?_) rfl rfl (by kernel_rfl) (by kernel_rfl) (by kernel_rfl) (fun _ _ _ h => h) (Or.inl ⟨by rfl, ?_⟩) (by assumption) ?_
  rotate_left
  · (intro w hSw; clear hSw; go_simp; (try with_reducible rfl))
  simp only [Act.put, List.setIfInBounds_toArray, List.set_cons_zero, List.set_cons_succ]
  refine held_take (i := 10) (d := 60) (oi := _) (v := ?_) rfl rfl (by kernel_rfl) (by kernel_rfl) (by kernel_rfl) (fun _ _ _ h => h) (Or.inl ⟨by rfl, ?_⟩) (by assumption) ?_
  rotate_left
  · (intro w hSw; clear hSw; go_simp; (try with_reducible rfl))
  simp only [Act.put, List.setIfInBounds_toArray, List.set_cons_zero, List.set_cons_succ]
  refine held_take (i := 11) (d := 61) (oi := _) (v := ?_) rfl rfl (by kernel_rfl) (by kernel_rfl) (by kernel_rfl) (fun _ _ _ h => h) (Or.inl ⟨by rfl, ?_⟩) (by assumption) ?_
  rotate_left
  · (intro w hSw; clear hSw; go_simp; (try with_reducible rfl))
  simp only [Act.put, List.setIfInBounds_toArray, List.set_cons_zero, List.set_cons_succ]
  refine held_take (i := 12) (d := 62) (oi := _) (v := ?_) rfl rfl (by kernel_rfl) (by kernel_rfl) (by kernel_rfl) (fun _ _ _ h => h) (Or.inl ⟨by rfl, ?_⟩) (by assumption) ?_
  rotate_left
  · (intro w hSw; clear hSw; go_simp; (try with_reducible rfl))
  simp only [Act.put, List.setIfInBounds_toArray, List.set_cons_zero, List.set_cons_succ]
  refine held_take (i := 13) (d := 63) (oi := _) (v := ?_) rfl rfl (by kernel_rfl) (by kernel_rfl) (by kernel_rfl) (fun _ _ _ h => h) (Or.inl ⟨by rfl, ?_⟩) (by assumption) ?_
  rotate_left
  · (intro w hSw; clear hSw; go_simp; (try with_reducible rfl))
  simp only [Act.put, List.setIfInBounds_toArray, List.set_cons_zero, List.set_cons_succ]
  refine held_take (i := 14) (d := 64) (oi := _) (v := ?_) rfl rfl (by kernel_rfl) (by kernel_rfl) (by kernel_rfl) (fun _ _ _ h => h) (Or.inl ⟨by rfl, ?_⟩) (by assumption) ?_
  rotate_left
  · (intro w hSw; clear hSw; go_simp; (try with_reducible rfl))
  simp only [Act.put, List.setIfInBounds_toArray, List.set_cons_zero, List.set_cons_succ]
  refine held_take (i := 15) (d := 65) (oi := _) (v := ?_) rfl rfl (by kernel_rfl) (by kernel_rfl) (by kernel_rfl) (fun _ _ _ h => h) (Or.inl ⟨by rfl, ?_⟩) (by assumption) ?_
  rotate_left
  · (intro w hSw; clear hSw; go_simp; (try with_reducible rfl))
  simp only [Act.put, List.setIfInBounds_toArray, List.set_cons_zero, List.set_cons_succ]
  refine held_take (i := 16) (d := 66) (oi := _) (v := ?_) rfl rfl (by kernel_rfl) (by kernel_rfl) (by kernel_rfl) (fun _ _ _ h => h) (Or.inl ⟨by rfl, ?_⟩) (by assumption) ?_
  rotate_left
  · (intro w hSw; clear hSw; go_simp; (try with_reducible rfl))
  simp only [Act.put, List.setIfInBounds_toArray, List.set_cons_zero, List.set_cons_succ]
  refine held_take (i := 17) (d := 67) (oi := _) (v := ?_) rfl rfl (by kernel_rfl) (by kernel_rfl) (by kernel_rfl) (fun _ _ _ h => h) (Or.inl ⟨by rfl, ?_⟩) (by assumption) ?_
  rotate_left
  · (intro w hSw; clear hSw; go_simp; (try with_reducible rfl))
  simp only [Act.put, List.setIfInBounds_toArray, List.set_cons_zero, List.set_cons_succ]
  refine held_take (i := 18) (d := 68) (oi := _) (v := ?_) rfl rfl (by kernel_rfl) (by kernel_rfl) (by kernel_rfl) (fun _ _ _ h => h) (Or.inl ⟨by rfl, ?_⟩) (by assumption) ?_
  rotate_left
  · (intro w hSw; clear hSw; go_simp; (try with_reducible rfl))
  simp only [Act.put, List.setIfInBounds_toArray, List.set_cons_zero, List.set_cons_succ]
  refine held_take (i := 19) (d := 6) (oi := _) (v := ?_) rfl rfl (by kernel_rfl) (by kernel_rfl) (by kernel_rfl) (fun _ _ _ h => h) (Or.inl ⟨by rfl, ?_⟩) (by assumption) ?_
  rotate_left
  · (intro w hSw; clear hSw; go_simp; (try with_reducible rfl))
  simp only [Act.put, List.setIfInBounds_toArray, List.set_cons_zero, List.set_cons_succ]
  refine wpAnyH_done (by kernel_rfl) ?_ _
  go_wp2
  go_ret
  have hfin := HSb.out.sbel.trans (B1.out.mono HSb.out.sbel.size)
  exact ⟨ret_bool (by simp), hfin⟩
end Go.Proofs.Ytcekifknbljbiaa.streamOver
