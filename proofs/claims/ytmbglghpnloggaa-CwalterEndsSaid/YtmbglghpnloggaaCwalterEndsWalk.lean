/- The walk of CwalterEnds. -/
import Derived.Test.YtmbglghpnloggaaRc
namespace Go.Proofs.Ytmbglghpnloggaa.cwalterEnds
open Go.Proofs.Ytmbglghpnloggaa.Tri Go.Proofs.Ytmbglghpnloggaa.Lnk Go.Proofs.Ytmbglghpnloggaa.Prs Go.Proofs.Ytmbglghpnloggaa.Spa Go.Proofs.Ytmbglghpnloggaa.Cwl Go.Proofs.Ytmbglghpnloggaa.Bck Go.Proofs.Ytmbglghpnloggaa.Wal Go.Proofs.Ytmbglghpnloggaa.Reg Go.RowKit Go.Maps
set_option maxRecDepth 100000
set_option linter.unusedVariables false

set_option maxHeartbeats 8000000 in
theorem small (w : World) (xs : List TxV) (a0 : Option Addr) (cap0 : Nat) (hts : Ts w a0 xs) (h0 : xs.length ≤ 12) (hx : ∀ x ∈ xs, x.text.length ≤ 40) (line : Tx) (aline : Option Addr) (cline : Nat) (hmline : line.length ≤ maxLen) (hbline : Bs w w.heap.size aline line) (hnline : aline = none → cline = 0) (hcline : line.length ≤ cline) :
    Calls Try.prog 4 #[.slice a0 xs.length cap0, .slice aline line.length cline] w fun e w' => e = .returned (.bool true) ∧ Below w.heap.size w w' := by
  have KL : Hid (Ln w aline line cline) := Lib.hid ⟨hbline, hcline, hnline⟩
  clear hbline hcline hnline hmline
  have hx' : ∀ x ∈ xs, x.text.length ≤ maxLen := fun x h => Nat.le_trans (hx x h) (by unfold maxLen; omega)
  have htot := Spa.few_tot h0 hx
  have HX := Lib.hid hx
  have HX' := Lib.hid hx'
  have HAW := Lib.hid (Wal.awake_any w)
  clear hx hx'
  go_enter Try.func4, Try.ntmps4
  go_wp2_with fail
  refine HAW.out.mono ?_
  rintro e' w1 ⟨rfl, hb2⟩
  have ts1 := hts.keep hb2
  go_wp2_with fail
  refine (ltexts_any xs a0 cap0 w1 ts1 (by omega) HX'.out).mono ?_
  rintro e' w2 ⟨hb3, hcase⟩
  rcases hcase with ⟨hbad, _⟩ | ⟨_, aL, cL, rfl, hsL⟩
  · exact absurd HX.out hbad
  rw [decide_eq_true h0]
  have HTS := Lib.hid (ts1.keep hb3)
  have HB := Lib.hid (hb2.trans (hb3.mono hb2.size))
  have hszw := HB.out.size
  obtain ⟨l, hl⟩ : ∃ l, l = xs.map TxV.text := ⟨_, rfl⟩
  have HLN : Hid (xs.length = l.length) := Lib.hid (by rw [hl]; simp)
  have HLL := Lib.hid hl
  have HL40 : Hid (∀ x ∈ l, x.length ≤ 40) := Lib.hid fun x h => by
    rw [hl] at h
    obtain ⟨y, hy, rfl⟩ := List.mem_map.1 h
    exact HX.out y hy
  rw [← hl] at hsL htot
  have HSL := Lib.hid hsL
  have HNEW : Hid (∀ X, Below w2.heap.size w2 X → Calls Try.prog 13 #[.slice a0 xs.length cap0] X (GivesCw X l)) := Lib.hid fun X hX => by
    have := wnew_any X xs a0 cap0 (HTS.out.keep hX) (by omega) (fun x h => Nat.le_trans (HX.out x h) (by omega)) (by rw [← HLL.out]; omega)
    rwa [← HLL.out] at this
  have LL : Hid (∀ X, Below w2.heap.size w2 X → Ln X aline line cline) := Lib.hid fun X hX => (KL.out.keep HB.out).keep hX
  clear HAW KL hb2 hb3 ts1 hsL hts hl HX'
  by_cases hf : line.length ≤ 120
  · go_wp2_with fail
    refine (few_any w2 _ _ _).mono ?_
    rintro e3 w3 ⟨rfl, rfl⟩
    rw [decide_eq_true hf]
    have HRE : Hid (∀ X, Below w2.heap.size w2 X → Calls Try.prog 18 #[.slice aL xs.length cL, .string (str line)] X (GivesInts X (windsOf l line))) := Lib.hid fun X hX => by
      have := rends_any X l aL cL (HSL.out.keep hX) (by have := HLN.out; omega) (fun z h => Nat.le_trans (HL40.out z h) (by omega)) (by omega) line (by omega)
      rwa [← HLN.out] at this
    have HEN : Hid (∀ X, Below w2.heap.size w2 X → Calls Try.prog 17 #[.pointer none, .slice aline line.length cline] X (GivesIs X [])) := Lib.hid fun X hX => by
      have := wends_any X none [] (cw_none X) line aline cline (LL.out X hX) (by omega)
      rwa [windsOf_nil] at this
    have HSN : Hid (∀ X, Below w2.heap.size w2 X → Calls Try.prog 14 #[.pointer none, .slice aline line.length cline] X (GivesPrs X [])) := Lib.hid fun X hX => by
      have := wscan_any X none [] (cw_none X) line aline cline (LL.out X hX) (by omega)
      rwa [scanOf_nil] at this
    have hwl := windsOf_len l line
    have HB22 := Lib.hid (Below.refl w2.heap.size w2)
    have hds : decide (windsOf l line = windsOf l line) = true := decide_eq_true rfl
    go_wp2_with fail
    refine wp_region_held_drew (S := fun w' => Below w2.drew.heap.size w2.drew w') (by kernel_rfl) (Below.refl _ _) (fun hH0 => ?_)
    have B0 := Lib.hid (below_drews HB22.out 1)
    change Hid (Below _ _ w2.drew) at B0
    generalize w2.drew = x0 at *
    refine held_take (i := 0) (d := 26) (oi := _) (v := ?_) rfl rfl (by kernel_rfl) (by kernel_rfl) (by kernel_rfl) (fun _ _ _ h => h) (Or.inl ⟨by rfl, ?_⟩) (by assumption) ?_
    rotate_left
    · (intro w hSw; clear hSw; go_simp; (try with_reducible rfl))
    simp only [Act.put, List.setIfInBounds_toArray, List.set_cons_zero, List.set_cons_succ]
    refine held_take (i := 2) (d := 28) (oi := _) (v := ?_) rfl rfl (by kernel_rfl) (by kernel_rfl) (by kernel_rfl) (fun _ _ _ h => h) (Or.inl ⟨by rfl, ?_⟩) (by assumption) ?_
    rotate_left
    · (intro w hSw; clear hSw; go_simp; (try with_reducible rfl))
    simp only [Act.put, List.setIfInBounds_toArray, List.set_cons_zero, List.set_cons_succ]
    refine held_take (i := 4) (d := 30) (oi := _) (v := ?_) rfl rfl (by kernel_rfl) (by kernel_rfl) (by kernel_rfl) (fun _ _ _ h => h) (Or.inl ⟨by rfl, ?_⟩) (by assumption) ?_
    rotate_left
    · (intro w hSw; clear hSw; go_simp; (try with_reducible rfl))
    simp only [Act.put, List.setIfInBounds_toArray, List.set_cons_zero, List.set_cons_succ]
    refine held_take (i := 5) (d := 31) (oi := _) (v := ?_) rfl rfl (by kernel_rfl) (by kernel_rfl) (by kernel_rfl) (fun _ _ _ h => h) (Or.inl ⟨by rfl, ?_⟩) (by assumption) ?_
    rotate_left
    · (intro w hSw; clear hSw; go_simp; (try with_reducible rfl))
    simp only [Act.put, List.setIfInBounds_toArray, List.set_cons_zero, List.set_cons_succ]
    have HCV := Lib.hid (fun w' (h : Below x0.heap.size x0 w') => str_of_bs cline (LL.out w' (B0.out.trans (h.mono B0.out.size))).1)
    refine held_take (i := 6) (d := 32) (oi := _) (v := ?_) rfl rfl (by kernel_rfl) (by kernel_rfl) (by kernel_rfl) (fun _ _ _ h => h) (Or.inl ⟨by rfl, ?_⟩) (by assumption) ?_
    rotate_left
    · (intro w hSw; have hcvw := HCV.out w hSw; clear hSw; go_simp; (try with_reducible rfl))
    simp only [Act.put, List.setIfInBounds_toArray, List.set_cons_zero, List.set_cons_succ]
    refine wpAnyH_ready (rs := [1]) (by kernel_rfl) (by simp) ?_
    refine AllReadyH.cons rfl (fun K hK => ?_) AllReadyH.nil
    go_simp
    go_wp2_with (go_at_call 13; (with_reducible refine (HNEW.out _ B0.out).mono ?_); rintro e x1 ⟨p, rfl, hcw, hb⟩)
    refine hK.out _ _ hb (fun _ => ?_)
    have B1 := Lib.hid (B0.out.trans (hb.mono B0.out.size))
    refine wpAnyH_more (S' := fun w' => Below x1.heap.size x1 w') (fun w' h => hb.trans (h.mono hb.size)) _ _ _ _ ?_
    have hH1 : Below x1.heap.size x1 x1 := Below.refl _ _
    clear hK K hH0 hb B0
    have W1 := Lib.hid hcw
    clear hcw
    refine wpAnyH_ready (rs := [3]) (by kernel_rfl) (by simp) ?_
    refine AllReadyH.cons rfl (fun K hK => ?_) AllReadyH.nil
    go_simp
    go_wp2_with (go_at_call 17; (with_reducible refine (wends_any x1 p l W1.out line aline cline (LL.out _ B1.out) (by omega)).mono ?_); rintro e x2 ⟨aX, cX, rfl, hpx, hb⟩)
    refine hK.out _ _ hb (fun _ => ?_)
    have B2 := Lib.hid (B1.out.trans (hb.mono B1.out.size))
    refine wpAnyH_more (S' := fun w' => Below x2.heap.size x2 w') (fun w' h => hb.trans (h.mono hb.size)) _ _ _ _ ?_
    have hH2 : Below x2.heap.size x2 x2 := Below.refl _ _
    clear hK K hH1 hb B1
    have PX := Lib.hid (fun w' (h : Below x2.heap.size x2 w') => (hpx.keep h).more h.size)
    clear hpx W1
    refine wpAnyH_ready (rs := [7]) (by kernel_rfl) (by simp) ?_
    refine AllReadyH.cons rfl (fun K hK => ?_) AllReadyH.nil
    go_simp
    go_wp2_with (go_at_call 18; (with_reducible refine (HRE.out _ B2.out).mono ?_); rintro e x3 ⟨aO, cO, rfl, hpo, _, hb⟩)
    have PX := Lib.hid (fun (w' : World) (h : Below x3.heap.size x3 w') => PX.out w' (hb.trans (h.mono hb.size)))
    refine hK.out _ _ hb (fun _ => ?_)
    have B3 := Lib.hid (B2.out.trans (hb.mono B2.out.size))
    refine wpAnyH_more (S' := fun w' => Below x3.heap.size x3 w') (fun w' h => hb.trans (h.mono hb.size)) _ _ _ _ ?_
    have hH3 : Below x3.heap.size x3 x3 := Below.refl _ _
    clear hK K hH2 hb B2
    have PO := Lib.hid hpo
    clear hpo
    refine wpAnyH_ready (rs := [8]) (by kernel_rfl) (by simp) ?_
    refine AllReadyH.cons rfl (fun K hK => ?_) AllReadyH.nil
    go_simp
    go_wp2_with (go_at_call 16; (with_reducible refine (isame_any x3 (windsOf l line) (windsOf l line) aX aO cX cO x3.heap.size (PX.out x3 (Below.refl _ _)) PO.out (by omega) (by omega)).mono ?_); rintro e x' ⟨rfl, q, rfl⟩)
    have hb : Below x3.heap.size x3 (x3.drewN q) := below_drews (Below.refl _ _) q
    generalize x3.drewN q = x4 at *
    refine hK.out _ _ hb (fun _ => ?_)
    have B4 := Lib.hid (B3.out.trans (hb.mono B3.out.size))
    refine wpAnyH_more (S' := fun w' => Below x4.heap.size x4 w') (fun w' h => hb.trans (h.mono hb.size)) _ _ _ _ ?_
    have hH4 : Below x4.heap.size x4 x4 := Below.refl _ _
    clear hK K hH3 hb B3
    refine held_take (i := 9) (d := 35) (oi := _) (v := ?_) rfl rfl (by kernel_rfl) (by kernel_rfl) (by kernel_rfl) (fun _ _ _ h => h) (Or.inl ⟨by rfl, ?_⟩) (by assumption) ?_
    rotate_left
    · (intro w hSw; clear hSw; go_simp; (try with_reducible rfl))
    simp only [Act.put, List.setIfInBounds_toArray, List.set_cons_zero, List.set_cons_succ]
    refine held_take (i := 10) (d := 36) (oi := _) (v := ?_) rfl rfl (by kernel_rfl) (by kernel_rfl) (by kernel_rfl) (fun _ _ _ h => h) (Or.inl ⟨by rfl, ?_⟩) (by assumption) ?_
    rotate_left
    · (intro w hSw; clear hSw; go_simp; (try with_reducible rfl))
    simp only [Act.put, List.setIfInBounds_toArray, List.set_cons_zero, List.set_cons_succ]
    refine held_take (i := 11) (d := 37) (oi := _) (v := ?_) rfl rfl (by kernel_rfl) (by kernel_rfl) (by kernel_rfl) (fun _ _ _ h => h) (Or.inl ⟨by rfl, ?_⟩) (by assumption) ?_
    rotate_left
    · (intro w hSw; clear hSw; go_simp; (try with_reducible rfl))
    simp only [Act.put, List.setIfInBounds_toArray, List.set_cons_zero, List.set_cons_succ]
    refine wpAnyH_ready (rs := [12]) (by kernel_rfl) (by simp) ?_
    refine AllReadyH.cons rfl (fun K hK => ?_) AllReadyH.nil
    go_simp
    go_wp2_with (go_at_call 17; (with_reducible refine (HEN.out _ B4.out).mono ?_); rintro e x5 ⟨aY, cY, rfl, _, hb⟩)
    refine hK.out _ _ hb (fun _ => ?_)
    have B5 := Lib.hid (B4.out.trans (hb.mono B4.out.size))
    refine wpAnyH_more (S' := fun w' => Below x5.heap.size x5 w') (fun w' h => hb.trans (h.mono hb.size)) _ _ _ _ ?_
    have hH5 : Below x5.heap.size x5 x5 := Below.refl _ _
    clear hK K hH4 hb B4
    refine held_take (i := 13) (d := 39) (oi := _) (v := ?_) rfl rfl (by kernel_rfl) (by kernel_rfl) (by kernel_rfl) (fun _ _ _ h => h) (Or.inl ⟨by rfl, ?_⟩) (by assumption) ?_
    rotate_left
    · (intro w hSw; clear hSw; go_simp; (try with_reducible rfl))
    simp only [Act.put, List.setIfInBounds_toArray, List.set_cons_zero, List.set_cons_succ]
    refine held_take (i := 14) (d := 40) (oi := _) (v := ?_) rfl rfl (by kernel_rfl) (by kernel_rfl) (by kernel_rfl) (fun _ _ _ h => h) (Or.inl ⟨by rfl, ?_⟩) (by assumption) ?_
    rotate_left
    · (intro w hSw; clear hSw; go_simp; (try with_reducible rfl))
    simp only [Act.put, List.setIfInBounds_toArray, List.set_cons_zero, List.set_cons_succ]
    refine held_take (i := 15) (d := 41) (oi := _) (v := ?_) rfl rfl (by kernel_rfl) (by kernel_rfl) (by kernel_rfl) (fun _ _ _ h => h) (Or.inl ⟨by rfl, ?_⟩) (by assumption) ?_
    rotate_left
    · (intro w hSw; clear hSw; go_simp; (try with_reducible rfl))
    simp only [Act.put, List.setIfInBounds_toArray, List.set_cons_zero, List.set_cons_succ]
    refine held_take (i := 16) (d := 42) (oi := _) (v := ?_) rfl rfl (by kernel_rfl) (by kernel_rfl) (by kernel_rfl) (fun _ _ _ h => h) (Or.inl ⟨by rfl, ?_⟩) (by assumption) ?_
    rotate_left
    · (intro w hSw; clear hSw; go_simp; (try with_reducible rfl))
    simp only [Act.put, List.setIfInBounds_toArray, List.set_cons_zero, List.set_cons_succ]
    refine held_take (i := 17) (d := 43) (oi := _) (v := ?_) rfl rfl (by kernel_rfl) (by kernel_rfl) (by kernel_rfl) (fun _ _ _ h => h) (Or.inl ⟨by rfl, ?_⟩) (by assumption) ?_
    rotate_left
    · (intro w hSw; clear hSw; go_simp; (try with_reducible rfl))
    simp only [Act.put, List.setIfInBounds_toArray, List.set_cons_zero, List.set_cons_succ]
    refine held_take (i := 18) (d := 44) (oi := _) (v := ?_) rfl rfl (by kernel_rfl) (by kernel_rfl) (by kernel_rfl) (fun _ _ _ h => h) (Or.inl ⟨by rfl, ?_⟩) (by assumption) ?_
    rotate_left
    · (intro w hSw; clear hSw; go_simp; (try with_reducible rfl))
    simp only [Act.put, List.setIfInBounds_toArray, List.set_cons_zero, List.set_cons_succ]
    refine wpAnyH_ready (rs := [19]) (by kernel_rfl) (by simp) ?_
    refine AllReadyH.cons rfl (fun K hK => ?_) AllReadyH.nil
    go_simp
    go_wp2_with (go_at_call 14; (with_reducible refine (HSN.out _ B5.out).mono ?_); rintro e x6 ⟨aZ, cZ, rfl, _, hb⟩)
    refine hK.out _ _ hb (fun _ => ?_)
    have B6 := Lib.hid (B5.out.trans (hb.mono B5.out.size))
    refine wpAnyH_more (S' := fun w' => Below x6.heap.size x6 w') (fun w' h => hb.trans (h.mono hb.size)) _ _ _ _ ?_
    have hH6 : Below x6.heap.size x6 x6 := Below.refl _ _
    clear hK K hH5 hb B5
    refine held_take (i := 20) (d := 46) (oi := _) (v := ?_) rfl rfl (by kernel_rfl) (by kernel_rfl) (by kernel_rfl) (fun _ _ _ h => h) (Or.inl ⟨by rfl, ?_⟩) (by assumption) ?_
    rotate_left
    · (intro w hSw; clear hSw; go_simp; (try with_reducible rfl))
    simp only [Act.put, List.setIfInBounds_toArray, List.set_cons_zero, List.set_cons_succ]
    refine held_take (i := 21) (d := 47) (oi := _) (v := ?_) rfl rfl (by kernel_rfl) (by kernel_rfl) (by kernel_rfl) (fun _ _ _ h => h) (Or.inl ⟨by rfl, ?_⟩) (by assumption) ?_
    rotate_left
    · (intro w hSw; clear hSw; go_simp; (try with_reducible rfl))
    simp only [Act.put, List.setIfInBounds_toArray, List.set_cons_zero, List.set_cons_succ]
    refine held_take (i := 22) (d := 48) (oi := _) (v := ?_) rfl rfl (by kernel_rfl) (by kernel_rfl) (by kernel_rfl) (fun _ _ _ h => h) (Or.inl ⟨by rfl, ?_⟩) (by assumption) ?_
    rotate_left
    · (intro w hSw; clear hSw; go_simp; (try with_reducible rfl))
    simp only [Act.put, List.setIfInBounds_toArray, List.set_cons_zero, List.set_cons_succ]
    refine held_take (i := 23) (d := 4) (oi := _) (v := ?_) rfl rfl (by kernel_rfl) (by kernel_rfl) (by kernel_rfl) (fun _ _ _ h => h) (Or.inl ⟨by rfl, ?_⟩) (by assumption) ?_
    rotate_left
    · (intro w hSw; clear hSw; go_simp; (try with_reducible rfl))
    simp only [Act.put, List.setIfInBounds_toArray, List.set_cons_zero, List.set_cons_succ]
    refine wpAnyH_done (by kernel_rfl) ?_ _
    go_wp2
    go_ret
    exact ⟨rfl, HB.out.trans (B6.out.mono HB.out.size)⟩
  · go_wp2_with fail
    refine (few_any w2 _ _ _).mono ?_
    rintro e3 w3 ⟨rfl, rfl⟩
    rw [decide_eq_false hf]
    go_wp2
    go_ret
    exact ⟨rfl, HB.out⟩
theorem walk (w : World) (xs : List TxV) (a0 : Option Addr) (cap0 : Nat) (hz0 : xs.length ≤ 6000000000000) (hx0 : ∀ x ∈ xs, x.text.length ≤ maxLen) (hts : Ts w a0 xs) (line : Tx) (aline : Option Addr) (cline : Nat) (hmline : line.length ≤ maxLen) (hbline : Bs w w.heap.size aline line) (hnline : aline = none → cline = 0) (hcline : line.length ≤ cline) :
    Calls Try.prog 4 #[.slice a0 xs.length cap0, .slice aline line.length cline] w fun e w' => e = .returned (.bool true) ∧ Below w.heap.size w w' := by
  by_cases hall : xs.length ≤ 12 ∧ (∀ x ∈ xs, x.text.length ≤ 40)
  · exact small w xs a0 cap0 hts hall.1 hall.2 line aline cline hmline hbline hnline hcline
  · clear hmline hbline hnline hcline
    have HALL := Lib.hid hall
    have HX := Lib.hid hx0
    clear hall hx0
    go_enter Try.func4, Try.ntmps4
    go_wp2_with fail
    refine (Wal.awake_any _).mono ?_
    rintro e' w1 ⟨rfl, hb2⟩
    have ts1 := hts.keep hb2
    go_wp2_with fail
    refine (ltexts_any xs a0 cap0 w1 ts1 hz0 HX.out).mono ?_
    rintro e' w2 ⟨hb3, hcase⟩
    have B2 := hb2.trans (hb3.mono hb2.size)
    rcases hcase with ⟨_, rfl⟩ | ⟨hok, aL, cL, rfl, _⟩
    · go_wp2_with fail
      refine (few_any _ _ _ _).mono ?_
      rintro e3 w3 ⟨rfl, rfl⟩
      go_wp2
      go_ret
      exact ⟨rfl, B2⟩
    · have h12 : ¬ xs.length ≤ 12 := fun h => HALL.out ⟨h, hok⟩
      rw [decide_eq_false h12]
      clear HALL hok
      go_wp2_with fail
      refine (few_any _ _ _ _).mono ?_
      rintro e3 w3 ⟨rfl, rfl⟩
      go_wp2
      go_ret
      exact ⟨rfl, B2⟩
end Go.Proofs.Ytmbglghpnloggaa.cwalterEnds
