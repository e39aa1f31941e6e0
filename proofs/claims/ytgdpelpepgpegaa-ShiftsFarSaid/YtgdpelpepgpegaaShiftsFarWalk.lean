/- The walk of ShiftsFar. -/
import Derived.Test.YtgdpelpepgpegaaHc
namespace Go.Proofs.Ytgdpelpepgpegaa.shiftsFar
open Go.Proofs.Ytgdpelpepgpegaa.Tri Go.Proofs.Ytgdpelpepgpegaa.Cwl Go.Proofs.Ytgdpelpepgpegaa.Bck Go.Proofs.Ytgdpelpepgpegaa.Shf Go.Proofs.Ytgdpelpepgpegaa.Lit Go.Proofs.Ytgdpelpepgpegaa.Reg Go.RowKit Go.Maps
set_option maxRecDepth 100000
set_option linter.unusedVariables false

set_option maxHeartbeats 8000000 in
theorem small (w : World) (xs : List TxV) (a0 : Option Addr) (cap0 : Nat) (hts : Ts w a0 xs) (h0 : xs.length ≤ 12) (hx : ∀ x ∈ xs, x.text.length ≤ 40) (n c : UInt8) :
    Calls Try.prog 4 #[.slice a0 xs.length cap0, .int .u8 (n.toNat : Int), .int .u8 (c.toNat : Int)] w fun e w' => e = .returned (.bool true) ∧ Below w.heap.size w w' := by
  have hx' : ∀ x ∈ xs, x.text.length ≤ maxLen := fun x h => Nat.le_trans (hx x h) (by unfold maxLen; omega)
  have htot := Spa.few_tot h0 hx
  have HX := Lib.hid hx
  have HX' := Lib.hid hx'
  have HAW := Lib.hid (Shf.awake_any w)
  clear hx hx'
  go_enter Try.func4, Try.ntmps4
  go_wp2_with fail
  refine HAW.out.mono ?_
  rintro e' w1 ⟨rfl, hb2⟩
  have ts1 := hts.keep hb2
  go_wp2_with fail
  refine (ltexts_any xs a0 cap0 w1 ts1 (by omega) HX'.out).mono ?_
  rintro e' w2 ⟨hb3, hcase⟩
  rcases hcase with ⟨hbad, _⟩ | ⟨_, aL, cL, rfl, hsL⟩
  · exact absurd HX.out hbad
  rw [decide_eq_true h0]
  have HTS := Lib.hid (ts1.keep hb3)
  have HB := Lib.hid (hb2.trans (hb3.mono hb2.size))
  have hszw := HB.out.size
  obtain ⟨l, hl⟩ : ∃ l, l = xs.map TxV.text := ⟨_, rfl⟩
  have HBU : Hid (∀ X, Below w2.heap.size w2 X → Calls Try.prog 11 #[.slice a0 xs.length cap0] X (GivesBk X l)) := Lib.hid fun X hX => by
    have := bbuild_any X xs a0 cap0 (HTS.out.keep hX) (by omega) (fun x h => Nat.le_trans (HX.out x h) (by omega))
    rwa [← hl] at this
  have HLN : Hid (xs.length = l.length) := Lib.hid (by rw [hl]; simp)
  have HLL := Lib.hid hl
  have HL40 : Hid (∀ x ∈ l, x.length ≤ 40) := Lib.hid fun x h => by
    rw [hl] at h
    obtain ⟨y, hy, rfl⟩ := List.mem_map.1 h
    exact HX.out y hy
  rw [← hl] at hsL htot
  have HSL := Lib.hid hsL
  have HTD : Hid (∀ X, Below w2.heap.size w2 X → Calls Try.prog 12 #[.slice aL xs.length cL] X (GivesSs X (turned l))) := Lib.hid fun X hX => by
    have := rturned_any X l aL cL (HSL.out.keep hX) (by rw [← HLN.out]; omega) (fun x h => Nat.le_trans (HL40.out x h) (by omega))
    rwa [← HLN.out] at this
  have HT40 : Hid (∀ x ∈ turned l, x.length ≤ 40) := Lib.hid fun x h => by
    have := HL40.out _ ((mem_turned l x).1 h).2
    rwa [List.length_reverse] at this
  have htl : (turned l).length ≤ 12 := by have := turned_len l; have := HLN.out; omega
  have htt := turned_tot l
  clear HAW hb2 hb3 ts1 hsL hts hl HX'
  go_wp2_with fail
  refine (HBU.out w2 (Below.refl _ _)).mono ?_
  rintro e w3 ⟨x, rfl, hk, hb3⟩
  have HB3 := Lib.hid hb3
  have HK := Lib.hid hk
  clear hb3 hk
  go_wp2_with fail
  refine (sbuild_any w3 x l HK.out (by omega)).mono ?_
  rintro e w4 ⟨sp, rfl, hsh, hb4⟩
  have HB4 := Lib.hid (HB3.out.trans (hb4.mono HB3.out.size))
  have HK4 := Lib.hid (HK.out.keep hb4)
  have HS4 := Lib.hid hsh
  clear hb4 hsh HK
  have hpos0 : 1 ≤ (paths (turned l)).length := (paths_wf (turned l)).pos
  go_wp2_with fail
  refine (HTD.out w4 HB4.out).mono ?_
  rintro e w5 ⟨aT, cT, rfl, hsT, hb5⟩
  have HB5 := Lib.hid (HB4.out.trans (hb5.mono HB4.out.size))
  have HS5 := Lib.hid (HS4.out.keep hb5)
  have HST := Lib.hid hsT
  clear hb5 hsT HK4 HS4
  go_wp2_with fail
  refine (rpaths_any w5 (turned l) aT cT HST.out (by omega) (by omega)).mono ?_
  rintro e w6 ⟨aP, cP, rfl, hsP, hb6⟩
  have HB6 := Lib.hid (HB5.out.trans (hb6.mono HB5.out.size))
  have HS6 := Lib.hid (HS5.out.keep hb6)
  have HST6 := Lib.hid (HST.out.keep hb6)
  have HSP6 := Lib.hid hsP
  clear hb6 hsP HS5 HST
  have hps : (paths (turned l)).length ≤ 481 := by have := paths_len (turned l); omega
  have hsh : ∀ z ∈ paths (turned l), z.length ≤ 40 := fun z hz => path_short0 HT40.out hz
  have hq0 : ∀ z ∈ turned l, 0 < z.length := fun z h => turned_ne h
  have HF1 := Lib.hid (fun i h => @fstN_at l i h)
  have HF2 := Lib.hid (fun i h => @sndN_at l i h)
  have HF3 := Lib.hid (fun i h => @farN_at l i h)
  have HO1 := Lib.hid (fun n h => @fstN_off l n h)
  have HO2 := Lib.hid (fun n h => @sndN_off l n h)
  have HO3 := Lib.hid (fun n h => @farN_off l n h)
  clear htt
  generalize hp : paths (turned l) = p at *
  generalize hq : turned l = q at *
  have HPP := Lib.hid hp
  have HQ := Lib.hid hq
  have HSH := Lib.hid hsh
  have HQ0 := Lib.hid hq0
  clear hp hq hsh hq0
  obtain ⟨K, hK⟩ : ∃ K, K = n.toNat % p.length := ⟨_, rfl⟩
  have hKl : K < p.length := by rw [hK]; exact Nat.mod_lt _ (by omega)
  have htm : (n.toNat : Int).tmod (p.length : Int) = (K : Int) := by rw [hK]; exact (Int.ofNat_tmod n.toNat p.length).symm
  have hwi : IntKind.i64.wrap (n.toNat : Int) = (n.toNat : Int) := IntWalk.i64_in _ (by have := n.toNat_lt; omega)
  have hz2 : ¬ (p.length : Int) = 0 := by omega
  have hz3 : ((p.length : Int) == 0) = false := by rw [beq_eq_false_iff_ne]; omega
  have hKi : (K : Int) < (p.length : Int) := by omega
  clear hK
  obtain ⟨bP, oP, rfl, hbP, hcP⟩ := HSP6.out (by omega)
  go_wp2_with fail
  refine (sbuild_none w6).mono ?_
  rintro e w7 ⟨sq, rfl, hsq, hb7⟩
  have HB7 := Lib.hid hb7
  have HSQ := Lib.hid hsq
  have h40 := HSH.out _ (List.getElem_mem hKl)
  have HS7 := Lib.hid (HS6.out.keep hb7)
  have HST7 := Lib.hid (HST6.out.keep hb7)
  have HSP7 := Lib.hid (HSP6.out.keep hb7)
  have hbP7 : bP < w7.heap.size := by have := hb7.size; omega
  have hc7 := (hb7.cell (p := ⟨bP, oP + K, none⟩) hbP).trans (hcP K hKl)
  have HFAR : Hid (∀ X, Below w7.heap.size w7 X → Calls Try.prog 18 #[.pointer sp, .int .i64 (K : Int), .int .u8 (c.toNat : Int)] X fun e w' => e = .returned (.int .i64 (farOf q p p[K] c : Int)) ∧ Below X.heap.size X w') := Lib.hid fun X hX => by
    have := sfar_any X sp l (HS7.out.keep hX) (K : Int) (wf_nat (by omega) (by omega)) c
    rwa [HF3.out K hKl c] at this
  have HRF := Lib.hid (fun X (hX : Below w7.heap.size w7 X) => rfar_any X q p aT (some ⟨bP, oP, none⟩) cT cP (HST7.out.keep hX) (HSP7.out.keep hX) (by omega) (by omega) HQ0.out (fun z hz => Nat.le_trans (HT40.out z hz) (by omega)) (fun z hz => Nat.le_trans (HSH.out z hz) (by omega)) p[K] (by omega) c)
  have HCK : Hid (∀ X, Below w7.heap.size w7 X → X.cell? ⟨bP, oP + K, none⟩ = some (.string (str p[K]))) := Lib.hid fun X hX => (hX.cell (p := ⟨bP, oP + K, none⟩) hbP7).trans hc7
  have HX1 : Hid (∀ X, Below w7.heap.size w7 X → Calls Try.prog 14 #[.pointer sq, .int .i64 0] X fun e w' => e = .returned (.int .i64 0) ∧ Below X.heap.size X w') := Lib.hid fun X hX => by
    have := sfirst_any X sq [] (HSQ.out.keep hX) 0 (by decide)
    rwa [fstN_nil] at this
  have HX3 : Hid (∀ X, Below w7.heap.size w7 X → Calls Try.prog 18 #[.pointer sq, .int .i64 0, .int .u8 (c.toNat : Int)] X fun e w' => e = .returned (.int .i64 0) ∧ Below X.heap.size X w') := Lib.hid fun X hX => by
    have := sfar_any X sq [] (HSQ.out.keep hX) 0 (by decide) c
    rwa [farN_nil] at this
  have HN1 : Hid (∀ X, Below w7.heap.size w7 X → Calls Try.prog 14 #[.pointer none, .int .i64 0] X fun e w' => e = .returned (.int .i64 0) ∧ Below X.heap.size X w') := Lib.hid fun X hX => by
    have := sfirst_any X none [] (sh_none X) 0 (by decide)
    rwa [fstN_nil] at this
  have HN2 : Hid (∀ X, Below w7.heap.size w7 X → Calls Try.prog 16 #[.pointer none, .int .i64 0] X fun e w' => e = .returned (.int .i64 0) ∧ Below X.heap.size X w') := Lib.hid fun X hX => by
    have := ssecond_any X none [] (sh_none X) 0 (by decide)
    rwa [sndN_nil] at this
  have HN3 : Hid (∀ X, Below w7.heap.size w7 X → Calls Try.prog 18 #[.pointer none, .int .i64 0, .int .u8 (c.toNat : Int)] X fun e w' => e = .returned (.int .i64 0) ∧ Below X.heap.size X w') := Lib.hid fun X hX => by
    have := sfar_any X none [] (sh_none X) 0 (by decide) c
    rwa [farN_nil] at this
  have HB7b := Lib.hid (Below.refl w7.heap.size w7)
  clear hb7 hsq hcP hc7
  generalize farOf q p p[K] c = fv at *
  generalize p[K] = z at *
  have hself : ((fv : Int) == fv) = true := by simp
  go_wp2_with fail
  refine wp_region_held_drew (S := fun w' => Below w7.drew.heap.size w7.drew w') (by kernel_rfl) (Below.refl _ _) (fun hH0 => ?_)
  have B0 := Lib.hid (below_drews HB7b.out 1)
  change Hid (Below _ _ w7.drew) at B0
  generalize w7.drew = x0 at *
  refine held_take (i := 0) (d := 39) (oi := _) (v := ?_) rfl rfl (by kernel_rfl) (by kernel_rfl) (by kernel_rfl) (fun _ _ _ h => h) (Or.inl ⟨by rfl, ?_⟩) (by assumption) ?_
  rotate_left
  · (intro w hSw; clear hSw; go_simp; (try with_reducible rfl))
  simp only [Act.put, List.setIfInBounds_toArray, List.set_cons_zero, List.set_cons_succ]
  refine held_take (i := 1) (d := 40) (oi := _) (v := ?_) rfl rfl (by kernel_rfl) (by kernel_rfl) (by kernel_rfl) (fun _ _ _ h => h) (Or.inl ⟨by rfl, ?_⟩) (by assumption) ?_
  rotate_left
  · (intro w hSw; clear hSw; go_simp; (try with_reducible rfl))
  simp only [Act.put, List.setIfInBounds_toArray, List.set_cons_zero, List.set_cons_succ]
  refine held_take (i := 2) (d := 41) (oi := _) (v := ?_) rfl rfl (by kernel_rfl) (by kernel_rfl) (by kernel_rfl) (fun _ _ _ h => h) (Or.inl ⟨by rfl, ?_⟩) (by assumption) ?_
  rotate_left
  · (intro w hSw; clear hSw; go_simp; (try with_reducible rfl))
  simp only [Act.put, List.setIfInBounds_toArray, List.set_cons_zero, List.set_cons_succ]
  refine held_take (i := 4) (d := 43) (oi := _) (v := ?_) rfl rfl (by kernel_rfl) (by kernel_rfl) (by kernel_rfl) (fun _ _ _ h => h) (Or.inl ⟨by rfl, ?_⟩) (by assumption) ?_
  rotate_left
  · (intro w hSw; clear hSw; go_simp; (try with_reducible rfl))
  simp only [Act.put, List.setIfInBounds_toArray, List.set_cons_zero, List.set_cons_succ]
  refine held_take (i := 5) (d := 44) (oi := _) (v := ?_) rfl rfl (by kernel_rfl) (by kernel_rfl) (by kernel_rfl) (fun _ _ _ h => h) (Or.inl ⟨by rfl, ?_⟩) (by assumption) ?_
  rotate_left
  · (intro w hSw; clear hSw; go_simp; (try with_reducible rfl))
  simp only [Act.put, List.setIfInBounds_toArray, List.set_cons_zero, List.set_cons_succ]
  refine held_take (i := 6) (d := 45) (oi := _) (v := ?_) rfl rfl (by kernel_rfl) (by kernel_rfl) (by kernel_rfl) (fun _ _ _ h => h) (Or.inl ⟨by rfl, ?_⟩) (by assumption) ?_
  rotate_left
  · (intro w hSw; clear hSw; go_simp; (try with_reducible rfl))
  simp only [Act.put, List.setIfInBounds_toArray, List.set_cons_zero, List.set_cons_succ]
  refine held_take (i := 7) (d := 46) (oi := _) (v := ?_) rfl rfl (by kernel_rfl) (by kernel_rfl) (by kernel_rfl) (fun _ _ _ h => h) (Or.inl ⟨by rfl, ?_⟩) (by assumption) ?_
  rotate_left
  · (intro w hSw; clear hSw; go_simp; (try with_reducible rfl))
  simp only [Act.put, List.setIfInBounds_toArray, List.set_cons_zero, List.set_cons_succ]
  refine held_take (i := 8) (d := 47) (oi := _) (v := ?_) rfl rfl (by kernel_rfl) (by kernel_rfl) (by kernel_rfl) (fun _ _ _ h => h) (Or.inl ⟨by rfl, ?_⟩) (by assumption) ?_
  rotate_left
  · (intro w hSw; clear hSw; go_simp; (try with_reducible rfl))
  simp only [Act.put, List.setIfInBounds_toArray, List.set_cons_zero, List.set_cons_succ]
  refine held_take (i := 10) (d := 49) (oi := _) (v := ?_) rfl rfl (by kernel_rfl) (by kernel_rfl) (by kernel_rfl) (fun _ _ _ h => h) (Or.inl ⟨by rfl, ?_⟩) (by assumption) ?_
  rotate_left
  · (intro w hSw; clear hSw; go_simp; (try with_reducible rfl))
  simp only [Act.put, List.setIfInBounds_toArray, List.set_cons_zero, List.set_cons_succ]
  refine held_take (i := 9) (d := 48) (oi := _) (v := ?_) rfl rfl (by kernel_rfl) (by kernel_rfl) (by kernel_rfl) (fun _ _ _ h => h) (Or.inl ⟨by rfl, ?_⟩) (by assumption) ?_
  rotate_left
  · (intro w hSw; have hld := HCK.out w (B0.out.trans (hSw.mono B0.out.size)); clear hSw; go_simp; (try with_reducible rfl))
  simp only [Act.put, List.setIfInBounds_toArray, List.set_cons_zero, List.set_cons_succ]
  refine wpAnyH_ready (rs := [3]) (by kernel_rfl) (by simp) ?_
  refine AllReadyH.cons rfl (fun K hK => ?_) AllReadyH.nil
  go_simp
  go_wp2_with (go_at_call 18; (with_reducible refine (HFAR.out _ B0.out).mono ?_); rintro e x1 ⟨rfl, hb⟩)
  refine hK.out _ _ hb (fun _ => ?_)
  have B1 := Lib.hid (B0.out.trans (hb.mono B0.out.size))
  refine wpAnyH_more (S' := fun w' => Below x1.heap.size x1 w') (fun w' h => hb.trans (h.mono hb.size)) _ _ _ _ ?_
  have hH1 : Below x1.heap.size x1 x1 := Below.refl _ _
  clear hK K hH0 hb B0
  refine wpAnyH_ready (rs := [11]) (by kernel_rfl) (by simp) ?_
  refine AllReadyH.cons rfl (fun K hK => ?_) AllReadyH.nil
  go_simp
  go_wp2_with (go_at_call 19; (with_reducible refine (HRF.out _ B1.out).mono ?_); rintro e x' ⟨rfl, rfl⟩)
  refine hK.out _ _ hH1 (fun _ => ?_)
  clear hK K
  refine held_take (i := 12) (d := 51) (oi := _) (v := ?_) rfl rfl (by kernel_rfl) (by kernel_rfl) (by kernel_rfl) (fun _ _ _ h => h) (Or.inl ⟨by rfl, ?_⟩) (by assumption) ?_
  rotate_left
  · (intro w hSw; clear hSw; go_simp; (try with_reducible rfl))
  simp only [Act.put, List.setIfInBounds_toArray, List.set_cons_zero, List.set_cons_succ]
  refine held_take (i := 13) (d := 52) (oi := _) (v := ?_) rfl rfl (by kernel_rfl) (by kernel_rfl) (by kernel_rfl) (fun _ _ _ h => h) (Or.inl ⟨by rfl, ?_⟩) (by assumption) ?_
  rotate_left
  · (intro w hSw; clear hSw; go_simp; (try with_reducible rfl))
  simp only [Act.put, List.setIfInBounds_toArray, List.set_cons_zero, List.set_cons_succ]
  refine held_take (i := 14) (d := 53) (oi := _) (v := ?_) rfl rfl (by kernel_rfl) (by kernel_rfl) (by kernel_rfl) (fun _ _ _ h => h) (Or.inl ⟨by rfl, ?_⟩) (by assumption) ?_
  rotate_left
  · (intro w hSw; clear hSw; go_simp; (try with_reducible rfl))
  simp only [Act.put, List.setIfInBounds_toArray, List.set_cons_zero, List.set_cons_succ]
  refine wpAnyH_ready (rs := [15]) (by kernel_rfl) (by simp) ?_
  refine AllReadyH.cons rfl (fun K hK => ?_) AllReadyH.nil
  go_simp
  go_wp2_with (go_at_call 14; (with_reducible refine (HX1.out _ B1.out).mono ?_); rintro e x2 ⟨rfl, hb⟩)
  refine hK.out _ _ hb (fun _ => ?_)
  have B2 := Lib.hid (B1.out.trans (hb.mono B1.out.size))
  refine wpAnyH_more (S' := fun w' => Below x2.heap.size x2 w') (fun w' h => hb.trans (h.mono hb.size)) _ _ _ _ ?_
  have hH2 : Below x2.heap.size x2 x2 := Below.refl _ _
  clear hK K hH1 hb B1
  refine held_take (i := 16) (d := 55) (oi := _) (v := ?_) rfl rfl (by kernel_rfl) (by kernel_rfl) (by kernel_rfl) (fun _ _ _ h => h) (Or.inl ⟨by rfl, ?_⟩) (by assumption) ?_
  rotate_left
  · (intro w hSw; clear hSw; go_simp; (try with_reducible rfl))
  simp only [Act.put, List.setIfInBounds_toArray, List.set_cons_zero, List.set_cons_succ]
  refine held_take (i := 17) (d := 56) (oi := _) (v := ?_) rfl rfl (by kernel_rfl) (by kernel_rfl) (by kernel_rfl) (fun _ _ _ h => h) (Or.inl ⟨by rfl, ?_⟩) (by assumption) ?_
  rotate_left
  · (intro w hSw; clear hSw; go_simp; (try with_reducible rfl))
  simp only [Act.put, List.setIfInBounds_toArray, List.set_cons_zero, List.set_cons_succ]
  refine held_take (i := 18) (d := 57) (oi := _) (v := ?_) rfl rfl (by kernel_rfl) (by kernel_rfl) (by kernel_rfl) (fun _ _ _ h => h) (Or.inl ⟨by rfl, ?_⟩) (by assumption) ?_
  rotate_left
  · (intro w hSw; clear hSw; go_simp; (try with_reducible rfl))
  simp only [Act.put, List.setIfInBounds_toArray, List.set_cons_zero, List.set_cons_succ]
  refine held_take (i := 19) (d := 58) (oi := _) (v := ?_) rfl rfl (by kernel_rfl) (by kernel_rfl) (by kernel_rfl) (fun _ _ _ h => h) (Or.inl ⟨by rfl, ?_⟩) (by assumption) ?_
  rotate_left
  · (intro w hSw; clear hSw; go_simp; (try with_reducible rfl))
  simp only [Act.put, List.setIfInBounds_toArray, List.set_cons_zero, List.set_cons_succ]
  refine held_take (i := 20) (d := 59) (oi := _) (v := ?_) rfl rfl (by kernel_rfl) (by kernel_rfl) (by kernel_rfl) (fun _ _ _ h => h) (Or.inl ⟨by rfl, ?_⟩) (by assumption) ?_
  rotate_left
  · (intro w hSw; clear hSw; go_simp; (try with_reducible rfl))
  simp only [Act.put, List.setIfInBounds_toArray, List.set_cons_zero, List.set_cons_succ]
  refine wpAnyH_ready (rs := [21]) (by kernel_rfl) (by simp) ?_
  refine AllReadyH.cons rfl (fun K hK => ?_) AllReadyH.nil
  go_simp
  go_wp2_with (go_at_call 18; (with_reducible refine (HX3.out _ B2.out).mono ?_); rintro e x3 ⟨rfl, hb⟩)
  refine hK.out _ _ hb (fun _ => ?_)
  have B3 := Lib.hid (B2.out.trans (hb.mono B2.out.size))
  refine wpAnyH_more (S' := fun w' => Below x3.heap.size x3 w') (fun w' h => hb.trans (h.mono hb.size)) _ _ _ _ ?_
  have hH3 : Below x3.heap.size x3 x3 := Below.refl _ _
  clear hK K hH2 hb B2
  refine held_take (i := 22) (d := 61) (oi := _) (v := ?_) rfl rfl (by kernel_rfl) (by kernel_rfl) (by kernel_rfl) (fun _ _ _ h => h) (Or.inl ⟨by rfl, ?_⟩) (by assumption) ?_
  rotate_left
  · (intro w hSw; clear hSw; go_simp; (try with_reducible rfl))
  simp only [Act.put, List.setIfInBounds_toArray, List.set_cons_zero, List.set_cons_succ]
  refine held_take (i := 23) (d := 62) (oi := _) (v := ?_) rfl rfl (by kernel_rfl) (by kernel_rfl) (by kernel_rfl) (fun _ _ _ h => h) (Or.inl ⟨by rfl, ?_⟩) (by assumption) ?_
  rotate_left
  · (intro w hSw; clear hSw; go_simp; (try with_reducible rfl))
  simp only [Act.put, List.setIfInBounds_toArray, List.set_cons_zero, List.set_cons_succ]
  refine held_take (i := 24) (d := 63) (oi := _) (v := ?_) rfl rfl (by kernel_rfl) (by kernel_rfl) (by kernel_rfl) (fun _ _ _ h => h) (Or.inl ⟨by rfl, ?_⟩) (by assumption) ?_
  rotate_left
  · (intro w hSw; clear hSw; go_simp; (try with_reducible rfl))
  simp only [Act.put, List.setIfInBounds_toArray, List.set_cons_zero, List.set_cons_succ]
  refine held_take (i := 25) (d := 64) (oi := _) (v := ?_) rfl rfl (by kernel_rfl) (by kernel_rfl) (by kernel_rfl) (fun _ _ _ h => h) (Or.inl ⟨by rfl, ?_⟩) (by assumption) ?_
  rotate_left
  · (intro w hSw; clear hSw; go_simp; (try with_reducible rfl))
  simp only [Act.put, List.setIfInBounds_toArray, List.set_cons_zero, List.set_cons_succ]
  refine wpAnyH_ready (rs := [26]) (by kernel_rfl) (by simp) ?_
  refine AllReadyH.cons rfl (fun K hK => ?_) AllReadyH.nil
  go_simp
  go_wp2_with (go_at_call 14; (with_reducible refine (HN1.out _ B3.out).mono ?_); rintro e x4 ⟨rfl, hb⟩)
  refine hK.out _ _ hb (fun _ => ?_)
  have B4 := Lib.hid (B3.out.trans (hb.mono B3.out.size))
  refine wpAnyH_more (S' := fun w' => Below x4.heap.size x4 w') (fun w' h => hb.trans (h.mono hb.size)) _ _ _ _ ?_
  have hH4 : Below x4.heap.size x4 x4 := Below.refl _ _
  clear hK K hH3 hb B3
  refine held_take (i := 27) (d := 66) (oi := _) (v := ?_) rfl rfl (by kernel_rfl) (by kernel_rfl) (by kernel_rfl) (fun _ _ _ h => h) (Or.inl ⟨by rfl, ?_⟩) (by assumption) ?_
  rotate_left
  · (intro w hSw; clear hSw; go_simp; (try with_reducible rfl))
  simp only [Act.put, List.setIfInBounds_toArray, List.set_cons_zero, List.set_cons_succ]
  refine held_take (i := 28) (d := 67) (oi := _) (v := ?_) rfl rfl (by kernel_rfl) (by kernel_rfl) (by kernel_rfl) (fun _ _ _ h => h) (Or.inl ⟨by rfl, ?_⟩) (by assumption) ?_
  rotate_left
  · (intro w hSw; clear hSw; go_simp; (try with_reducible rfl))
  simp only [Act.put, List.setIfInBounds_toArray, List.set_cons_zero, List.set_cons_succ]
  refine held_take (i := 29) (d := 68) (oi := _) (v := ?_) rfl rfl (by kernel_rfl) (by kernel_rfl) (by kernel_rfl) (fun _ _ _ h => h) (Or.inl ⟨by rfl, ?_⟩) (by assumption) ?_
  rotate_left
  · (intro w hSw; clear hSw; go_simp; (try with_reducible rfl))
  simp only [Act.put, List.setIfInBounds_toArray, List.set_cons_zero, List.set_cons_succ]
  refine held_take (i := 30) (d := 69) (oi := _) (v := ?_) rfl rfl (by kernel_rfl) (by kernel_rfl) (by kernel_rfl) (fun _ _ _ h => h) (Or.inl ⟨by rfl, ?_⟩) (by assumption) ?_
  rotate_left
  · (intro w hSw; clear hSw; go_simp; (try with_reducible rfl))
  simp only [Act.put, List.setIfInBounds_toArray, List.set_cons_zero, List.set_cons_succ]
  refine wpAnyH_ready (rs := [31]) (by kernel_rfl) (by simp) ?_
  refine AllReadyH.cons rfl (fun K hK => ?_) AllReadyH.nil
  go_simp
  go_wp2_with (go_at_call 16; (with_reducible refine (HN2.out _ B4.out).mono ?_); rintro e x5 ⟨rfl, hb⟩)
  refine hK.out _ _ hb (fun _ => ?_)
  have B5 := Lib.hid (B4.out.trans (hb.mono B4.out.size))
  refine wpAnyH_more (S' := fun w' => Below x5.heap.size x5 w') (fun w' h => hb.trans (h.mono hb.size)) _ _ _ _ ?_
  have hH5 : Below x5.heap.size x5 x5 := Below.refl _ _
  clear hK K hH4 hb B4
  refine held_take (i := 32) (d := 71) (oi := _) (v := ?_) rfl rfl (by kernel_rfl) (by kernel_rfl) (by kernel_rfl) (fun _ _ _ h => h) (Or.inl ⟨by rfl, ?_⟩) (by assumption) ?_
  rotate_left
  · (intro w hSw; clear hSw; go_simp; (try with_reducible rfl))
  simp only [Act.put, List.setIfInBounds_toArray, List.set_cons_zero, List.set_cons_succ]
  refine held_take (i := 33) (d := 72) (oi := _) (v := ?_) rfl rfl (by kernel_rfl) (by kernel_rfl) (by kernel_rfl) (fun _ _ _ h => h) (Or.inl ⟨by rfl, ?_⟩) (by assumption) ?_
  rotate_left
  · (intro w hSw; clear hSw; go_simp; (try with_reducible rfl))
  simp only [Act.put, List.setIfInBounds_toArray, List.set_cons_zero, List.set_cons_succ]
  refine held_take (i := 34) (d := 73) (oi := _) (v := ?_) rfl rfl (by kernel_rfl) (by kernel_rfl) (by kernel_rfl) (fun _ _ _ h => h) (Or.inl ⟨by rfl, ?_⟩) (by assumption) ?_
  rotate_left
  · (intro w hSw; clear hSw; go_simp; (try with_reducible rfl))
  simp only [Act.put, List.setIfInBounds_toArray, List.set_cons_zero, List.set_cons_succ]
  refine held_take (i := 35) (d := 74) (oi := _) (v := ?_) rfl rfl (by kernel_rfl) (by kernel_rfl) (by kernel_rfl) (fun _ _ _ h => h) (Or.inl ⟨by rfl, ?_⟩) (by assumption) ?_
  rotate_left
  · (intro w hSw; clear hSw; go_simp; (try with_reducible rfl))
  simp only [Act.put, List.setIfInBounds_toArray, List.set_cons_zero, List.set_cons_succ]
  refine held_take (i := 36) (d := 75) (oi := _) (v := ?_) rfl rfl (by kernel_rfl) (by kernel_rfl) (by kernel_rfl) (fun _ _ _ h => h) (Or.inl ⟨by rfl, ?_⟩) (by assumption) ?_
  rotate_left
  · (intro w hSw; clear hSw; go_simp; (try with_reducible rfl))
  simp only [Act.put, List.setIfInBounds_toArray, List.set_cons_zero, List.set_cons_succ]
  refine wpAnyH_ready (rs := [37]) (by kernel_rfl) (by simp) ?_
  refine AllReadyH.cons rfl (fun K hK => ?_) AllReadyH.nil
  go_simp
  go_wp2_with (go_at_call 18; (with_reducible refine (HN3.out _ B5.out).mono ?_); rintro e x6 ⟨rfl, hb⟩)
  refine hK.out _ _ hb (fun _ => ?_)
  have B6 := Lib.hid (B5.out.trans (hb.mono B5.out.size))
  refine wpAnyH_more (S' := fun w' => Below x6.heap.size x6 w') (fun w' h => hb.trans (h.mono hb.size)) _ _ _ _ ?_
  have hH6 : Below x6.heap.size x6 x6 := Below.refl _ _
  clear hK K hH5 hb B5
  refine held_take (i := 38) (d := 77) (oi := _) (v := ?_) rfl rfl (by kernel_rfl) (by kernel_rfl) (by kernel_rfl) (fun _ _ _ h => h) (Or.inl ⟨by rfl, ?_⟩) (by assumption) ?_
  rotate_left
  · (intro w hSw; clear hSw; go_simp; (try with_reducible rfl))
  simp only [Act.put, List.setIfInBounds_toArray, List.set_cons_zero, List.set_cons_succ]
  refine held_take (i := 39) (d := 78) (oi := _) (v := ?_) rfl rfl (by kernel_rfl) (by kernel_rfl) (by kernel_rfl) (fun _ _ _ h => h) (Or.inl ⟨by rfl, ?_⟩) (by assumption) ?_
  rotate_left
  · (intro w hSw; clear hSw; go_simp; (try with_reducible rfl))
  simp only [Act.put, List.setIfInBounds_toArray, List.set_cons_zero, List.set_cons_succ]
  refine held_take (i := 40) (d := 6) (oi := _) (v := ?_) rfl rfl (by kernel_rfl) (by kernel_rfl) (by kernel_rfl) (fun _ _ _ h => h) (Or.inl ⟨by rfl, ?_⟩) (by assumption) ?_
  rotate_left
  · (intro w hSw; clear hSw; go_simp; (try with_reducible rfl))
  simp only [Act.put, List.setIfInBounds_toArray, List.set_cons_zero, List.set_cons_succ]
  refine wpAnyH_done (by kernel_rfl) ?_ _
  go_wp2
  go_ret
  exact ⟨rfl, HB.out.trans ((HB6.out.trans ((HB7.out.trans (B6.out.mono HB7.out.size)).mono HB6.out.size)).mono HB.out.size)⟩
theorem walk (w : World) (xs : List TxV) (a0 : Option Addr) (cap0 : Nat) (hz0 : xs.length ≤ 6000000000000) (hx0 : ∀ x ∈ xs, x.text.length ≤ maxLen) (hts : Ts w a0 xs) (n c : UInt8) :
    Calls Try.prog 4 #[.slice a0 xs.length cap0, .int .u8 (n.toNat : Int), .int .u8 (c.toNat : Int)] w fun e w' => e = .returned (.bool true) ∧ Below w.heap.size w w' := by
  by_cases hall : xs.length ≤ 12 ∧ (∀ x ∈ xs, x.text.length ≤ 40)
  · exact small w xs a0 cap0 hts hall.1 hall.2 n c
  · have HALL := Lib.hid hall
    have HX := Lib.hid hx0
    clear hall hx0
    go_enter Try.func4, Try.ntmps4
    go_wp2_with fail
    refine (Shf.awake_any _).mono ?_
    rintro e' w1 ⟨rfl, hb2⟩
    have ts1 := hts.keep hb2
    go_wp2_with fail
    refine (ltexts_any xs a0 cap0 w1 ts1 hz0 HX.out).mono ?_
    rintro e' w2 ⟨hb3, hcase⟩
    have B2 := hb2.trans (hb3.mono hb2.size)
    rcases hcase with ⟨_, rfl⟩ | ⟨hok, aL, cL, rfl, _⟩
    · go_wp2
      go_ret
      exact ⟨rfl, B2⟩
    · have h12 : ¬ xs.length ≤ 12 := fun h => HALL.out ⟨h, hok⟩
      rw [decide_eq_false h12]
      clear HALL hok
      go_wp2
      go_ret
      exact ⟨rfl, B2⟩
end Go.Proofs.Ytgdpelpepgpegaa.shiftsFar
