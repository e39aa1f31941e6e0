/- The walk of ShiftsTell. -/
import Derived.Test.YtgdpelpepgpegaaHc
namespace Go.Proofs.Ytgdpelpepgpegaa.shiftsTell
open Go.Proofs.Ytgdpelpepgpegaa.Tri Go.Proofs.Ytgdpelpepgpegaa.Cwl Go.Proofs.Ytgdpelpepgpegaa.Bck Go.Proofs.Ytgdpelpepgpegaa.Shf Go.Proofs.Ytgdpelpepgpegaa.Lit Go.Proofs.Ytgdpelpepgpegaa.Reg Go.RowKit Go.Maps
set_option maxRecDepth 100000
set_option linter.unusedVariables false

set_option maxHeartbeats 8000000 in
theorem small (w : World) (xs : List TxV) (a0 : Option Addr) (cap0 : Nat) (hts : Ts w a0 xs) (h0 : xs.length ≤ 12) (hx : ∀ x ∈ xs, x.text.length ≤ 40) (n : Int) (hwn : (Lit.int .i64 n).wf = true) :
    Calls Try.prog 3 #[.slice a0 xs.length cap0, .int .i64 n] w fun e w' => e = .returned (.bool true) ∧ Below w.heap.size w w' := by
  have hx' : ∀ x ∈ xs, x.text.length ≤ maxLen := fun x h => Nat.le_trans (hx x h) (by unfold maxLen; omega)
  have htot := Spa.few_tot h0 hx
  have HX := Lib.hid hx
  have HX' := Lib.hid hx'
  have HAW := Lib.hid (Shf.awake_any w)
  clear hx hx'
  go_enter Try.func3, Try.ntmps3
  go_wp2_with fail
  refine HAW.out.mono ?_
  rintro e' w1 ⟨rfl, hb2⟩
  have ts1 := hts.keep hb2
  go_wp2_with fail
  refine (ltexts_any xs a0 cap0 w1 ts1 (by omega) HX'.out).mono ?_
  rintro e' w2 ⟨hb3, hcase⟩
  rcases hcase with ⟨hbad, _⟩ | ⟨_, aL, cL, rfl, hsL⟩
  · exact absurd HX.out hbad
  rw [decide_eq_true h0]
  have HTS := Lib.hid (ts1.keep hb3)
  have HB := Lib.hid (hb2.trans (hb3.mono hb2.size))
  have hszw := HB.out.size
  obtain ⟨l, hl⟩ : ∃ l, l = xs.map TxV.text := ⟨_, rfl⟩
  have HBU : Hid (∀ X, Below w2.heap.size w2 X → Calls Try.prog 11 #[.slice a0 xs.length cap0] X (GivesBk X l)) := Lib.hid fun X hX => by
    have := bbuild_any X xs a0 cap0 (HTS.out.keep hX) (by omega) (fun x h => Nat.le_trans (HX.out x h) (by omega))
    rwa [← hl] at this
  have HLN : Hid (xs.length = l.length) := Lib.hid (by rw [hl]; simp)
  have HLL := Lib.hid hl
  have HL40 : Hid (∀ x ∈ l, x.length ≤ 40) := Lib.hid fun x h => by
    rw [hl] at h
    obtain ⟨y, hy, rfl⟩ := List.mem_map.1 h
    exact HX.out y hy
  rw [← hl] at hsL htot
  have HSL := Lib.hid hsL
  have HTD : Hid (∀ X, Below w2.heap.size w2 X → Calls Try.prog 12 #[.slice aL xs.length cL] X (GivesSs X (turned l))) := Lib.hid fun X hX => by
    have := rturned_any X l aL cL (HSL.out.keep hX) (by rw [← HLN.out]; omega) (fun x h => Nat.le_trans (HL40.out x h) (by omega))
    rwa [← HLN.out] at this
  have HT40 : Hid (∀ x ∈ turned l, x.length ≤ 40) := Lib.hid fun x h => by
    have := HL40.out _ ((mem_turned l x).1 h).2
    rwa [List.length_reverse] at this
  have htl : (turned l).length ≤ 12 := by have := turned_len l; have := HLN.out; omega
  have htt := turned_tot l
  clear HAW hb2 hb3 ts1 hsL hts hl HX'
  go_wp2_with fail
  refine (HBU.out w2 (Below.refl _ _)).mono ?_
  rintro e w3 ⟨x, rfl, hk, hb3⟩
  have HB3 := Lib.hid hb3
  have HK := Lib.hid hk
  clear hb3 hk
  go_wp2_with fail
  refine (sbuild_any w3 x l HK.out (by omega)).mono ?_
  rintro e w4 ⟨sp, rfl, hsh, hb4⟩
  have HB4 := Lib.hid (HB3.out.trans (hb4.mono HB3.out.size))
  have HK4 := Lib.hid (HK.out.keep hb4)
  have HS4 := Lib.hid hsh
  clear hb4 hsh HK
  go_wp2_with fail
  refine (HTD.out w4 HB4.out).mono ?_
  rintro e w5 ⟨aT, cT, rfl, hsT, hb5⟩
  have HB5 := Lib.hid (HB4.out.trans (hb5.mono HB4.out.size))
  have HS5 := Lib.hid (HS4.out.keep hb5)
  have HST := Lib.hid hsT
  clear hb5 hsT HK4 HS4
  go_wp2_with fail
  refine (rpaths_any w5 (turned l) aT cT HST.out (by omega) (by omega)).mono ?_
  rintro e w6 ⟨aP, cP, rfl, hsP, hb6⟩
  have HB6 := Lib.hid (HB5.out.trans (hb6.mono HB5.out.size))
  have HS6 := Lib.hid (HS5.out.keep hb6)
  have HST6 := Lib.hid (HST.out.keep hb6)
  have HSP6 := Lib.hid hsP
  clear hb6 hsP HS5 HST
  have hps : (paths (turned l)).length ≤ 481 := by have := paths_len (turned l); omega
  have hsh : ∀ z ∈ paths (turned l), z.length ≤ 40 := fun z hz => path_short0 HT40.out hz
  have hq0 : ∀ z ∈ turned l, 0 < z.length := fun z h => turned_ne h
  have HF1 := Lib.hid (fun i h => @fstN_at l i h)
  have HF2 := Lib.hid (fun i h => @sndN_at l i h)
  have HF3 := Lib.hid (fun i h => @farN_at l i h)
  have HO1 := Lib.hid (fun n h => @fstN_off l n h)
  have HO2 := Lib.hid (fun n h => @sndN_off l n h)
  have HO3 := Lib.hid (fun n h => @farN_off l n h)
  clear htt
  generalize hp : paths (turned l) = p at *
  generalize hq : turned l = q at *
  have HPP := Lib.hid hp
  have HQ := Lib.hid hq
  have HSH := Lib.hid hsh
  have HQ0 := Lib.hid hq0
  clear hp hq hsh hq0
  have HWN := Lib.hid hwn
  clear hwn
  go_wp2
  go_loopw [11] (fun v wr => ∃ k : Nat, k ≤ p.length ∧ v = .int .i64 (k : Int) ∧ Below w6.heap.size w6 wr) (fun v _ => p.length - (intOf v).toNat)
  case atStart => exact ⟨0, Nat.zero_le _, rfl, Below.refl _ _⟩
  case round =>
    obtain ⟨k, hk, rfl, hbel⟩ := hrel
    by_cases hlt : k < p.length
    · have hkl : (k : Int) < (p.length : Int) := by omega
      have h40 := HSH.out _ (List.getElem_mem hlt)
      obtain ⟨bP, oP, rfl, hbP, hcP⟩ := HSP6.out (by omega)
      have HCK : Hid (∀ X, Below w6.heap.size w6 X → X.cell? ⟨bP, oP + k, none⟩ = some (.string (str p[k]))) := Lib.hid fun X hX => (hX.cell (p := ⟨bP, oP + k, none⟩) hbP).trans (hcP k hlt)
      have HC1 : Hid (∀ X, Below w6.heap.size w6 X → Calls Try.prog 14 #[.pointer sp, .int .i64 (k : Int)] X fun e w' => e = .returned (.int .i64 (firstOf q p p[k] : Int)) ∧ Below X.heap.size X w') := Lib.hid fun X hX => by
        have := sfirst_any X sp l (HS6.out.keep hX) (k : Int) (wf_nat (by omega) (by omega))
        rwa [HF1.out k hlt] at this
      have HC2 : Hid (∀ X, Below w6.heap.size w6 X → Calls Try.prog 16 #[.pointer sp, .int .i64 (k : Int)] X fun e w' => e = .returned (.int .i64 (secondOf q p[k] : Int)) ∧ Below X.heap.size X w') := Lib.hid fun X hX => by
        have := ssecond_any X sp l (HS6.out.keep hX) (k : Int) (wf_nat (by omega) (by omega))
        rwa [HF2.out k hlt] at this
      have HR1 := Lib.hid (fun X (hX : Below w6.heap.size w6 X) => rfirst_any X q p aT (some ⟨bP, oP, none⟩) cT cP (HST6.out.keep hX) (HSP6.out.keep hX) (by omega) (by omega) HQ0.out (fun z hz => Nat.le_trans (HSH.out z hz) (by omega)) p[k] (by omega))
      have HR2 := Lib.hid (fun X (hX : Below w6.heap.size w6 X) => rsecond_any X q aT cT (HST6.out.keep hX) (by omega) HQ0.out (fun z hz => Nat.le_trans (HT40.out z hz) (by omega)) p[k] (by omega))
      have HBE := Lib.hid hbel
      clear hcP hbel
      generalize firstOf q p p[k] = fv at *
      generalize secondOf q p[k] = sv at *
      generalize p[k] = z at *
      have hff : ((fv : Int) != fv) = false := by simp
      have hss : ((sv : Int) != sv) = false := by simp
      go_wp2_with fail
      refine wp_region_held_drew (S := fun w' => Below wr.drew.heap.size wr.drew w') (by kernel_rfl) (Below.refl _ _) (fun hH0 => ?_)
      have B0 := Lib.hid (below_drews HBE.out 1)
      change Hid (Below _ _ wr.drew) at B0
      generalize wr.drew = x0 at *
      refine held_take (i := 0) (d := 35) (oi := _) (v := ?_) rfl rfl (by kernel_rfl) (by kernel_rfl) (by kernel_rfl) (fun _ _ _ h => h) (Or.inl ⟨by rfl, ?_⟩) (by assumption) ?_
      rotate_left
      · (intro w hSw; clear hSw; go_simp; (try with_reducible rfl))
      simp only [Act.put, List.setIfInBounds_toArray, List.set_cons_zero, List.set_cons_succ]
      refine held_take (i := 1) (d := 36) (oi := _) (v := ?_) rfl rfl (by kernel_rfl) (by kernel_rfl) (by kernel_rfl) (fun _ _ _ h => h) (Or.inl ⟨by rfl, ?_⟩) (by assumption) ?_
      rotate_left
      · (intro w hSw; clear hSw; go_simp; (try with_reducible rfl))
      simp only [Act.put, List.setIfInBounds_toArray, List.set_cons_zero, List.set_cons_succ]
      refine held_take (i := 3) (d := 38) (oi := _) (v := ?_) rfl rfl (by kernel_rfl) (by kernel_rfl) (by kernel_rfl) (fun _ _ _ h => h) (Or.inl ⟨by rfl, ?_⟩) (by assumption) ?_
      rotate_left
      · (intro w hSw; clear hSw; go_simp; (try with_reducible rfl))
      simp only [Act.put, List.setIfInBounds_toArray, List.set_cons_zero, List.set_cons_succ]
      refine held_take (i := 4) (d := 39) (oi := _) (v := ?_) rfl rfl (by kernel_rfl) (by kernel_rfl) (by kernel_rfl) (fun _ _ _ h => h) (Or.inl ⟨by rfl, ?_⟩) (by assumption) ?_
      rotate_left
      · (intro w hSw; clear hSw; go_simp; (try with_reducible rfl))
      simp only [Act.put, List.setIfInBounds_toArray, List.set_cons_zero, List.set_cons_succ]
      refine held_take (i := 5) (d := 40) (oi := _) (v := ?_) rfl rfl (by kernel_rfl) (by kernel_rfl) (by kernel_rfl) (fun _ _ _ h => h) (Or.inl ⟨by rfl, ?_⟩) (by assumption) ?_
      rotate_left
      · (intro w hSw; clear hSw; go_simp; (try with_reducible rfl))
      simp only [Act.put, List.setIfInBounds_toArray, List.set_cons_zero, List.set_cons_succ]
      refine held_take (i := 6) (d := 41) (oi := _) (v := ?_) rfl rfl (by kernel_rfl) (by kernel_rfl) (by kernel_rfl) (fun _ _ _ h => h) (Or.inl ⟨by rfl, ?_⟩) (by assumption) ?_
      rotate_left
      · (intro w hSw; clear hSw; go_simp; (try with_reducible rfl))
      simp only [Act.put, List.setIfInBounds_toArray, List.set_cons_zero, List.set_cons_succ]
      refine held_take (i := 7) (d := 42) (oi := _) (v := ?_) rfl rfl (by kernel_rfl) (by kernel_rfl) (by kernel_rfl) (fun _ _ _ h => h) (Or.inl ⟨by rfl, ?_⟩) (by assumption) ?_
      rotate_left
      · (intro w hSw; clear hSw; go_simp; (try with_reducible rfl))
      simp only [Act.put, List.setIfInBounds_toArray, List.set_cons_zero, List.set_cons_succ]
      refine held_take (i := 8) (d := 43) (oi := _) (v := ?_) rfl rfl (by kernel_rfl) (by kernel_rfl) (by kernel_rfl) (fun _ _ _ h => h) (Or.inl ⟨by rfl, ?_⟩) (by assumption) ?_
      rotate_left
      · (intro w hSw; have hld := HCK.out w (B0.out.trans (hSw.mono B0.out.size)); clear hSw; go_simp; (try with_reducible rfl))
      simp only [Act.put, List.setIfInBounds_toArray, List.set_cons_zero, List.set_cons_succ]
      refine wpAnyH_ready (rs := [2]) (by kernel_rfl) (by simp) ?_
      refine AllReadyH.cons rfl (fun K hK => ?_) AllReadyH.nil
      go_simp
      go_wp2_with (go_at_call 14; (with_reducible refine (HC1.out _ B0.out).mono ?_); rintro e x1 ⟨rfl, hb⟩)
      refine hK.out _ _ hb (fun _ => ?_)
      have B1 := Lib.hid (B0.out.trans (hb.mono B0.out.size))
      refine wpAnyH_more (S' := fun w' => Below x1.heap.size x1 w') (fun w' h => hb.trans (h.mono hb.size)) _ _ _ _ ?_
      have hH1 : Below x1.heap.size x1 x1 := Below.refl _ _
      clear hK K hH0 hb B0
      refine wpAnyH_ready (rs := [9]) (by kernel_rfl) (by simp) ?_
      refine AllReadyH.cons rfl (fun K hK => ?_) AllReadyH.nil
      go_simp
      go_wp2_with (go_at_call 15; (with_reducible refine (HR1.out _ B1.out).mono ?_); rintro e x' ⟨rfl, rfl⟩)
      refine hK.out _ _ hH1 (fun _ => ?_)
      clear hK K
      refine held_take (i := 10) (d := 45) (oi := _) (v := ?_) rfl rfl (by kernel_rfl) (by kernel_rfl) (by kernel_rfl) (fun _ _ _ h => h) (Or.inl ⟨by rfl, ?_⟩) (by assumption) ?_
      rotate_left
      · (intro w hSw; clear hSw; go_simp; (try with_reducible rfl))
      simp only [Act.put, List.setIfInBounds_toArray, List.set_cons_zero, List.set_cons_succ]
      refine held_take (i := 11) (d := 46) (oi := _) (v := ?_) rfl rfl (by kernel_rfl) (by kernel_rfl) (by kernel_rfl) (fun _ _ _ h => h) (Or.inl ⟨by rfl, ?_⟩) (by assumption) ?_
      rotate_left
      · (intro w hSw; clear hSw; go_simp; (try with_reducible rfl))
      simp only [Act.put, List.setIfInBounds_toArray, List.set_cons_zero, List.set_cons_succ]
      refine held_take (i := 12) (d := 47) (oi := _) (v := ?_) rfl rfl (by kernel_rfl) (by kernel_rfl) (by kernel_rfl) (fun _ _ _ h => h) (Or.inl ⟨by rfl, ?_⟩) (by assumption) ?_
      rotate_left
      · (intro w hSw; clear hSw; go_simp; (try with_reducible rfl))
      simp only [Act.put, List.setIfInBounds_toArray, List.set_cons_zero, List.set_cons_succ]
      refine held_take (i := 13) (d := 48) (oi := _) (v := ?_) rfl rfl (by kernel_rfl) (by kernel_rfl) (by kernel_rfl) (fun _ _ _ h => h) (Or.inl ⟨by rfl, ?_⟩) (by assumption) ?_
      rotate_left
      · (intro w hSw; clear hSw; go_simp; (try with_reducible rfl))
      simp only [Act.put, List.setIfInBounds_toArray, List.set_cons_zero, List.set_cons_succ]
      refine held_take (i := 15) (d := 50) (oi := _) (v := ?_) rfl rfl (by kernel_rfl) (by kernel_rfl) (by kernel_rfl) (fun _ _ _ h => h) (Or.inl ⟨by rfl, ?_⟩) (by assumption) ?_
      rotate_left
      · (intro w hSw; clear hSw; go_simp; (try with_reducible rfl))
      simp only [Act.put, List.setIfInBounds_toArray, List.set_cons_zero, List.set_cons_succ]
      refine held_take (i := 16) (d := 51) (oi := _) (v := ?_) rfl rfl (by kernel_rfl) (by kernel_rfl) (by kernel_rfl) (fun _ _ _ h => h) (Or.inl ⟨by rfl, ?_⟩) (by assumption) ?_
      rotate_left
      · (intro w hSw; clear hSw; go_simp; (try with_reducible rfl))
      simp only [Act.put, List.setIfInBounds_toArray, List.set_cons_zero, List.set_cons_succ]
      refine held_take (i := 17) (d := 52) (oi := _) (v := ?_) rfl rfl (by kernel_rfl) (by kernel_rfl) (by kernel_rfl) (fun _ _ _ h => h) (Or.inl ⟨by rfl, ?_⟩) (by assumption) ?_
      rotate_left
      · (intro w hSw; clear hSw; go_simp; (try with_reducible rfl))
      simp only [Act.put, List.setIfInBounds_toArray, List.set_cons_zero, List.set_cons_succ]
      refine held_take (i := 18) (d := 53) (oi := _) (v := ?_) rfl rfl (by kernel_rfl) (by kernel_rfl) (by kernel_rfl) (fun _ _ _ h => h) (Or.inl ⟨by rfl, ?_⟩) (by assumption) ?_
      rotate_left
      · (intro w hSw; clear hSw; go_simp; (try with_reducible rfl))
      simp only [Act.put, List.setIfInBounds_toArray, List.set_cons_zero, List.set_cons_succ]
      refine held_take (i := 19) (d := 54) (oi := _) (v := ?_) rfl rfl (by kernel_rfl) (by kernel_rfl) (by kernel_rfl) (fun _ _ _ h => h) (Or.inl ⟨by rfl, ?_⟩) (by assumption) ?_
      rotate_left
      · (intro w hSw; have hld := HCK.out w (B1.out.trans (hSw.mono B1.out.size)); clear hSw; go_simp; (try with_reducible rfl))
      simp only [Act.put, List.setIfInBounds_toArray, List.set_cons_zero, List.set_cons_succ]
      refine wpAnyH_ready (rs := [14]) (by kernel_rfl) (by simp) ?_
      refine AllReadyH.cons rfl (fun K hK => ?_) AllReadyH.nil
      go_simp
      go_wp2_with (go_at_call 16; (with_reducible refine (HC2.out _ B1.out).mono ?_); rintro e x2 ⟨rfl, hb⟩)
      refine hK.out _ _ hb (fun _ => ?_)
      have B2 := Lib.hid (B1.out.trans (hb.mono B1.out.size))
      refine wpAnyH_more (S' := fun w' => Below x2.heap.size x2 w') (fun w' h => hb.trans (h.mono hb.size)) _ _ _ _ ?_
      have hH2 : Below x2.heap.size x2 x2 := Below.refl _ _
      clear hK K hH1 hb B1
      refine wpAnyH_ready (rs := [20]) (by kernel_rfl) (by simp) ?_
      refine AllReadyH.cons rfl (fun K hK => ?_) AllReadyH.nil
      go_simp
      go_wp2_with (go_at_call 17; (with_reducible refine (HR2.out _ B2.out).mono ?_); rintro e x' ⟨rfl, rfl⟩)
      refine hK.out _ _ hH2 (fun _ => ?_)
      clear hK K
      refine held_take (i := 21) (d := 56) (oi := _) (v := ?_) rfl rfl (by kernel_rfl) (by kernel_rfl) (by kernel_rfl) (fun _ _ _ h => h) (Or.inl ⟨by rfl, ?_⟩) (by assumption) ?_
      rotate_left
      · (intro w hSw; clear hSw; go_simp; (try with_reducible rfl))
      simp only [Act.put, List.setIfInBounds_toArray, List.set_cons_zero, List.set_cons_succ]
      refine held_take (i := 22) (d := 57) (oi := _) (v := ?_) rfl rfl (by kernel_rfl) (by kernel_rfl) (by kernel_rfl) (fun _ _ _ h => h) (Or.inl ⟨by rfl, ?_⟩) (by assumption) ?_
      rotate_left
      · (intro w hSw; clear hSw; go_simp; (try with_reducible rfl))
      simp only [Act.put, List.setIfInBounds_toArray, List.set_cons_zero, List.set_cons_succ]
      refine wpAnyH_done (by kernel_rfl) ?_ _
      go_wp2
      exact ⟨⟨k + 1, by omega, by go_num, B2.out⟩, by simp [intOf]; omega⟩
    · have hk2 : ¬ (k : Int) < (p.length : Int) := by omega
      have HBE := Lib.hid hbel
      clear hbel
      by_cases hin : 0 ≤ n ∧ n < p.length
      · obtain ⟨i1, i2⟩ := hin
        go_wp2
        go_ret
        exact ⟨rfl, HB.out.trans ((HB6.out.trans (HBE.out.mono HB6.out.size)).mono HB.out.size)⟩
      · have C1 : Hid (∀ X, Below w6.heap.size w6 X → Calls Try.prog 14 #[.pointer sp, .int .i64 n] X fun e w' => e = .returned (.int .i64 0) ∧ Below X.heap.size X w') := Lib.hid fun X hX => by
          have := sfirst_any X sp l (HS6.out.keep hX) n HWN.out
          rwa [HO1.out n hin] at this
        have C2 : Hid (∀ X, Below w6.heap.size w6 X → Calls Try.prog 16 #[.pointer sp, .int .i64 n] X fun e w' => e = .returned (.int .i64 0) ∧ Below X.heap.size X w') := Lib.hid fun X hX => by
          have := ssecond_any X sp l (HS6.out.keep hX) n HWN.out
          rwa [HO2.out n hin] at this
        have C3 : Hid (∀ X, Below w6.heap.size w6 X → Calls Try.prog 18 #[.pointer sp, .int .i64 n, .int .u8 97] X fun e w' => e = .returned (.int .i64 0) ∧ Below X.heap.size X w') := Lib.hid fun X hX => by
          have := sfar_any X sp l (HS6.out.keep hX) n HWN.out 97
          rwa [HO3.out n hin 97] at this
        by_cases hneg : 0 ≤ n
        · have hge : ¬ n < (p.length : Int) := by omega
          clear hin
          go_wp2_with fail
          refine (C1.out _ HBE.out).mono ?_
          rintro e v1 ⟨rfl, hv1⟩
          have D1 := Lib.hid (HBE.out.trans (hv1.mono HBE.out.size))
          clear hv1
          go_wp2_with fail
          refine (C2.out _ D1.out).mono ?_
          rintro e v2 ⟨rfl, hv2⟩
          have D2 := Lib.hid (D1.out.trans (hv2.mono D1.out.size))
          clear hv2
          go_wp2_with fail
          refine (C3.out _ D2.out).mono ?_
          rintro e v3 ⟨rfl, hv3⟩
          have D3 := Lib.hid (D2.out.trans (hv3.mono D2.out.size))
          clear hv3
          go_wp2
          go_ret
          exact ⟨rfl, HB.out.trans ((HB6.out.trans (D3.out.mono HB6.out.size)).mono HB.out.size)⟩
        · clear hin
          go_wp2_with fail
          refine (C1.out _ HBE.out).mono ?_
          rintro e v1 ⟨rfl, hv1⟩
          have D1 := Lib.hid (HBE.out.trans (hv1.mono HBE.out.size))
          clear hv1
          go_wp2_with fail
          refine (C2.out _ D1.out).mono ?_
          rintro e v2 ⟨rfl, hv2⟩
          have D2 := Lib.hid (D1.out.trans (hv2.mono D1.out.size))
          clear hv2
          go_wp2_with fail
          refine (C3.out _ D2.out).mono ?_
          rintro e v3 ⟨rfl, hv3⟩
          have D3 := Lib.hid (D2.out.trans (hv3.mono D2.out.size))
          clear hv3
          go_wp2
          go_ret
          exact ⟨rfl, HB.out.trans ((HB6.out.trans (D3.out.mono HB6.out.size)).mono HB.out.size)⟩
theorem walk (w : World) (xs : List TxV) (a0 : Option Addr) (cap0 : Nat) (hz0 : xs.length ≤ 6000000000000) (hx0 : ∀ x ∈ xs, x.text.length ≤ maxLen) (hts : Ts w a0 xs) (n : Int) (hwn : (Lit.int .i64 n).wf = true) :
    Calls Try.prog 3 #[.slice a0 xs.length cap0, .int .i64 n] w fun e w' => e = .returned (.bool true) ∧ Below w.heap.size w w' := by
  by_cases hall : xs.length ≤ 12 ∧ (∀ x ∈ xs, x.text.length ≤ 40)
  · exact small w xs a0 cap0 hts hall.1 hall.2 n hwn
  · clear hwn
    have HALL := Lib.hid hall
    have HX := Lib.hid hx0
    clear hall hx0
    go_enter Try.func3, Try.ntmps3
    go_wp2_with fail
    refine (Shf.awake_any _).mono ?_
    rintro e' w1 ⟨rfl, hb2⟩
    have ts1 := hts.keep hb2
    go_wp2_with fail
    refine (ltexts_any xs a0 cap0 w1 ts1 hz0 HX.out).mono ?_
    rintro e' w2 ⟨hb3, hcase⟩
    have B2 := hb2.trans (hb3.mono hb2.size)
    rcases hcase with ⟨_, rfl⟩ | ⟨hok, aL, cL, rfl, _⟩
    · go_wp2
      go_ret
      exact ⟨rfl, B2⟩
    · have h12 : ¬ xs.length ≤ 12 := fun h => HALL.out ⟨h, hok⟩
      rw [decide_eq_false h12]
      clear HALL hok
      go_wp2
      go_ret
      exact ⟨rfl, B2⟩
end Go.Proofs.Ytgdpelpepgpegaa.shiftsTell
