/- The walk of LinksTells. -/
import Derived.Test.YtcknipokplomcaaLj
namespace Go.Proofs.Ytcknipokplomcaa.linksTells
open Go.Proofs.Ytcknipokplomcaa.Tri Go.Proofs.Ytcknipokplomcaa.Lnk Go.Proofs.Ytcknipokplomcaa.Reg Go.RowKit Go.Maps

set_option maxRecDepth 100000 in
set_option maxHeartbeats 8000000 in
/-- Texts that are few and short. -/
theorem small (w : World) (xs : List TxV) (a0 : Option Addr) (cap0 : Nat) (hts : Ts w a0 xs) (h0 : xs.length ≤ 12) (hx : ∀ x ∈ xs, x.text.length ≤ 40) (n : Int) (hwn : (Lit.int .i64 n).wf = true) :
    Calls Try.prog 3 #[.slice a0 xs.length cap0, .int .i64 n] w fun e w' => e = .returned (.bool true) ∧ Below w.heap.size w w' := by
  have hx' : ∀ x ∈ xs, x.text.length ≤ maxLen := fun x h => Nat.le_trans (hx x h) (by unfold maxLen; omega)
  have htot := few_tot h0 hx
  have hps := few_len htot
  have hsh : ∀ p ∈ paths (xs.map TxV.text), p.length ≤ 40 := fun p hp => path_short (fun x h => by
    obtain ⟨y, hy, rfl⟩ := List.mem_map.1 h
    exact hx y hy) hp
  have HSH := Lib.hid hsh
  have HX := Lib.hid hx
  have HX' := Lib.hid hx'
  clear hx hx' hsh
  go_enter Try.func3, Try.ntmps3
  go_wp2_with fail
  refine (awake_any _).mono ?_
  rintro e' w1 ⟨rfl, hb2⟩
  have ts1 := hts.keep hb2
  go_wp2_with fail
  refine (ltexts_any xs a0 cap0 w1 ts1 (by omega) HX'.out).mono ?_
  rintro e' w2 ⟨hb3, hcase⟩
  rcases hcase with ⟨hbad, _⟩ | ⟨_, aL, cL, rfl, hsL⟩
  · exact absurd HX.out hbad
  rw [decide_eq_true h0]
  have ts2 := ts1.keep hb3
  have B2 := hb2.trans (hb3.mono hb2.size)
  clear hb2 hb3 ts1 hts
  go_wp2_with fail
  refine (build_any w2 xs a0 cap0 ts2 (by omega) (by omega)).mono ?_
  rintro e' W0 ⟨t, rfl, htr, hb4⟩
  obtain ⟨l, hl⟩ : ∃ l, l = xs.map TxV.text := ⟨_, rfl⟩
  have HLN : Hid (xs.length = l.length) := Lib.hid (by rw [hl]; simp)
  rw [← hl] at htr hps HSH hsL htot
  clear hl HX HX'
  have HPT : Hid (∀ X, Ss X aL l → Calls Try.prog 11 #[.slice aL xs.length cL] X (GivesSs X (paths l))) := Lib.hid fun X hX => by
    have := paths_any X l aL cL hX (by rw [← HLN.out]; omega) (by omega)
    rwa [← HLN.out] at this
  generalize hpp : paths l = ps at *
  clear hpp
  have hsL0 := hsL.keep hb4
  have HB0 := Lib.hid (B2.trans (hb4.mono B2.size))
  go_wp2_with fail
  refine (lbuild_any W0 w2.heap.size t ps l htr (by omega)).mono ?_
  rintro e' W1 ⟨x, rfl, hli, hb5⟩
  have HB := Lib.hid (HB0.out.trans (hb5.mono HB0.out.size))
  have HT : Hid (∀ X, Below W1.heap.size W1 X → Tr X w2.heap.size t ps l) := Lib.hid fun X hX => (htr.keep hb5).keep hX
  have HL : Hid (∀ X, Below W1.heap.size W1 X → Li X W0.heap.size x ps l) := Lib.hid fun X hX => hli.keep hX
  have HSL : Hid (∀ X, Below W1.heap.size W1 X → Ss X aL l) := Lib.hid fun X hX => (hsL0.keep hb5).keep hX
  have HW := Lib.hid htr.2.1
  have HLS := Lib.hid htr.2.2.1
  have hpos := htr.2.1.pos
  clear ts2 B2 hb4 hb5 hsL hsL0 htr hli HB0
  generalize w2.heap.size = s at *
  generalize W0.heap.size = s2 at *
  have C := HPT.out W1 (HSL.out _ (Below.refl _ _))
  go_wp2_with fail
  refine C.mono ?_
  rintro e' W2 ⟨aP, cP, rfl, hsP, hb6⟩
  have HB2 := Lib.hid (HB.out.trans (hb6.mono HB.out.size))
  have HL2 : Hid (∀ X, Below W2.heap.size W2 X → Li X s2 x ps l) := Lib.hid fun X hX => HL.out X (hb6.trans (hX.mono hb6.size))
  have HSL2 : Hid (∀ X, Below W2.heap.size W2 X → Ss X aL l) := Lib.hid fun X hX => HSL.out X (hb6.trans (hX.mono hb6.size))
  have HSP : Hid (∀ X, Below W2.heap.size W2 X → Ss X aP ps) := Lib.hid fun X hX => hsP.keep hX
  have HWN := Lib.hid hwn
  clear C hb6 hsP HL HSL HT HPT HB hwn
  go_wp2
  go_loopw [10] (fun i wr => ∃ k : Nat, k ≤ ps.length ∧ i = .int .i64 k ∧ Below W2.heap.size W2 wr) (fun i _ => ps.length - (intOf i).toNat)
  case atStart => exact ⟨0, Nat.zero_le _, rfl, Below.refl _ _⟩
  case round =>
    obtain ⟨k, hk, rfl, hbel⟩ := hrel
    by_cases hlt : k < ps.length
    · have hkl : (k : Int) < (ps.length : Int) := by omega
      have h40 := HSH.out _ (List.getElem_mem hlt)
      obtain ⟨bP, oP, rfl, hbP, hcP⟩ := HSP.out wr hbel (by omega)
      have hck := hcP k hlt
      have HE0 := Lib.hid (rends_any wr l aL cL (HSL2.out _ hbel) (by rw [← HLN.out]; omega) ps[k] (by omega))
      rw [← HLN.out] at HE0
      have HCELL : Hid (∀ X, Below W2.heap.size W2 X → X.cell? ⟨bP, oP + k, none⟩ = some (.string (str ps[k]))) := Lib.hid fun X hX => by
        obtain ⟨b', o', e, _, hc⟩ := HSP.out X hX (by omega)
        cases e
        exact hc k hlt
      have HFAIL : Hid (∀ X, Below W2.heap.size W2 X → Calls Try.prog 13 #[.pointer (some ⟨x, 0, none⟩), .int .i64 (k : Int)] X fun e w' => e = .returned (.int .i64 (failOf ps ps[k])) ∧ Below X.heap.size X w') := Lib.hid fun X hX => by
        have := fail_any X s2 x ps l (HL2.out _ hX) (k : Int)
        rwa [lkAt_in l hlt] at this
      have HOUT : Hid (∀ X, Below W2.heap.size W2 X → Calls Try.prog 15 #[.pointer (some ⟨x, 0, none⟩), .int .i64 (k : Int)] X fun e w' => e = .returned (.int .i64 (outOf ps l ps[k])) ∧ Below X.heap.size X w') := Lib.hid fun X hX => by
        have := out_any X s2 x ps l (HL2.out _ hX) (k : Int)
        rwa [lkAt_in l hlt] at this
      have HENDS : Hid (∀ X, Below W2.heap.size W2 X → Calls Try.prog 18 #[.pointer (some ⟨x, 0, none⟩), .int .i64 (k : Int)] X (GivesInts X (endsOf l ps[k]))) := Lib.hid fun X hX => by
        have := ends_any X s2 x ps l (HL2.out _ hX) (k : Int) (by rw [pathD_at hlt]; omega)
        rwa [pathD_at hlt] at this
      have HLONG : Hid (∀ X, Below W2.heap.size W2 X → Calls Try.prog 19 #[.pointer (some ⟨x, 0, none⟩), .int .i64 (k : Int)] X fun e w' => e = .returned (.int .i64 ((endsOf l ps[k]).headD 0)) ∧ Below X.heap.size X w') := Lib.hid fun X hX => by
        have := longest_any X s2 x ps l (HL2.out _ hX) (k : Int)
        rwa [pathD_at hlt, longOf] at this
      have HRF : Hid (∀ X, Below W2.heap.size W2 X → Calls Try.prog 14 #[.slice (some ⟨bP, oP, none⟩) ps.length cP, .string (str ps[k])] X fun e w' => e = .returned (.int .i64 (failOf ps ps[k])) ∧ X = w') := Lib.hid fun X hX => rfail_any X ps _ cP (HSP.out _ hX) (by omega) ps[k] (by omega)
      have HRO : Hid (∀ X, Below W2.heap.size W2 X → Calls Try.prog 16 #[.slice (some ⟨bP, oP, none⟩) ps.length cP, .slice aL xs.length cL, .string (str ps[k])] X fun e w' => e = .returned (.int .i64 (outOf ps l ps[k])) ∧ X = w') := Lib.hid fun X hX => by
        have := rout_any X ps l _ aL cP cL (HSP.out _ hX) (by omega) (HSL2.out _ hX) (by rw [← HLN.out]; omega) ps[k] (by omega)
        rwa [← HLN.out] at this
      have hel := ends_len l ps[k]
      have HBE0 := Lib.hid hbel
      clear hbel hcP
      generalize hE : endsOf l ps[k] = E at *
      clear hE
      have hel : E.length ≤ 40 := by omega
      generalize failOf ps ps[k] = F at *
      generalize outOf ps l ps[k] = O at *
      have hFF : (F != F) = false := by simp
      have hOO : (O != O) = false := by simp
      go_wp2_with fail
      refine HE0.out.mono ?_
      rintro e' w3 ⟨ae, ce, rfl, hie, _, hb7⟩
      have HBE := Lib.hid (HBE0.out.trans (hb7.mono HBE0.out.size))
      have HIE0 := Lib.hid hie
      have HC3 := HCELL.out w3 HBE.out
      clear hb7 hie HE0 HBE0 hck hbP
      have HCELL3 := Lib.hid (fun (X : World) (hX : Below w3.heap.size w3 X) => HCELL.out X (HBE.out.trans (hX.mono HBE.out.size)))
      have HFAIL3 := Lib.hid (fun (X : World) (hX : Below w3.heap.size w3 X) => HFAIL.out X (HBE.out.trans (hX.mono HBE.out.size)))
      have HRF3 := Lib.hid (fun (X : World) (hX : Below w3.heap.size w3 X) => HRF.out X (HBE.out.trans (hX.mono HBE.out.size)))
      have HOUT3 := Lib.hid (fun (X : World) (hX : Below w3.heap.size w3 X) => HOUT.out X (HBE.out.trans (hX.mono HBE.out.size)))
      have HRO3 := Lib.hid (fun (X : World) (hX : Below w3.heap.size w3 X) => HRO.out X (HBE.out.trans (hX.mono HBE.out.size)))
      have HENDS3 := Lib.hid (fun (X : World) (hX : Below w3.heap.size w3 X) => HENDS.out X (HBE.out.trans (hX.mono HBE.out.size)))
      have HLONG3 := Lib.hid (fun (X : World) (hX : Below w3.heap.size w3 X) => HLONG.out X (HBE.out.trans (hX.mono HBE.out.size)))
      have HIE3 := Lib.hid (fun (X : World) (hX : Below w3.heap.size w3 X) => (HIE0.out.keep hX).more hX.size)
      have BE3 := Lib.hid (Below.refl w3.heap.size w3)
      clear HCELL HFAIL HRF HOUT HRO HENDS HLONG
      by_cases hE0 : 0 < E.length
      · obtain ⟨be, oe, rfl, hbe, hce⟩ := HIE0.out hE0
        have hce0 := hce 0 hE0
        rw [Nat.add_zero, show E[0] = E.headD 0 from by cases E; (exact absurd hE0 (by simp)); rfl] at hce0
        generalize E.headD 0 = D at *
        have hEi : (0 : Int) < (E.length : Int) := by omega
        have hDD : (D != D) = false := by simp
        clear hce HIE0 hE0
        go_wp2
        refine wp_region_held_drew (S := fun w' => Below w3.drew.heap.size w3.drew w') (by kernel_rfl) (Below.refl _ _) (fun hH0 => ?_)
        have B0 := Lib.hid (below_drews BE3.out 1)
        change Hid (Below _ _ w3.drew) at B0
        generalize w3.drew = x0 at *
        refine held_take (i := 0) (d := 46) (oi := _) (v := ?_) rfl rfl (by kernel_rfl) (by kernel_rfl) (by kernel_rfl) (fun _ _ _ h => h) (Or.inl ⟨by rfl, ?_⟩) (by assumption) ?_
        rotate_left
        · (intro w hSw; clear hSw; go_simp; (try with_reducible rfl))
        simp only [Act.put, List.setIfInBounds_toArray, List.set_cons_zero, List.set_cons_succ]
        refine held_take (i := 1) (d := 47) (oi := _) (v := ?_) rfl rfl (by kernel_rfl) (by kernel_rfl) (by kernel_rfl) (fun _ _ _ h => h) (Or.inl ⟨by rfl, ?_⟩) (by assumption) ?_
        rotate_left
        · (intro w hSw; clear hSw; go_simp; (try with_reducible rfl))
        simp only [Act.put, List.setIfInBounds_toArray, List.set_cons_zero, List.set_cons_succ]
        refine held_take (i := 3) (d := 49) (oi := _) (v := ?_) rfl rfl (by kernel_rfl) (by kernel_rfl) (by kernel_rfl) (fun _ _ _ h => h) (Or.inl ⟨by rfl, ?_⟩) (by assumption) ?_
        rotate_left
        · (intro w hSw; clear hSw; go_simp; (try with_reducible rfl))
        simp only [Act.put, List.setIfInBounds_toArray, List.set_cons_zero, List.set_cons_succ]
        refine held_take (i := 4) (d := 50) (oi := _) (v := ?_) rfl rfl (by kernel_rfl) (by kernel_rfl) (by kernel_rfl) (fun _ _ _ h => h) (Or.inl ⟨by rfl, ?_⟩) (by assumption) ?_
        rotate_left
        · (intro w hSw; clear hSw; go_simp; (try with_reducible rfl))
        simp only [Act.put, List.setIfInBounds_toArray, List.set_cons_zero, List.set_cons_succ]
        refine held_take (i := 5) (d := 51) (oi := _) (v := ?_) rfl rfl (by kernel_rfl) (by kernel_rfl) (by kernel_rfl) (fun _ _ _ h => h) (Or.inl ⟨by rfl, ?_⟩) (by assumption) ?_
        rotate_left
        · (intro w hSw; clear hSw; go_simp; (try with_reducible rfl))
        simp only [Act.put, List.setIfInBounds_toArray, List.set_cons_zero, List.set_cons_succ]
        refine held_take (i := 6) (d := 52) (oi := _) (v := ?_) rfl rfl (by kernel_rfl) (by kernel_rfl) (by kernel_rfl) (fun _ _ _ h => h) (Or.inl ⟨by rfl, ?_⟩) (by assumption) ?_
        rotate_left
        · (intro w hSw; clear hSw; go_simp; (try with_reducible rfl))
        simp only [Act.put, List.setIfInBounds_toArray, List.set_cons_zero, List.set_cons_succ]
        refine held_take (i := 7) (d := 53) (oi := _) (v := ?_) rfl rfl (by kernel_rfl) (by kernel_rfl) (by kernel_rfl) (fun _ _ _ h => h) (Or.inl ⟨by rfl, ?_⟩) (by assumption) ?_
        rotate_left
        · (intro w hSw; have hld := HCELL3.out w (B0.out.trans (hSw.mono B0.out.size)); clear hSw; go_simp; (try with_reducible rfl))
        simp only [Act.put, List.setIfInBounds_toArray, List.set_cons_zero, List.set_cons_succ]
        refine wpAnyH_ready (rs := [2]) (by kernel_rfl) (by simp) ?_
        refine AllReadyH.cons rfl (fun K hK => ?_) AllReadyH.nil
        go_simp
        go_wp2_with (go_at_call 13; (with_reducible refine (HFAIL3.out _ B0.out).mono ?_); rintro e x1 ⟨rfl, hb⟩)
        refine hK.out _ _ hb (fun _ => ?_)
        have B1 := Lib.hid (B0.out.trans (hb.mono B0.out.size))
        refine wpAnyH_more (S' := fun w' => Below x1.heap.size x1 w') (fun w' h => hb.trans (h.mono hb.size)) _ _ _ _ ?_
        have hH1 : Below x1.heap.size x1 x1 := Below.refl _ _
        clear hK K hH0 hb B0
        refine wpAnyH_ready (rs := [8]) (by kernel_rfl) (by simp) ?_
        refine AllReadyH.cons rfl (fun K hK => ?_) AllReadyH.nil
        go_simp
        go_wp2_with (go_at_call 14; (with_reducible refine (HRF3.out _ B1.out).mono ?_); rintro e x' ⟨rfl, rfl⟩)
        refine hK.out _ _ hH1 (fun _ => ?_)
        clear hK K
        refine held_take (i := 9) (d := 55) (oi := _) (v := ?_) rfl rfl (by kernel_rfl) (by kernel_rfl) (by kernel_rfl) (fun _ _ _ h => h) (Or.inl ⟨by rfl, ?_⟩) (by assumption) ?_
        rotate_left
        · (intro w hSw; clear hSw; go_simp; (try with_reducible rfl))
        simp only [Act.put, List.setIfInBounds_toArray, List.set_cons_zero, List.set_cons_succ]
        refine held_take (i := 10) (d := 56) (oi := _) (v := ?_) rfl rfl (by kernel_rfl) (by kernel_rfl) (by kernel_rfl) (fun _ _ _ h => h) (Or.inl ⟨by rfl, ?_⟩) (by assumption) ?_
        rotate_left
        · (intro w hSw; clear hSw; go_simp; (try with_reducible rfl))
        simp only [Act.put, List.setIfInBounds_toArray, List.set_cons_zero, List.set_cons_succ]
        refine held_take (i := 11) (d := 57) (oi := _) (v := ?_) rfl rfl (by kernel_rfl) (by kernel_rfl) (by kernel_rfl) (fun _ _ _ h => h) (Or.inl ⟨by rfl, ?_⟩) (by assumption) ?_
        rotate_left
        · (intro w hSw; clear hSw; go_simp; (try with_reducible rfl))
        simp only [Act.put, List.setIfInBounds_toArray, List.set_cons_zero, List.set_cons_succ]
        refine held_take (i := 12) (d := 58) (oi := _) (v := ?_) rfl rfl (by kernel_rfl) (by kernel_rfl) (by kernel_rfl) (fun _ _ _ h => h) (Or.inl ⟨by rfl, ?_⟩) (by assumption) ?_
        rotate_left
        · (intro w hSw; clear hSw; go_simp; (try with_reducible rfl))
        simp only [Act.put, List.setIfInBounds_toArray, List.set_cons_zero, List.set_cons_succ]
        refine held_take (i := 14) (d := 60) (oi := _) (v := ?_) rfl rfl (by kernel_rfl) (by kernel_rfl) (by kernel_rfl) (fun _ _ _ h => h) (Or.inl ⟨by rfl, ?_⟩) (by assumption) ?_
        rotate_left
        · (intro w hSw; clear hSw; go_simp; (try with_reducible rfl))
        simp only [Act.put, List.setIfInBounds_toArray, List.set_cons_zero, List.set_cons_succ]
        refine held_take (i := 15) (d := 61) (oi := _) (v := ?_) rfl rfl (by kernel_rfl) (by kernel_rfl) (by kernel_rfl) (fun _ _ _ h => h) (Or.inl ⟨by rfl, ?_⟩) (by assumption) ?_
        rotate_left
        · (intro w hSw; clear hSw; go_simp; (try with_reducible rfl))
        simp only [Act.put, List.setIfInBounds_toArray, List.set_cons_zero, List.set_cons_succ]
        refine held_take (i := 16) (d := 62) (oi := _) (v := ?_) rfl rfl (by kernel_rfl) (by kernel_rfl) (by kernel_rfl) (fun _ _ _ h => h) (Or.inl ⟨by rfl, ?_⟩) (by assumption) ?_
        rotate_left
        · (intro w hSw; clear hSw; go_simp; (try with_reducible rfl))
        simp only [Act.put, List.setIfInBounds_toArray, List.set_cons_zero, List.set_cons_succ]
        refine held_take (i := 17) (d := 63) (oi := _) (v := ?_) rfl rfl (by kernel_rfl) (by kernel_rfl) (by kernel_rfl) (fun _ _ _ h => h) (Or.inl ⟨by rfl, ?_⟩) (by assumption) ?_
        rotate_left
        · (intro w hSw; clear hSw; go_simp; (try with_reducible rfl))
        simp only [Act.put, List.setIfInBounds_toArray, List.set_cons_zero, List.set_cons_succ]
        refine held_take (i := 18) (d := 64) (oi := _) (v := ?_) rfl rfl (by kernel_rfl) (by kernel_rfl) (by kernel_rfl) (fun _ _ _ h => h) (Or.inl ⟨by rfl, ?_⟩) (by assumption) ?_
        rotate_left
        · (intro w hSw; clear hSw; go_simp; (try with_reducible rfl))
        simp only [Act.put, List.setIfInBounds_toArray, List.set_cons_zero, List.set_cons_succ]
        refine held_take (i := 19) (d := 65) (oi := _) (v := ?_) rfl rfl (by kernel_rfl) (by kernel_rfl) (by kernel_rfl) (fun _ _ _ h => h) (Or.inl ⟨by rfl, ?_⟩) (by assumption) ?_
        rotate_left
        · (intro w hSw; have hld := HCELL3.out w (B1.out.trans (hSw.mono B1.out.size)); clear hSw; go_simp; (try with_reducible rfl))
        simp only [Act.put, List.setIfInBounds_toArray, List.set_cons_zero, List.set_cons_succ]
        refine wpAnyH_ready (rs := [13]) (by kernel_rfl) (by simp) ?_
        refine AllReadyH.cons rfl (fun K hK => ?_) AllReadyH.nil
        go_simp
        go_wp2_with (go_at_call 15; (with_reducible refine (HOUT3.out _ B1.out).mono ?_); rintro e x2 ⟨rfl, hb⟩)
        refine hK.out _ _ hb (fun _ => ?_)
        have B2 := Lib.hid (B1.out.trans (hb.mono B1.out.size))
        refine wpAnyH_more (S' := fun w' => Below x2.heap.size x2 w') (fun w' h => hb.trans (h.mono hb.size)) _ _ _ _ ?_
        have hH2 : Below x2.heap.size x2 x2 := Below.refl _ _
        clear hK K hH1 hb B1
        refine wpAnyH_ready (rs := [20]) (by kernel_rfl) (by simp) ?_
        refine AllReadyH.cons rfl (fun K hK => ?_) AllReadyH.nil
        go_simp
        go_wp2_with (go_at_call 16; (with_reducible refine (HRO3.out _ B2.out).mono ?_); rintro e x' ⟨rfl, rfl⟩)
        refine hK.out _ _ hH2 (fun _ => ?_)
        clear hK K
        refine held_take (i := 21) (d := 67) (oi := _) (v := ?_) rfl rfl (by kernel_rfl) (by kernel_rfl) (by kernel_rfl) (fun _ _ _ h => h) (Or.inl ⟨by rfl, ?_⟩) (by assumption) ?_
        rotate_left
        · (intro w hSw; clear hSw; go_simp; (try with_reducible rfl))
        simp only [Act.put, List.setIfInBounds_toArray, List.set_cons_zero, List.set_cons_succ]
        refine held_take (i := 22) (d := 68) (oi := _) (v := ?_) rfl rfl (by kernel_rfl) (by kernel_rfl) (by kernel_rfl) (fun _ _ _ h => h) (Or.inl ⟨by rfl, ?_⟩) (by assumption) ?_
        rotate_left
        · (intro w hSw; clear hSw; go_simp; (try with_reducible rfl))
        simp only [Act.put, List.setIfInBounds_toArray, List.set_cons_zero, List.set_cons_succ]
        refine held_take (i := 23) (d := 69) (oi := _) (v := ?_) rfl rfl (by kernel_rfl) (by kernel_rfl) (by kernel_rfl) (fun _ _ _ h => h) (Or.inl ⟨by rfl, ?_⟩) (by assumption) ?_
        rotate_left
        · (intro w hSw; clear hSw; go_simp; (try with_reducible rfl))
        simp only [Act.put, List.setIfInBounds_toArray, List.set_cons_zero, List.set_cons_succ]
        refine held_take (i := 24) (d := 70) (oi := _) (v := ?_) rfl rfl (by kernel_rfl) (by kernel_rfl) (by kernel_rfl) (fun _ _ _ h => h) (Or.inl ⟨by rfl, ?_⟩) (by assumption) ?_
        rotate_left
        · (intro w hSw; clear hSw; go_simp; (try with_reducible rfl))
        simp only [Act.put, List.setIfInBounds_toArray, List.set_cons_zero, List.set_cons_succ]
        refine held_take (i := 25) (d := 71) (oi := _) (v := ?_) rfl rfl (by kernel_rfl) (by kernel_rfl) (by kernel_rfl) (fun _ _ _ h => h) (Or.inl ⟨by rfl, ?_⟩) (by assumption) ?_
        rotate_left
        · (intro w hSw; clear hSw; go_simp; (try with_reducible rfl))
        simp only [Act.put, List.setIfInBounds_toArray, List.set_cons_zero, List.set_cons_succ]
        refine held_take (i := 27) (d := 73) (oi := _) (v := ?_) rfl rfl (by kernel_rfl) (by kernel_rfl) (by kernel_rfl) (fun _ _ _ h => h) (Or.inl ⟨by rfl, ?_⟩) (by assumption) ?_
        rotate_left
        · (intro w hSw; clear hSw; go_simp; (try with_reducible rfl))
        simp only [Act.put, List.setIfInBounds_toArray, List.set_cons_zero, List.set_cons_succ]
        refine wpAnyH_ready (rs := [26]) (by kernel_rfl) (by simp) ?_
        refine AllReadyH.cons rfl (fun K hK => ?_) AllReadyH.nil
        go_simp
        go_wp2_with (go_at_call 18; (with_reducible refine (HENDS3.out _ B2.out).mono ?_); rintro e x3 ⟨aVE, cVE, rfl, hix, _, hb⟩)
        have VE := Lib.hid (fun (w' : World) (h : Below x3.heap.size x3 w') => (hix.keep h).more h.size)
        clear hix
        refine hK.out _ _ hb (fun _ => ?_)
        have B3 := Lib.hid (B2.out.trans (hb.mono B2.out.size))
        refine wpAnyH_more (S' := fun w' => Below x3.heap.size x3 w') (fun w' h => hb.trans (h.mono hb.size)) _ _ _ _ ?_
        have hH3 : Below x3.heap.size x3 x3 := Below.refl _ _
        clear hK K hH2 hb B2
        have C28 := Lib.hid (isame_any x3 E E aVE _ cVE ce _ (VE.out _ (Below.refl _ _)) (HIE3.out _ B3.out) (by omega) (by omega))
        rw [decide_eq_true rfl] at C28
        refine wpAnyH_ready (rs := [28]) (by kernel_rfl) (by simp) ?_
        refine AllReadyH.cons rfl (fun K hK => ?_) AllReadyH.nil
        go_simp
        go_wp2_with (go_at_call 17; (with_reducible refine (C28.out).mono ?_); rintro e x' ⟨rfl, q, rfl⟩)
        have hb : Below x3.heap.size x3 (x3.drewN q) := below_drews (Below.refl _ _) q
        generalize x3.drewN q = x4 at *
        refine hK.out _ _ hb (fun _ => ?_)
        have B4 := Lib.hid (B3.out.trans (hb.mono B3.out.size))
        refine wpAnyH_more (S' := fun w' => Below x4.heap.size x4 w') (fun w' h => hb.trans (h.mono hb.size)) _ _ _ _ ?_
        have hH4 : Below x4.heap.size x4 x4 := Below.refl _ _
        clear hK K hH3 hb B3
        clear C28 VE
        refine held_take (i := 29) (d := 75) (oi := _) (v := ?_) rfl rfl (by kernel_rfl) (by kernel_rfl) (by kernel_rfl) (fun _ _ _ h => h) (Or.inl ⟨by rfl, ?_⟩) (by assumption) ?_
        rotate_left
        · (intro w hSw; clear hSw; go_simp; (try with_reducible rfl))
        simp only [Act.put, List.setIfInBounds_toArray, List.set_cons_zero, List.set_cons_succ]
        refine held_take (i := 30) (d := 76) (oi := _) (v := ?_) rfl rfl (by kernel_rfl) (by kernel_rfl) (by kernel_rfl) (fun _ _ _ h => h) (Or.inl ⟨by rfl, ?_⟩) (by assumption) ?_
        rotate_left
        · (intro w hSw; clear hSw; go_simp; (try with_reducible rfl))
        simp only [Act.put, List.setIfInBounds_toArray, List.set_cons_zero, List.set_cons_succ]
        refine held_take (i := 31) (d := 77) (oi := _) (v := ?_) rfl rfl (by kernel_rfl) (by kernel_rfl) (by kernel_rfl) (fun _ _ _ h => h) (Or.inl ⟨by rfl, ?_⟩) (by assumption) ?_
        rotate_left
        · (intro w hSw; clear hSw; go_simp; (try with_reducible rfl))
        simp only [Act.put, List.setIfInBounds_toArray, List.set_cons_zero, List.set_cons_succ]
        refine held_take (i := 32) (d := 78) (oi := _) (v := ?_) rfl rfl (by kernel_rfl) (by kernel_rfl) (by kernel_rfl) (fun _ _ _ h => h) (Or.inl ⟨by rfl, ?_⟩) (by assumption) ?_
        rotate_left
        · (intro w hSw; clear hSw; go_simp; (try with_reducible rfl))
        simp only [Act.put, List.setIfInBounds_toArray, List.set_cons_zero, List.set_cons_succ]
        refine held_take (i := 33) (d := 79) (oi := _) (v := ?_) rfl rfl (by kernel_rfl) (by kernel_rfl) (by kernel_rfl) (fun _ _ _ h => h) (Or.inl ⟨by rfl, ?_⟩) (by assumption) ?_
        rotate_left
        · (intro w hSw; clear hSw; go_simp; (try with_reducible rfl))
        simp only [Act.put, List.setIfInBounds_toArray, List.set_cons_zero, List.set_cons_succ]
        refine held_take (i := 35) (d := 81) (oi := _) (v := ?_) rfl rfl (by kernel_rfl) (by kernel_rfl) (by kernel_rfl) (fun _ _ _ h => h) (Or.inl ⟨by rfl, ?_⟩) (by assumption) ?_
        rotate_left
        · (intro w hSw; clear hSw; go_simp; (try with_reducible rfl))
        simp only [Act.put, List.setIfInBounds_toArray, List.set_cons_zero, List.set_cons_succ]
        refine wpAnyH_ready (rs := [34]) (by kernel_rfl) (by simp) ?_
        refine AllReadyH.cons rfl (fun K hK => ?_) AllReadyH.nil
        go_simp
        go_wp2_with (go_at_call 19; (with_reducible refine (HLONG3.out _ B4.out).mono ?_); rintro e x5 ⟨rfl, hb⟩)
        refine hK.out _ _ hb (fun _ => ?_)
        have B5 := Lib.hid (B4.out.trans (hb.mono B4.out.size))
        refine wpAnyH_more (S' := fun w' => Below x5.heap.size x5 w') (fun w' h => hb.trans (h.mono hb.size)) _ _ _ _ ?_
        have hH5 : Below x5.heap.size x5 x5 := Below.refl _ _
        clear hK K hH4 hb B4
        refine held_take (i := 36) (d := 82) (oi := _) (v := ?_) rfl rfl (by kernel_rfl) (by kernel_rfl) (by kernel_rfl) (fun _ _ _ h => h) (Or.inl ⟨by rfl, ?_⟩) (by assumption) ?_
        rotate_left
        · (intro w hSw; clear hSw; go_simp; (try with_reducible rfl))
        simp only [Act.put, List.setIfInBounds_toArray, List.set_cons_zero, List.set_cons_succ]
        refine held_take (i := 37) (d := 83) (oi := _) (v := ?_) rfl rfl (by kernel_rfl) (by kernel_rfl) (by kernel_rfl) (fun _ _ _ h => h) (Or.inl ⟨by rfl, ?_⟩) (by assumption) ?_
        rotate_left
        · (intro w hSw; clear hSw; go_simp; (try with_reducible rfl))
        simp only [Act.put, List.setIfInBounds_toArray, List.set_cons_zero, List.set_cons_succ]
        refine wpAnyH_done (by kernel_rfl) ?_ _
        go_wp2
        exact ⟨⟨k + 1, by omega, by go_num, HBE.out.trans (B5.out.mono HBE.out.size)⟩, by simp [intOf]; omega⟩
      · rw [show E.headD 0 = 0 from by cases E; rfl; (exact absurd (by simp) hE0)] at HLONG3
        have hEi : ¬ (0 : Int) < (E.length : Int) := by omega
        clear HIE0 hE0
        go_wp2
        refine wp_region_held_drew (S := fun w' => Below w3.drew.heap.size w3.drew w') (by kernel_rfl) (Below.refl _ _) (fun hH0 => ?_)
        have B0 := Lib.hid (below_drews BE3.out 1)
        change Hid (Below _ _ w3.drew) at B0
        generalize w3.drew = x0 at *
        refine held_take (i := 0) (d := 46) (oi := _) (v := ?_) rfl rfl (by kernel_rfl) (by kernel_rfl) (by kernel_rfl) (fun _ _ _ h => h) (Or.inl ⟨by rfl, ?_⟩) (by assumption) ?_
        rotate_left
        · (intro w hSw; clear hSw; go_simp; (try with_reducible rfl))
        simp only [Act.put, List.setIfInBounds_toArray, List.set_cons_zero, List.set_cons_succ]
        refine held_take (i := 1) (d := 47) (oi := _) (v := ?_) rfl rfl (by kernel_rfl) (by kernel_rfl) (by kernel_rfl) (fun _ _ _ h => h) (Or.inl ⟨by rfl, ?_⟩) (by assumption) ?_
        rotate_left
        · (intro w hSw; clear hSw; go_simp; (try with_reducible rfl))
        simp only [Act.put, List.setIfInBounds_toArray, List.set_cons_zero, List.set_cons_succ]
        refine held_take (i := 3) (d := 49) (oi := _) (v := ?_) rfl rfl (by kernel_rfl) (by kernel_rfl) (by kernel_rfl) (fun _ _ _ h => h) (Or.inl ⟨by rfl, ?_⟩) (by assumption) ?_
        rotate_left
        · (intro w hSw; clear hSw; go_simp; (try with_reducible rfl))
        simp only [Act.put, List.setIfInBounds_toArray, List.set_cons_zero, List.set_cons_succ]
        refine held_take (i := 4) (d := 50) (oi := _) (v := ?_) rfl rfl (by kernel_rfl) (by kernel_rfl) (by kernel_rfl) (fun _ _ _ h => h) (Or.inl ⟨by rfl, ?_⟩) (by assumption) ?_
        rotate_left
        · (intro w hSw; clear hSw; go_simp; (try with_reducible rfl))
        simp only [Act.put, List.setIfInBounds_toArray, List.set_cons_zero, List.set_cons_succ]
        refine held_take (i := 5) (d := 51) (oi := _) (v := ?_) rfl rfl (by kernel_rfl) (by kernel_rfl) (by kernel_rfl) (fun _ _ _ h => h) (Or.inl ⟨by rfl, ?_⟩) (by assumption) ?_
        rotate_left
        · (intro w hSw; clear hSw; go_simp; (try with_reducible rfl))
        simp only [Act.put, List.setIfInBounds_toArray, List.set_cons_zero, List.set_cons_succ]
        refine held_take (i := 6) (d := 52) (oi := _) (v := ?_) rfl rfl (by kernel_rfl) (by kernel_rfl) (by kernel_rfl) (fun _ _ _ h => h) (Or.inl ⟨by rfl, ?_⟩) (by assumption) ?_
        rotate_left
        · (intro w hSw; clear hSw; go_simp; (try with_reducible rfl))
        simp only [Act.put, List.setIfInBounds_toArray, List.set_cons_zero, List.set_cons_succ]
        refine held_take (i := 7) (d := 53) (oi := _) (v := ?_) rfl rfl (by kernel_rfl) (by kernel_rfl) (by kernel_rfl) (fun _ _ _ h => h) (Or.inl ⟨by rfl, ?_⟩) (by assumption) ?_
        rotate_left
        · (intro w hSw; have hld := HCELL3.out w (B0.out.trans (hSw.mono B0.out.size)); clear hSw; go_simp; (try with_reducible rfl))
        simp only [Act.put, List.setIfInBounds_toArray, List.set_cons_zero, List.set_cons_succ]
        refine wpAnyH_ready (rs := [2]) (by kernel_rfl) (by simp) ?_
        refine AllReadyH.cons rfl (fun K hK => ?_) AllReadyH.nil
        go_simp
        go_wp2_with (go_at_call 13; (with_reducible refine (HFAIL3.out _ B0.out).mono ?_); rintro e x1 ⟨rfl, hb⟩)
        refine hK.out _ _ hb (fun _ => ?_)
        have B1 := Lib.hid (B0.out.trans (hb.mono B0.out.size))
        refine wpAnyH_more (S' := fun w' => Below x1.heap.size x1 w') (fun w' h => hb.trans (h.mono hb.size)) _ _ _ _ ?_
        have hH1 : Below x1.heap.size x1 x1 := Below.refl _ _
        clear hK K hH0 hb B0
        refine wpAnyH_ready (rs := [8]) (by kernel_rfl) (by simp) ?_
        refine AllReadyH.cons rfl (fun K hK => ?_) AllReadyH.nil
        go_simp
        go_wp2_with (go_at_call 14; (with_reducible refine (HRF3.out _ B1.out).mono ?_); rintro e x' ⟨rfl, rfl⟩)
        refine hK.out _ _ hH1 (fun _ => ?_)
        clear hK K
        refine held_take (i := 9) (d := 55) (oi := _) (v := ?_) rfl rfl (by kernel_rfl) (by kernel_rfl) (by kernel_rfl) (fun _ _ _ h => h) (Or.inl ⟨by rfl, ?_⟩) (by assumption) ?_
        rotate_left
        · (intro w hSw; clear hSw; go_simp; (try with_reducible rfl))
        simp only [Act.put, List.setIfInBounds_toArray, List.set_cons_zero, List.set_cons_succ]
        refine held_take (i := 10) (d := 56) (oi := _) (v := ?_) rfl rfl (by kernel_rfl) (by kernel_rfl) (by kernel_rfl) (fun _ _ _ h => h) (Or.inl ⟨by rfl, ?_⟩) (by assumption) ?_
        rotate_left
        · (intro w hSw; clear hSw; go_simp; (try with_reducible rfl))
        simp only [Act.put, List.setIfInBounds_toArray, List.set_cons_zero, List.set_cons_succ]
        refine held_take (i := 11) (d := 57) (oi := _) (v := ?_) rfl rfl (by kernel_rfl) (by kernel_rfl) (by kernel_rfl) (fun _ _ _ h => h) (Or.inl ⟨by rfl, ?_⟩) (by assumption) ?_
        rotate_left
        · (intro w hSw; clear hSw; go_simp; (try with_reducible rfl))
        simp only [Act.put, List.setIfInBounds_toArray, List.set_cons_zero, List.set_cons_succ]
        refine held_take (i := 12) (d := 58) (oi := _) (v := ?_) rfl rfl (by kernel_rfl) (by kernel_rfl) (by kernel_rfl) (fun _ _ _ h => h) (Or.inl ⟨by rfl, ?_⟩) (by assumption) ?_
        rotate_left
        · (intro w hSw; clear hSw; go_simp; (try with_reducible rfl))
        simp only [Act.put, List.setIfInBounds_toArray, List.set_cons_zero, List.set_cons_succ]
        refine held_take (i := 14) (d := 60) (oi := _) (v := ?_) rfl rfl (by kernel_rfl) (by kernel_rfl) (by kernel_rfl) (fun _ _ _ h => h) (Or.inl ⟨by rfl, ?_⟩) (by assumption) ?_
        rotate_left
        · (intro w hSw; clear hSw; go_simp; (try with_reducible rfl))
        simp only [Act.put, List.setIfInBounds_toArray, List.set_cons_zero, List.set_cons_succ]
        refine held_take (i := 15) (d := 61) (oi := _) (v := ?_) rfl rfl (by kernel_rfl) (by kernel_rfl) (by kernel_rfl) (fun _ _ _ h => h) (Or.inl ⟨by rfl, ?_⟩) (by assumption) ?_
        rotate_left
        · (intro w hSw; clear hSw; go_simp; (try with_reducible rfl))
        simp only [Act.put, List.setIfInBounds_toArray, List.set_cons_zero, List.set_cons_succ]
        refine held_take (i := 16) (d := 62) (oi := _) (v := ?_) rfl rfl (by kernel_rfl) (by kernel_rfl) (by kernel_rfl) (fun _ _ _ h => h) (Or.inl ⟨by rfl, ?_⟩) (by assumption) ?_
        rotate_left
        · (intro w hSw; clear hSw; go_simp; (try with_reducible rfl))
        simp only [Act.put, List.setIfInBounds_toArray, List.set_cons_zero, List.set_cons_succ]
        refine held_take (i := 17) (d := 63) (oi := _) (v := ?_) rfl rfl (by kernel_rfl) (by kernel_rfl) (by kernel_rfl) (fun _ _ _ h => h) (Or.inl ⟨by rfl, ?_⟩) (by assumption) ?_
        rotate_left
        · (intro w hSw; clear hSw; go_simp; (try with_reducible rfl))
        simp only [Act.put, List.setIfInBounds_toArray, List.set_cons_zero, List.set_cons_succ]
        refine held_take (i := 18) (d := 64) (oi := _) (v := ?_) rfl rfl (by kernel_rfl) (by kernel_rfl) (by kernel_rfl) (fun _ _ _ h => h) (Or.inl ⟨by rfl, ?_⟩) (by assumption) ?_
        rotate_left
        · (intro w hSw; clear hSw; go_simp; (try with_reducible rfl))
        simp only [Act.put, List.setIfInBounds_toArray, List.set_cons_zero, List.set_cons_succ]
        refine held_take (i := 19) (d := 65) (oi := _) (v := ?_) rfl rfl (by kernel_rfl) (by kernel_rfl) (by kernel_rfl) (fun _ _ _ h => h) (Or.inl ⟨by rfl, ?_⟩) (by assumption) ?_
        rotate_left
        · (intro w hSw; have hld := HCELL3.out w (B1.out.trans (hSw.mono B1.out.size)); clear hSw; go_simp; (try with_reducible rfl))
        simp only [Act.put, List.setIfInBounds_toArray, List.set_cons_zero, List.set_cons_succ]
        refine wpAnyH_ready (rs := [13]) (by kernel_rfl) (by simp) ?_
        refine AllReadyH.cons rfl (fun K hK => ?_) AllReadyH.nil
        go_simp
        go_wp2_with (go_at_call 15; (with_reducible refine (HOUT3.out _ B1.out).mono ?_); rintro e x2 ⟨rfl, hb⟩)
        refine hK.out _ _ hb (fun _ => ?_)
        have B2 := Lib.hid (B1.out.trans (hb.mono B1.out.size))
        refine wpAnyH_more (S' := fun w' => Below x2.heap.size x2 w') (fun w' h => hb.trans (h.mono hb.size)) _ _ _ _ ?_
        have hH2 : Below x2.heap.size x2 x2 := Below.refl _ _
        clear hK K hH1 hb B1
        refine wpAnyH_ready (rs := [20]) (by kernel_rfl) (by simp) ?_
        refine AllReadyH.cons rfl (fun K hK => ?_) AllReadyH.nil
        go_simp
        go_wp2_with (go_at_call 16; (with_reducible refine (HRO3.out _ B2.out).mono ?_); rintro e x' ⟨rfl, rfl⟩)
        refine hK.out _ _ hH2 (fun _ => ?_)
        clear hK K
        refine held_take (i := 21) (d := 67) (oi := _) (v := ?_) rfl rfl (by kernel_rfl) (by kernel_rfl) (by kernel_rfl) (fun _ _ _ h => h) (Or.inl ⟨by rfl, ?_⟩) (by assumption) ?_
        rotate_left
        · (intro w hSw; clear hSw; go_simp; (try with_reducible rfl))
        simp only [Act.put, List.setIfInBounds_toArray, List.set_cons_zero, List.set_cons_succ]
        refine held_take (i := 22) (d := 68) (oi := _) (v := ?_) rfl rfl (by kernel_rfl) (by kernel_rfl) (by kernel_rfl) (fun _ _ _ h => h) (Or.inl ⟨by rfl, ?_⟩) (by assumption) ?_
        rotate_left
        · (intro w hSw; clear hSw; go_simp; (try with_reducible rfl))
        simp only [Act.put, List.setIfInBounds_toArray, List.set_cons_zero, List.set_cons_succ]
        refine held_take (i := 23) (d := 69) (oi := _) (v := ?_) rfl rfl (by kernel_rfl) (by kernel_rfl) (by kernel_rfl) (fun _ _ _ h => h) (Or.inl ⟨by rfl, ?_⟩) (by assumption) ?_
        rotate_left
        · (intro w hSw; clear hSw; go_simp; (try with_reducible rfl))
        simp only [Act.put, List.setIfInBounds_toArray, List.set_cons_zero, List.set_cons_succ]
        refine held_take (i := 24) (d := 70) (oi := _) (v := ?_) rfl rfl (by kernel_rfl) (by kernel_rfl) (by kernel_rfl) (fun _ _ _ h => h) (Or.inl ⟨by rfl, ?_⟩) (by assumption) ?_
        rotate_left
        · (intro w hSw; clear hSw; go_simp; (try with_reducible rfl))
        simp only [Act.put, List.setIfInBounds_toArray, List.set_cons_zero, List.set_cons_succ]
        refine held_take (i := 25) (d := 71) (oi := _) (v := ?_) rfl rfl (by kernel_rfl) (by kernel_rfl) (by kernel_rfl) (fun _ _ _ h => h) (Or.inl ⟨by rfl, ?_⟩) (by assumption) ?_
        rotate_left
        · (intro w hSw; clear hSw; go_simp; (try with_reducible rfl))
        simp only [Act.put, List.setIfInBounds_toArray, List.set_cons_zero, List.set_cons_succ]
        refine held_take (i := 27) (d := 73) (oi := _) (v := ?_) rfl rfl (by kernel_rfl) (by kernel_rfl) (by kernel_rfl) (fun _ _ _ h => h) (Or.inl ⟨by rfl, ?_⟩) (by assumption) ?_
        rotate_left
        · (intro w hSw; clear hSw; go_simp; (try with_reducible rfl))
        simp only [Act.put, List.setIfInBounds_toArray, List.set_cons_zero, List.set_cons_succ]
        refine wpAnyH_ready (rs := [26]) (by kernel_rfl) (by simp) ?_
        refine AllReadyH.cons rfl (fun K hK => ?_) AllReadyH.nil
        go_simp
        go_wp2_with (go_at_call 18; (with_reducible refine (HENDS3.out _ B2.out).mono ?_); rintro e x3 ⟨aVE, cVE, rfl, hix, _, hb⟩)
        have VE := Lib.hid (fun (w' : World) (h : Below x3.heap.size x3 w') => (hix.keep h).more h.size)
        clear hix
        refine hK.out _ _ hb (fun _ => ?_)
        have B3 := Lib.hid (B2.out.trans (hb.mono B2.out.size))
        refine wpAnyH_more (S' := fun w' => Below x3.heap.size x3 w') (fun w' h => hb.trans (h.mono hb.size)) _ _ _ _ ?_
        have hH3 : Below x3.heap.size x3 x3 := Below.refl _ _
        clear hK K hH2 hb B2
        have C28 := Lib.hid (isame_any x3 E E aVE _ cVE ce _ (VE.out _ (Below.refl _ _)) (HIE3.out _ B3.out) (by omega) (by omega))
        rw [decide_eq_true rfl] at C28
        refine wpAnyH_ready (rs := [28]) (by kernel_rfl) (by simp) ?_
        refine AllReadyH.cons rfl (fun K hK => ?_) AllReadyH.nil
        go_simp
        go_wp2_with (go_at_call 17; (with_reducible refine (C28.out).mono ?_); rintro e x' ⟨rfl, q, rfl⟩)
        have hb : Below x3.heap.size x3 (x3.drewN q) := below_drews (Below.refl _ _) q
        generalize x3.drewN q = x4 at *
        refine hK.out _ _ hb (fun _ => ?_)
        have B4 := Lib.hid (B3.out.trans (hb.mono B3.out.size))
        refine wpAnyH_more (S' := fun w' => Below x4.heap.size x4 w') (fun w' h => hb.trans (h.mono hb.size)) _ _ _ _ ?_
        have hH4 : Below x4.heap.size x4 x4 := Below.refl _ _
        clear hK K hH3 hb B3
        clear C28 VE
        refine held_take (i := 29) (d := 75) (oi := _) (v := ?_) rfl rfl (by kernel_rfl) (by kernel_rfl) (by kernel_rfl) (fun _ _ _ h => h) (Or.inl ⟨by rfl, ?_⟩) (by assumption) ?_
        rotate_left
        · (intro w hSw; clear hSw; go_simp; (try with_reducible rfl))
        simp only [Act.put, List.setIfInBounds_toArray, List.set_cons_zero, List.set_cons_succ]
        refine held_take (i := 30) (d := 76) (oi := _) (v := ?_) rfl rfl (by kernel_rfl) (by kernel_rfl) (by kernel_rfl) (fun _ _ _ h => h) (Or.inl ⟨by rfl, ?_⟩) (by assumption) ?_
        rotate_left
        · (intro w hSw; clear hSw; go_simp; (try with_reducible rfl))
        simp only [Act.put, List.setIfInBounds_toArray, List.set_cons_zero, List.set_cons_succ]
        refine held_take (i := 31) (d := 77) (oi := _) (v := ?_) rfl rfl (by kernel_rfl) (by kernel_rfl) (by kernel_rfl) (fun _ _ _ h => h) (Or.inl ⟨by rfl, ?_⟩) (by assumption) ?_
        rotate_left
        · (intro w hSw; clear hSw; go_simp; (try with_reducible rfl))
        simp only [Act.put, List.setIfInBounds_toArray, List.set_cons_zero, List.set_cons_succ]
        refine held_take (i := 32) (d := 78) (oi := _) (v := ?_) rfl rfl (by kernel_rfl) (by kernel_rfl) (by kernel_rfl) (fun _ _ _ h => h) (Or.inl ⟨by rfl, ?_⟩) (by assumption) ?_
        rotate_left
        · (intro w hSw; clear hSw; go_simp; (try with_reducible rfl))
        simp only [Act.put, List.setIfInBounds_toArray, List.set_cons_zero, List.set_cons_succ]
        refine held_take (i := 33) (d := 79) (oi := _) (v := ?_) rfl rfl (by kernel_rfl) (by kernel_rfl) (by kernel_rfl) (fun _ _ _ h => h) (Or.inl ⟨by rfl, ?_⟩) (by assumption) ?_
        rotate_left
        · (intro w hSw; clear hSw; go_simp; (try with_reducible rfl))
        simp only [Act.put, List.setIfInBounds_toArray, List.set_cons_zero, List.set_cons_succ]
        refine held_take (i := 35) (d := 81) (oi := _) (v := ?_) rfl rfl (by kernel_rfl) (by kernel_rfl) (by kernel_rfl) (fun _ _ _ h => h) (Or.inl ⟨by rfl, ?_⟩) (by assumption) ?_
        rotate_left
        · (intro w hSw; clear hSw; go_simp; (try with_reducible rfl))
        simp only [Act.put, List.setIfInBounds_toArray, List.set_cons_zero, List.set_cons_succ]
        refine wpAnyH_ready (rs := [34]) (by kernel_rfl) (by simp) ?_
        refine AllReadyH.cons rfl (fun K hK => ?_) AllReadyH.nil
        go_simp
        go_wp2_with (go_at_call 19; (with_reducible refine (HLONG3.out _ B4.out).mono ?_); rintro e x5 ⟨rfl, hb⟩)
        refine hK.out _ _ hb (fun _ => ?_)
        have B5 := Lib.hid (B4.out.trans (hb.mono B4.out.size))
        refine wpAnyH_more (S' := fun w' => Below x5.heap.size x5 w') (fun w' h => hb.trans (h.mono hb.size)) _ _ _ _ ?_
        have hH5 : Below x5.heap.size x5 x5 := Below.refl _ _
        clear hK K hH4 hb B4
        refine held_take (i := 36) (d := 82) (oi := _) (v := ?_) rfl rfl (by kernel_rfl) (by kernel_rfl) (by kernel_rfl) (fun _ _ _ h => h) (Or.inl ⟨by rfl, ?_⟩) (by assumption) ?_
        rotate_left
        · (intro w hSw; clear hSw; go_simp; (try with_reducible rfl))
        simp only [Act.put, List.setIfInBounds_toArray, List.set_cons_zero, List.set_cons_succ]
        refine held_take (i := 37) (d := 83) (oi := _) (v := ?_) rfl rfl (by kernel_rfl) (by kernel_rfl) (by kernel_rfl) (fun _ _ _ h => h) (Or.inl ⟨by rfl, ?_⟩) (by assumption) ?_
        rotate_left
        · (intro w hSw; clear hSw; go_simp; (try with_reducible rfl))
        simp only [Act.put, List.setIfInBounds_toArray, List.set_cons_zero, List.set_cons_succ]
        refine wpAnyH_done (by kernel_rfl) ?_ _
        go_wp2
        exact ⟨⟨k + 1, by omega, by go_num, HBE.out.trans (B5.out.mono HBE.out.size)⟩, by simp [intOf]; omega⟩
    · obtain rfl : k = ps.length := by omega
      have hkl : ¬ (ps.length : Int) < (ps.length : Int) := by omega
      by_cases hin : 0 ≤ n ∧ n < ps.length
      · have h1 : 0 ≤ n := hin.1
        have h2 : n < (ps.length : Int) := hin.2
        have HBE := Lib.hid hbel
        clear hin hbel
        go_wp2
        go_ret
        exact ⟨rfl, HB2.out.trans (HBE.out.mono HB2.out.size)⟩
      · have HLK := Lib.hid (lkAt_out (ps := ps) l hin)
        have HPD := Lib.hid (pathD_none hin)
        have HF : Hid (∀ X, Below W2.heap.size W2 X → Calls Try.prog 13 #[.pointer (some ⟨x, 0, none⟩), .int .i64 n] X fun e w' => e = .returned (.int .i64 (-1)) ∧ Below X.heap.size X w') := Lib.hid fun X hX => by
          have := fail_any X s2 x ps l (HL2.out _ hX) n
          rwa [HLK.out] at this
        have HO : Hid (∀ X, Below W2.heap.size W2 X → Calls Try.prog 15 #[.pointer (some ⟨x, 0, none⟩), .int .i64 n] X fun e w' => e = .returned (.int .i64 (-1)) ∧ Below X.heap.size X w') := Lib.hid fun X hX => by
          have := out_any X s2 x ps l (HL2.out _ hX) n
          rwa [HLK.out] at this
        have HE : Hid (∀ X, Below W2.heap.size W2 X → Calls Try.prog 18 #[.pointer (some ⟨x, 0, none⟩), .int .i64 n] X (GivesInts X [])) := Lib.hid fun X hX => by
          have := ends_any X s2 x ps l (HL2.out _ hX) n (by rw [HPD.out]; simp)
          rw [HPD.out] at this
          exact this
        have HG : Hid (∀ X, Below W2.heap.size W2 X → Calls Try.prog 19 #[.pointer (some ⟨x, 0, none⟩), .int .i64 n] X fun e w' => e = .returned (.int .i64 0) ∧ Below X.heap.size X w') := Lib.hid fun X hX => by
          have := longest_any X s2 x ps l (HL2.out _ hX) n
          rw [HPD.out] at this
          exact this
        have D0 := Lib.hid hbel
        clear hbel HLK HPD
        by_cases h1 : 0 ≤ n
        · have h2 : ¬ n < (ps.length : Int) := fun e => hin ⟨h1, e⟩
          clear hin
          go_wp2_with (first
            | (go_at_call 13; (with_reducible refine (HF.out _ D0.out).mono ?_); rintro e x1 ⟨rfl, hb⟩; have D1 := Lib.hid (D0.out.trans (hb.mono D0.out.size)); clear hb)
            | (go_at_call 15; (with_reducible refine (HO.out _ D1.out).mono ?_); rintro e x2 ⟨rfl, hb⟩; have D2 := Lib.hid (D1.out.trans (hb.mono D1.out.size)); clear hb)
            | (go_at_call 18; (with_reducible refine (HE.out _ D2.out).mono ?_); rintro e x3 ⟨ay, cy, rfl, _, _, hb⟩; have D3 := Lib.hid (D2.out.trans (hb.mono D2.out.size)); clear hb)
            | (go_at_call 19; (with_reducible refine (HG.out _ D3.out).mono ?_); rintro e x4 ⟨rfl, hb⟩; have D4 := Lib.hid (D3.out.trans (hb.mono D3.out.size)); clear hb))
          go_ret
          exact ⟨rfl, HB2.out.trans (D4.out.mono HB2.out.size)⟩
        · clear hin
          go_wp2_with (first
            | (go_at_call 13; (with_reducible refine (HF.out _ D0.out).mono ?_); rintro e x1 ⟨rfl, hb⟩; have D1 := Lib.hid (D0.out.trans (hb.mono D0.out.size)); clear hb)
            | (go_at_call 15; (with_reducible refine (HO.out _ D1.out).mono ?_); rintro e x2 ⟨rfl, hb⟩; have D2 := Lib.hid (D1.out.trans (hb.mono D1.out.size)); clear hb)
            | (go_at_call 18; (with_reducible refine (HE.out _ D2.out).mono ?_); rintro e x3 ⟨ay, cy, rfl, _, _, hb⟩; have D3 := Lib.hid (D2.out.trans (hb.mono D2.out.size)); clear hb)
            | (go_at_call 19; (with_reducible refine (HG.out _ D3.out).mono ?_); rintro e x4 ⟨rfl, hb⟩; have D4 := Lib.hid (D3.out.trans (hb.mono D3.out.size)); clear hb))
          go_ret
          exact ⟨rfl, HB2.out.trans (D4.out.mono HB2.out.size)⟩
set_option maxRecDepth 100000 in
set_option maxHeartbeats 8000000 in
theorem walk (w : World) (xs : List TxV) (a0 : Option Addr) (cap0 : Nat) (hz0 : xs.length ≤ 6000000000000) (hx0 : ∀ x ∈ xs, x.text.length ≤ maxLen) (hts : Ts w a0 xs) (n : Int) (hwn : (Lit.int .i64 n).wf = true) :
    Calls Try.prog 3 #[.slice a0 xs.length cap0, .int .i64 n] w fun e w' => e = .returned (.bool true) ∧ Below w.heap.size w w' := by
  by_cases hall : xs.length ≤ 12 ∧ (∀ x ∈ xs, x.text.length ≤ 40)
  · exact small w xs a0 cap0 hts hall.1 hall.2 n hwn
  · have HALL := Lib.hid hall
    have HX := Lib.hid hx0
    clear hall hx0
    go_enter Try.func3, Try.ntmps3
    go_wp2_with fail
    refine (awake_any _).mono ?_
    rintro e' w1 ⟨rfl, hb2⟩
    have ts1 := hts.keep hb2
    go_wp2_with fail
    refine (ltexts_any xs a0 cap0 w1 ts1 hz0 HX.out).mono ?_
    rintro e' w2 ⟨hb3, hcase⟩
    have B2 := hb2.trans (hb3.mono hb2.size)
    rcases hcase with ⟨_, rfl⟩ | ⟨hok, aL, cL, rfl, _⟩
    · go_wp2
      go_ret
      exact ⟨rfl, B2⟩
    · have h12 : ¬ xs.length ≤ 12 := fun h => HALL.out ⟨h, hok⟩
      rw [decide_eq_false h12]
      clear HALL hok
      go_wp2
      go_ret
      exact ⟨rfl, B2⟩
end Go.Proofs.Ytcknipokplomcaa.linksTells
