/- The walk of LinksShort. -/
import Derived.Test.YtcknipokplomcaaLj
namespace Go.Proofs.Ytcknipokplomcaa.linksShort
open Go.Proofs.Ytcknipokplomcaa.Tri Go.Proofs.Ytcknipokplomcaa.Lnk Go.Proofs.Ytcknipokplomcaa.Reg Go.RowKit Go.Maps

set_option maxRecDepth 100000 in
set_option maxHeartbeats 8000000 in
/-- Texts that are few and short. -/
theorem small (w : World) (xs : List TxV) (a0 : Option Addr) (cap0 : Nat) (hts : Ts w a0 xs) (h0 : xs.length ≤ 12) (hx : ∀ x ∈ xs, x.text.length ≤ 40) :
    Calls Try.prog 5 #[.slice a0 xs.length cap0] w fun e w' => e = .returned (.bool true) ∧ Below w.heap.size w w' := by
  have hx' : ∀ x ∈ xs, x.text.length ≤ maxLen := fun x h => Nat.le_trans (hx x h) (by unfold maxLen; omega)
  have htot := few_tot h0 hx
  have hps := few_len htot
  have hsh : ∀ p ∈ paths (xs.map TxV.text), p.length ≤ 40 := fun p hp => path_short (fun x h => by
    obtain ⟨y, hy, rfl⟩ := List.mem_map.1 h
    exact hx y hy) hp
  have HSH := Lib.hid hsh
  have HX := Lib.hid hx
  have HX' := Lib.hid hx'
  clear hx hx' hsh
  go_enter Try.func5, Try.ntmps5
  go_wp2_with fail
  refine (awake_any _).mono ?_
  rintro e' w1 ⟨rfl, hb2⟩
  have ts1 := hts.keep hb2
  go_wp2_with fail
  refine (ltexts_any xs a0 cap0 w1 ts1 (by omega) HX'.out).mono ?_
  rintro e' w2 ⟨hb3, hcase⟩
  rcases hcase with ⟨hbad, _⟩ | ⟨_, aL, cL, rfl, hsL⟩
  · exact absurd HX.out hbad
  rw [decide_eq_true h0]
  have ts2 := ts1.keep hb3
  have B2 := hb2.trans (hb3.mono hb2.size)
  clear hb2 hb3 ts1 hts
  go_wp2_with fail
  refine (build_any w2 xs a0 cap0 ts2 (by omega) (by omega)).mono ?_
  rintro e' W0 ⟨t, rfl, htr, hb4⟩
  obtain ⟨l, hl⟩ : ∃ l, l = xs.map TxV.text := ⟨_, rfl⟩
  have HLN : Hid (xs.length = l.length) := Lib.hid (by rw [hl]; simp)
  rw [← hl] at htr hps HSH hsL htot
  clear hl HX HX'
  have HPT : Hid (∀ X, Ss X aL l → Calls Try.prog 11 #[.slice aL xs.length cL] X (GivesSs X (paths l))) := Lib.hid fun X hX => by
    have := paths_any X l aL cL hX (by rw [← HLN.out]; omega) (by omega)
    rwa [← HLN.out] at this
  generalize hpp : paths l = ps at *
  clear hpp
  have hsL0 := hsL.keep hb4
  have HB0 := Lib.hid (B2.trans (hb4.mono B2.size))
  go_wp2_with fail
  refine (lbuild_any W0 w2.heap.size t ps l htr (by omega)).mono ?_
  rintro e' W1 ⟨x, rfl, hli, hb5⟩
  have HB := Lib.hid (HB0.out.trans (hb5.mono HB0.out.size))
  have HT : Hid (∀ X, Below W1.heap.size W1 X → Tr X w2.heap.size t ps l) := Lib.hid fun X hX => (htr.keep hb5).keep hX
  have HL : Hid (∀ X, Below W1.heap.size W1 X → Li X W0.heap.size x ps l) := Lib.hid fun X hX => hli.keep hX
  have HSL : Hid (∀ X, Below W1.heap.size W1 X → Ss X aL l) := Lib.hid fun X hX => (hsL0.keep hb5).keep hX
  have HW := Lib.hid htr.2.1
  have HLS := Lib.hid htr.2.2.1
  have hpos := htr.2.1.pos
  clear ts2 B2 hb4 hb5 hsL hsL0 htr hli HB0
  generalize w2.heap.size = s at *
  generalize W0.heap.size = s2 at *
  have HN := Lib.hid (fun X h => nodes_any X s t ps l (HT.out X h))
  go_wp2
  go_loopw [8] (fun i wr => ∃ k : Nat, 1 ≤ k ∧ k ≤ ps.length ∧ i = .int .i64 k ∧ Below W1.heap.size W1 wr) (fun i _ => ps.length - (intOf i).toNat)
  case atStart => exact ⟨1, Nat.le_refl _, hpos, rfl, Below.refl _ _⟩
  case round =>
    obtain ⟨k, hk1, hk, rfl, hbel⟩ := hrel
    by_cases hlt : k < ps.length
    · have hkl : (k : Int) < (ps.length : Int) := by omega
      have h40 := HSH.out _ (List.getElem_mem hlt)
      have hne : ps[k] ≠ [] := fun e => by have := (HW.out.nil_iff hlt).1 e; omega
      have HPATH : Hid (∀ X, Below W1.heap.size W1 X → Calls Try.prog 23 #[.pointer (some ⟨t, 0, none⟩), .int .i64 (k : Int)] X (GivesText X ps[k])) := Lib.hid fun X hX => by
        have := path_any X s t ps l (HT.out _ hX) (k : Int) (by rw [pathD_at hlt]; omega)
        rwa [pathD_at hlt] at this
      have HFAIL : Hid (∀ X, Below W1.heap.size W1 X → Calls Try.prog 13 #[.pointer (some ⟨x, 0, none⟩), .int .i64 (k : Int)] X fun e w' => e = .returned (.int .i64 (failOf ps ps[k])) ∧ Below X.heap.size X w') := Lib.hid fun X hX => by
        have := fail_any X s2 x ps l (HL.out _ hX) (k : Int)
        rwa [lkAt_in l hlt] at this
      obtain ⟨u, z, ez, hu, hzp, hzl, ef, _, _, hno⟩ := fail_step HW.out ps[k] hne
      rw [ef] at HFAIL
      have HPZ : Hid (∀ X, Below W1.heap.size W1 X → Calls Try.prog 23 #[.pointer (some ⟨t, 0, none⟩), .int .i64 (place ps z)] X (GivesText X z)) := Lib.hid fun X hX => by
        have := path_any X s t ps l (HT.out _ hX) (place ps z) (by rw [(own_word ps l hzp).2]; omega)
        rwa [(own_word ps l hzp).2] at this
      have hF0 : decide (place ps z < 0) = false := by have := (place_nonneg ps z).2 hzp; exact decide_eq_false (by omega)
      have HEZ : Hid (ps[k].drop u.length = z) := Lib.hid (by rw [ez]; simp)
      have hul : ps[k].length = u.length + z.length := by rw [ez]; simp
      have hul1 : ps[k].length ≤ u.length + z.length := by omega
      have hul2 : u.length + z.length ≤ ps[k].length := by omega
      have HNO := Lib.hid hno
      have HBE := Lib.hid hbel
      have hu0 : 0 < u.length := List.length_pos_iff.2 hu
      clear hbel ez hu ef hno hne hzp hul
      generalize ps[k] = p at *
      generalize u.length = d at *
      generalize place ps z = F at *
      clear u
      go_wp2_with (go_at_call 22; (with_reducible refine (HN.out _ HBE.out).mono ?_); rintro e y0 ⟨rfl, rfl⟩; go_wp2_with fail)
      refine (HPATH.out _ HBE.out).mono ?_
      rintro e y1 ⟨ap, cp, rfl, htp, hcp, _, hb⟩
      have C1 := Lib.hid (HBE.out.trans (hb.mono HBE.out.size))
      clear hb
      go_wp2_with fail
      refine (HFAIL.out _ C1.out).mono ?_
      rintro e y2 ⟨rfl, hb⟩
      have C2 := Lib.hid (C1.out.trans (hb.mono C1.out.size))
      have htp2 := htp.keep hb
      clear hb htp
      go_wp2_with fail
      refine (HPZ.out _ C2.out).mono ?_
      rintro e y3 ⟨aq, cq, rfl, htq, hcq, hqn, hb⟩
      have C3 := Lib.hid (C2.out.trans (hb.mono C2.out.size))
      have hbp := (htp2.keep hb).bs
      have HBQ := Lib.hid htq.bs
      clear hb htp2 htq
      obtain ⟨bp, op, rfl, hbpl, hpc⟩ := hbp (by omega)
      have HBP : Hid (Bs y3 y3.heap.size (some ⟨bp, op, none⟩) p) := Lib.hid fun _ => ⟨bp, op, rfl, hbpl, hpc⟩
      clear hpc hbp
      have BE3 := Lib.hid (Below.refl y3.heap.size y3)
      have hg2 : decide ((p.length : Int) ≤ (z.length : Int)) = false := decide_eq_false (by omega)
      have hg3 : decide (p.length ≤ z.length) = false := decide_eq_false (by omega)
      have hsub : IntKind.i64.wrap ((p.length : Int) - (z.length : Int)) = (d : Int) := by rw [IntWalk.i64_in _ (by omega)]; omega
      have hdp : d ≤ p.length := by omega
      have V1 : Hid (∀ w', Below y3.heap.size y3 w' → (convert 44 9 (.slice (if cp = d then some ⟨bp, op, none⟩ else some ⟨bp, op + d, none⟩) (p.length - d) (cp - d))).run Try.prog w' = .ok (.string (str z)) w') := Lib.hid fun w' h => by
        have := str_of_bs (cp - d) ((bs_cut HBP.out HEZ.out hdp hcp).keep h)
        rwa [show z.length = p.length - d by omega] at this
      have V2 : Hid (∀ w', Below y3.heap.size y3 w' → (convert 44 9 (.slice aq z.length cq)).run Try.prog w' = .ok (.string (str z)) w') := Lib.hid fun w' h => str_of_bs cq (HBQ.out.keep h)
      have hzz : ((str z).toList != (str z).toList) = false := by simp
      go_wp2
      refine wp_region_held_drew (S := fun w' => Below y3.drew.heap.size y3.drew w') (by kernel_rfl) (Below.refl _ _) (fun hH0 => ?_)
      have B0 := Lib.hid (below_drews BE3.out 1)
      change Hid (Below _ _ y3.drew) at B0
      generalize y3.drew = x0 at *
      have V1x := Lib.hid (fun (w' : World) (h : Below x0.heap.size x0 w') => V1.out w' (B0.out.trans (h.mono B0.out.size)))
      have V2x := Lib.hid (fun (w' : World) (h : Below x0.heap.size x0 w') => V2.out w' (B0.out.trans (h.mono B0.out.size)))
      refine held_take (i := 0) (d := 42) (oi := _) (v := ?_) rfl rfl (by kernel_rfl) (by kernel_rfl) (by kernel_rfl) (fun _ _ _ h => h) (Or.inl ⟨by rfl, ?_⟩) (by assumption) ?_
      rotate_left
      · (intro w hSw; clear hSw; go_simp; (try with_reducible rfl))
      simp only [Act.put, List.setIfInBounds_toArray, List.set_cons_zero, List.set_cons_succ]
      refine held_take (i := 1) (d := 43) (oi := _) (v := ?_) rfl rfl (by kernel_rfl) (by kernel_rfl) (by kernel_rfl) (fun _ _ _ h => h) (Or.inl ⟨by rfl, ?_⟩) (by assumption) ?_
      rotate_left
      · (intro w hSw; clear hSw; go_simp; (try with_reducible rfl))
      simp only [Act.put, List.setIfInBounds_toArray, List.set_cons_zero, List.set_cons_succ]
      refine held_take (i := 2) (d := 44) (oi := _) (v := ?_) rfl rfl (by kernel_rfl) (by kernel_rfl) (by kernel_rfl) (fun _ _ _ h => h) (Or.inl ⟨by rfl, ?_⟩) (by assumption) ?_
      rotate_left
      · (intro w hSw; clear hSw; go_simp; (try with_reducible rfl))
      simp only [Act.put, List.setIfInBounds_toArray, List.set_cons_zero, List.set_cons_succ]
      refine held_take (i := 3) (d := 45) (oi := _) (v := ?_) rfl rfl (by kernel_rfl) (by kernel_rfl) (by kernel_rfl) (fun _ _ _ h => h) (Or.inl ⟨by rfl, ?_⟩) (by assumption) ?_
      rotate_left
      · (intro w hSw; clear hSw; go_simp; (try with_reducible rfl))
      simp only [Act.put, List.setIfInBounds_toArray, List.set_cons_zero, List.set_cons_succ]
      refine held_take (i := 4) (d := 46) (oi := _) (v := ?_) rfl rfl (by kernel_rfl) (by kernel_rfl) (by kernel_rfl) (fun _ _ _ h => h) (Or.inl ⟨by rfl, ?_⟩) (by assumption) ?_
      rotate_left
      · (intro w hSw; clear hSw; go_simp; (try with_reducible rfl))
      simp only [Act.put, List.setIfInBounds_toArray, List.set_cons_zero, List.set_cons_succ]
      refine held_take (i := 5) (d := 47) (oi := _) (v := ?_) rfl rfl (by kernel_rfl) (by kernel_rfl) (by kernel_rfl) (fun _ _ _ h => h) (Or.inl ⟨by rfl, ?_⟩) (by assumption) ?_
      rotate_left
      · (intro w hSw; clear hSw; go_simp; (try with_reducible rfl))
      simp only [Act.put, List.setIfInBounds_toArray, List.set_cons_zero, List.set_cons_succ]
      refine held_take (i := 6) (d := 48) (oi := _) (v := ?_) rfl rfl (by kernel_rfl) (by kernel_rfl) (by kernel_rfl) (fun _ _ _ h => h) (Or.inl ⟨by rfl, ?_⟩) (by assumption) ?_
      rotate_left
      · (intro w hSw; clear hSw; go_simp; (try with_reducible rfl))
      simp only [Act.put, List.setIfInBounds_toArray, List.set_cons_zero, List.set_cons_succ]
      refine held_take (i := 7) (d := 49) (oi := _) (v := ?_) rfl rfl (by kernel_rfl) (by kernel_rfl) (by kernel_rfl) (fun _ _ _ h => h) (Or.inl ⟨by rfl, ?_⟩) (by assumption) ?_
      rotate_left
      · (intro w hSw; clear hSw; go_simp; (try with_reducible rfl))
      simp only [Act.put, List.setIfInBounds_toArray, List.set_cons_zero, List.set_cons_succ]
      refine held_take (i := 8) (d := 50) (oi := _) (v := ?_) rfl rfl (by kernel_rfl) (by kernel_rfl) (by kernel_rfl) (fun _ _ _ h => h) (Or.inl ⟨by rfl, ?_⟩) (by assumption) ?_
      rotate_left
      · (intro w hSw; clear hSw; go_simp; (try with_reducible rfl))
      simp only [Act.put, List.setIfInBounds_toArray, List.set_cons_zero, List.set_cons_succ]
      refine held_take (i := 9) (d := 51) (oi := _) (v := ?_) rfl rfl (by kernel_rfl) (by kernel_rfl) (by kernel_rfl) (fun _ _ _ h => h) (Or.inl ⟨by rfl, ?_⟩) (by assumption) ?_
      rotate_left
      · (intro w hSw; clear hSw; go_simp; (try with_reducible rfl))
      simp only [Act.put, List.setIfInBounds_toArray, List.set_cons_zero, List.set_cons_succ]
      refine held_take (i := 10) (d := 52) (oi := _) (v := ?_) rfl rfl (by kernel_rfl) (by kernel_rfl) (by kernel_rfl) (fun _ _ _ h => h) (Or.inl ⟨by rfl, ?_⟩) (by assumption) ?_
      rotate_left
      · (intro w hSw; clear hSw; go_simp; (try with_reducible rfl))
      simp only [Act.put, List.setIfInBounds_toArray, List.set_cons_zero, List.set_cons_succ]
      refine held_take (i := 11) (d := 53) (oi := _) (v := ?_) rfl rfl (by kernel_rfl) (by kernel_rfl) (by kernel_rfl) (fun _ _ _ h => h) (Or.inl ⟨by rfl, ?_⟩) (by assumption) ?_
      rotate_left
      · (intro w hSw; clear hSw; go_simp; (try with_reducible rfl))
      simp only [Act.put, List.setIfInBounds_toArray, List.set_cons_zero, List.set_cons_succ]
      refine held_take (i := 12) (d := 54) (oi := _) (v := ?_) rfl rfl (by kernel_rfl) (by kernel_rfl) (by kernel_rfl) (fun _ _ _ h => h) (Or.inl ⟨by rfl, ?_⟩) (by assumption) ?_
      rotate_left
      · (intro w hSw; clear hSw; go_simp; (try with_reducible rfl))
      simp only [Act.put, List.setIfInBounds_toArray, List.set_cons_zero, List.set_cons_succ]
      refine held_take (i := 13) (d := 55) (oi := _) (v := ?_) rfl rfl (by kernel_rfl) (by kernel_rfl) (by kernel_rfl) (fun _ _ _ h => h) (Or.inl ⟨by rfl, ?_⟩) (by assumption) ?_
      rotate_left
      · (intro w hSw; clear hSw; go_simp; (try with_reducible rfl))
      simp only [Act.put, List.setIfInBounds_toArray, List.set_cons_zero, List.set_cons_succ]
      refine held_take (i := 14) (d := 56) (oi := _) (v := ?_) rfl rfl (by kernel_rfl) (by kernel_rfl) (by kernel_rfl) (fun _ _ _ h => h) (Or.inl ⟨by rfl, ?_⟩) (by assumption) ?_
      rotate_left
      · (intro w hSw; clear hSw; go_simp; (try with_reducible rfl))
      simp only [Act.put, List.setIfInBounds_toArray, List.set_cons_zero, List.set_cons_succ]
      refine held_take (i := 15) (d := 57) (oi := _) (v := ?_) rfl rfl (by kernel_rfl) (by kernel_rfl) (by kernel_rfl) (fun _ _ _ h => h) (Or.inl ⟨by rfl, ?_⟩) (by assumption) ?_
      rotate_left
      · (intro w hSw; clear hSw; go_simp; (try with_reducible rfl))
      simp only [Act.put, List.setIfInBounds_toArray, List.set_cons_zero, List.set_cons_succ]
      refine held_take (i := 16) (d := 58) (oi := _) (v := ?_) rfl rfl (by kernel_rfl) (by kernel_rfl) (by kernel_rfl) (fun _ _ _ h => h) (Or.inl ⟨by rfl, ?_⟩) (by assumption) ?_
      rotate_left
      · (intro w hSw; clear hSw; go_simp; (try with_reducible rfl))
      simp only [Act.put, List.setIfInBounds_toArray, List.set_cons_zero, List.set_cons_succ]
      refine held_take (i := 17) (d := 59) (oi := _) (v := ?_) rfl rfl (by kernel_rfl) (by kernel_rfl) (by kernel_rfl) (fun _ _ _ h => h) (Or.inl ⟨by rfl, ?_⟩) (by assumption) ?_
      rotate_left
      · (intro w hSw; have hcvw := V1x.out w hSw; clear hSw; go_simp; (try with_reducible rfl))
      simp only [Act.put, List.setIfInBounds_toArray, List.set_cons_zero, List.set_cons_succ]
      refine held_take (i := 18) (d := 60) (oi := _) (v := ?_) rfl rfl (by kernel_rfl) (by kernel_rfl) (by kernel_rfl) (fun _ _ _ h => h) (Or.inl ⟨by rfl, ?_⟩) (by assumption) ?_
      rotate_left
      · (intro w hSw; clear hSw; go_simp; (try with_reducible rfl))
      simp only [Act.put, List.setIfInBounds_toArray, List.set_cons_zero, List.set_cons_succ]
      refine held_take (i := 19) (d := 61) (oi := _) (v := ?_) rfl rfl (by kernel_rfl) (by kernel_rfl) (by kernel_rfl) (fun _ _ _ h => h) (Or.inl ⟨by rfl, ?_⟩) (by assumption) ?_
      rotate_left
      · (intro w hSw; have hcvw := V2x.out w hSw; clear hSw; go_simp; (try with_reducible rfl))
      simp only [Act.put, List.setIfInBounds_toArray, List.set_cons_zero, List.set_cons_succ]
      refine held_take (i := 20) (d := 62) (oi := _) (v := ?_) rfl rfl (by kernel_rfl) (by kernel_rfl) (by kernel_rfl) (fun _ _ _ h => h) (Or.inl ⟨by rfl, ?_⟩) (by assumption) ?_
      rotate_left
      · (intro w hSw; clear hSw; go_simp; (try with_reducible rfl))
      simp only [Act.put, List.setIfInBounds_toArray, List.set_cons_zero, List.set_cons_succ]
      refine held_take (i := 21) (d := 63) (oi := _) (v := ?_) rfl rfl (by kernel_rfl) (by kernel_rfl) (by kernel_rfl) (fun _ _ _ h => h) (Or.inl ⟨by rfl, ?_⟩) (by assumption) ?_
      rotate_left
      · (intro w hSw; clear hSw; go_simp; (try with_reducible rfl))
      simp only [Act.put, List.setIfInBounds_toArray, List.set_cons_zero, List.set_cons_succ]
      refine wpAnyH_done (by kernel_rfl) ?_ _
      clear V1x V2x
      clear V1 V2
      generalize (if cp = d then (some ⟨bp, op, none⟩ : Option Addr) else some ⟨bp, op + d, none⟩) = AD at *
      have HB0 := Lib.hid (C3.out.trans (B0.out.mono C3.out.size))
      have HBP0 := Lib.hid ((HBP.out.keep B0.out).more B0.out.size)
      clear hsub hzz hdp hg2 hg3 HBP HBQ HEZ BE3 hH0
      go_wp2
      go_loop [12] (fun v => ∃ j : Nat, z.length + 1 ≤ j ∧ j ≤ p.length ∧ v = .int .i64 (j : Int)) (fun v => p.length - (intOf v).toNat)
      case atStart => exact ⟨z.length + 1, Nat.le_refl _, by omega, by go_num⟩
      case round =>
        obtain ⟨j, hj1, hj2, rfl⟩ := hrel
        by_cases hjl : j < p.length
        · obtain ⟨e, he⟩ : ∃ e, e = p.length - j := ⟨_, rfl⟩
          have hjk : (j : Int) < (p.length : Int) := by omega
          have hsub2 : (p.length : Int) - (j : Int) = (e : Int) := by omega
          have hep : e ≤ p.length := by omega
          have hce : ¬ cp = e := by omega
          have HNE : Hid (place ps (p.drop e) < 0) := Lib.hid ((place_neg _ _).2 (HNO.out e (by omega) (by omega)))
          have hbe := bs_cut (d := e) HBP0.out rfl hep hcp
          rw [if_neg hce] at hbe
          have HF : Hid (Calls Try.prog 24 #[.pointer (some ⟨t, 0, none⟩), .slice (some ⟨bp, op + e, none⟩) (p.length - e) (cp - e)] x0 fun e' w' => e' = .returned (.int .i64 (place ps (p.drop e))) ∧ x0 = w') := Lib.hid (by
            have := find_any x0 s t ps l (HT.out _ HB0.out) (p.drop e) _ (cp - e) _ hbe (by simp; omega)
            rwa [List.length_drop] at this)
          have hn0 := HNE.out
          clear hbe he HNE
          generalize place ps (p.drop e) = Z at *
          go_wp2_with (go_at_call 24; (with_reducible refine HF.out.mono ?_); rintro e' y ⟨rfl, rfl⟩)
          exact ⟨⟨j + 1, by omega, by omega, by go_num⟩, by simp [intOf]; omega⟩
        · have hjk : ¬ (j : Int) < (p.length : Int) := by omega
          go_wp2
          exact ⟨⟨k + 1, by omega, by omega, by go_num, HB0.out⟩, by simp [intOf]; omega⟩
    · obtain rfl : k = ps.length := by omega
      have hkl : ¬ (ps.length : Int) < (ps.length : Int) := by omega
      have HF0 : Hid (∀ X, Below W1.heap.size W1 X → Calls Try.prog 13 #[.pointer (some ⟨x, 0, none⟩), .int .i64 0] X fun e w' => e = .returned (.int .i64 (-1)) ∧ Below X.heap.size X w') := Lib.hid fun X hX => by
        have := fail_any X s2 x ps l (HL.out _ hX) ((0 : Nat) : Int)
        rw [lkAt_in l hpos, HW.out.at0] at this
        exact this
      have HBE := Lib.hid hbel
      clear hbel
      go_wp2_with (first
        | (go_at_call 22; (with_reducible refine (HN.out _ HBE.out).mono ?_); rintro e y0 ⟨rfl, rfl⟩)
        | (go_at_call 13; (with_reducible refine (HF0.out _ HBE.out).mono ?_); rintro e y1 ⟨rfl, hb⟩; have C1 := Lib.hid (HBE.out.trans (hb.mono HBE.out.size)); clear hb))
      go_ret
      exact ⟨rfl, HB.out.trans (C1.out.mono HB.out.size)⟩
set_option maxRecDepth 100000 in
set_option maxHeartbeats 8000000 in
theorem walk (w : World) (xs : List TxV) (a0 : Option Addr) (cap0 : Nat) (hz0 : xs.length ≤ 6000000000000) (hx0 : ∀ x ∈ xs, x.text.length ≤ maxLen) (hts : Ts w a0 xs) :
    Calls Try.prog 5 #[.slice a0 xs.length cap0] w fun e w' => e = .returned (.bool true) ∧ Below w.heap.size w w' := by
  by_cases hall : xs.length ≤ 12 ∧ (∀ x ∈ xs, x.text.length ≤ 40)
  · exact small w xs a0 cap0 hts hall.1 hall.2
  · have HALL := Lib.hid hall
    have HX := Lib.hid hx0
    clear hall hx0
    go_enter Try.func5, Try.ntmps5
    go_wp2_with fail
    refine (awake_any _).mono ?_
    rintro e' w1 ⟨rfl, hb2⟩
    have ts1 := hts.keep hb2
    go_wp2_with fail
    refine (ltexts_any xs a0 cap0 w1 ts1 hz0 HX.out).mono ?_
    rintro e' w2 ⟨hb3, hcase⟩
    have B2 := hb2.trans (hb3.mono hb2.size)
    rcases hcase with ⟨_, rfl⟩ | ⟨hok, aL, cL, rfl, _⟩
    · go_wp2
      go_ret
      exact ⟨rfl, B2⟩
    · have h12 : ¬ xs.length ≤ 12 := fun h => HALL.out ⟨h, hok⟩
      rw [decide_eq_false h12]
      clear HALL hok
      go_wp2
      go_ret
      exact ⟨rfl, B2⟩
end Go.Proofs.Ytcknipokplomcaa.linksShort
