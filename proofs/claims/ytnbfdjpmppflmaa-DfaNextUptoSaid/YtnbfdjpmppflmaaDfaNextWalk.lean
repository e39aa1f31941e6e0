/- The walk of DfaNext. -/
import Derived.Test.YtnbfdjpmppflmaaDj
namespace Go.Proofs.Ytnbfdjpmppflmaa.dfaNext
open Go.Proofs.Ytnbfdjpmppflmaa.Tri Go.Proofs.Ytnbfdjpmppflmaa.Lnk Go.Proofs.Ytnbfdjpmppflmaa.Prs Go.Proofs.Ytnbfdjpmppflmaa.Reg Go.Proofs.Ytnbfdjpmppflmaa.Dfa Go.RowKit Go.Maps
set_option maxRecDepth 100000
set_option linter.unusedVariables false
attribute [local go_sem ↓] Met.eql_counts
theorem flat_tot : ∀ l : List (List UInt8), l.flatten.length = tot l
  | [] => rfl
  | x :: l => by rw [List.flatten_cons, List.length_append, flat_tot l]; rfl

set_option maxHeartbeats 8000000 in
theorem small (w : World) (xs : List TxV) (a0 : Option Addr) (cap0 : Nat) (hts : Ts w a0 xs) (h0 : xs.length ≤ 12) (hx : ∀ x ∈ xs, x.text.length ≤ 40) (n : Int) (c : UInt8) :
    Calls Try.prog 4 #[.slice a0 xs.length cap0, .int .i64 n, .int .u8 (c.toNat : Int)] w fun e w' => e = .returned (.bool true) ∧ Below w.heap.size w w' := by
  have hx' : ∀ x ∈ xs, x.text.length ≤ maxLen := fun x h => Nat.le_trans (hx x h) (by unfold maxLen; omega)
  have htot := Spa.few_tot h0 hx
  have HX := Lib.hid hx
  have HX' := Lib.hid hx'
  have HAW := Lib.hid (Dfa.awake_any w)
  clear hx hx'
  go_enter Try.func4, Try.ntmps4
  go_wp2_with fail
  refine HAW.out.mono ?_
  rintro e' w1 ⟨rfl, hb2⟩
  have ts1 := hts.keep hb2
  go_wp2_with fail
  refine (ltexts_any xs a0 cap0 w1 ts1 (by omega) HX'.out).mono ?_
  rintro e' w2 ⟨hb3, hcase⟩
  rcases hcase with ⟨hbad, _⟩ | ⟨_, aL, cL, rfl, hsL⟩
  · exact absurd HX.out hbad
  rw [decide_eq_true h0]
  have HTS := Lib.hid (ts1.keep hb3)
  have HB := Lib.hid (hb2.trans (hb3.mono hb2.size))
  have hszw := HB.out.size
  obtain ⟨l, hl⟩ : ∃ l, l = xs.map TxV.text := ⟨_, rfl⟩
  have HNEW : Hid ((paths l).length ≤ 160 → ∀ X, Below w2.heap.size w2 X → Calls Try.prog 13 #[.slice a0 xs.length cap0] X (GivesDt X l)) := Lib.hid fun hn X hX => by
    have := dnew_any X xs a0 cap0 (HTS.out.keep hX) (by omega) (by omega) (fun x h => Nat.le_trans (HX.out x h) (by omega)) (by rw [← hl]; exact hn)
    rwa [← hl] at this
  have HOVER : Hid (160 < (paths l).length → ∀ X, Below w2.heap.size w2 X → Calls Try.prog 13 #[.slice a0 xs.length cap0] X (GivesNone X)) := Lib.hid fun hn X hX =>
    dnew_over X xs a0 cap0 (HTS.out.keep hX) (by omega) (by omega) (by rw [← hl]; exact hn)
  have HLN : Hid (xs.length = l.length) := Lib.hid (by rw [hl]; simp)
  have HLL := Lib.hid hl
  have HL40 : Hid (∀ x ∈ l, x.length ≤ 40) := Lib.hid fun x h => by
    rw [hl] at h
    obtain ⟨y, hy, rfl⟩ := List.mem_map.1 h
    exact HX.out y hy
  rw [← hl] at hsL htot
  have HSL := Lib.hid hsL
  have HPT : Hid (∀ X, Below w2.heap.size w2 X → Calls Try.prog 14 #[.slice aL xs.length cL] X (GivesSs X (paths l))) := Lib.hid fun X hX => by
    have := paths_any X l aL cL (HSL.out.keep hX) (by rw [← HLN.out]; omega) (by omega)
    rwa [← HLN.out] at this
  have hps : (paths l).length ≤ 481 := by have := paths_len l; omega
  have HW := Lib.hid (paths_wf l)
  clear HAW hb2 hb3 ts1 hsL hts hl HX'
  go_wp2_with fail
  refine (HPT.out w2 (Below.refl _ _)).mono ?_
  rintro e3 w3 ⟨aP, cP, rfl, hsP, b3⟩
  have HSP := Lib.hid hsP
  have HB3 := Lib.hid b3
  clear hsP b3 HPT HX HTS HOVER
  by_cases hn : (paths l).length ≤ 160
  · have hn2 : ¬ (160 : Int) < ((paths l).length : Int) := by omega
    have HN := Lib.hid (HNEW.out hn w3 HB3.out)
    clear HNEW
    go_wp2_with fail
    refine HN.out.mono ?_
    rintro e5 w5 ⟨t, rfl, hD, b5⟩
    have HD := Lib.hid hD
    have HB5 := Lib.hid (HB3.out.trans (b5.mono HB3.out.size))
    have HSP5 := Lib.hid (HSP.out.keep b5)
    clear hD b5 HN HSP
    have HST := Lib.hid (dstates_at w5 _ t l HD.out)
    have HWI := Lib.hid (dwidth_at w5 _ t l HD.out)
    have HRL : Hid (Calls Try.prog 21 #[.slice aL xs.length cL] w5 fun e w' => e = .returned (.int .i64 ((Cls.cnt (Cls.stands l) : Int) + 1)) ∧ Below w5.heap.size w5 w') := Lib.hid (by
      have := Cls.rlen_any l aL cL w5 (HSL.out.keep HB5.out) (by rw [← HLN.out]; omega) (by rw [flat_tot]; omega)
      rwa [← HLN.out] at this)
    have hd : ∀ p ∈ paths l, p.length ≤ 100000 := fun p hp => by
      rcases (paths_mem l p).1 hp with rfl | ⟨x, hx, r, e⟩
      · simp
      · have := HL40.out x hx
        rw [← e, List.length_append] at this
        omega
    have HRN := Lib.hid (fun X (hX : Below w5.heap.size w5 X) => rnext_any X (paths l) aP cP (HSP5.out.keep hX) (by omega) hd n c)
    have HNX := Lib.hid (fun X (hX : Below w5.heap.size w5 X) => dnext_at X _ t l (HD.out.keep hX) n c)
    have HPA := Lib.hid (fun X (hX : Below w5.heap.size w5 X) => dpath_at X _ t l (HD.out.keep hX) n)
    have hself : ((nextOf (paths l) n c) == (nextOf (paths l) n c)) = true := beq_self_eq_true _
    have hwself : ((((Cls.cnt (Cls.stands l) : Int) + 1)) == ((Cls.cnt (Cls.stands l) : Int) + 1)) = true := beq_self_eq_true _
    clear hd HSL HW HL40
    generalize nextOf (paths l) n c = y at *
    go_wp2_with (first
      | (go_at_call 19; (with_reducible refine HST.out.mono ?_); rintro e6 w6 ⟨rfl, rfl⟩)
      | (go_at_call 20; (with_reducible refine HWI.out.mono ?_); rintro e6 w6 ⟨rfl, rfl⟩)
      | (go_at_call 21; (with_reducible refine HRL.out.mono ?_); rintro e6 w6 ⟨rfl, b6⟩; have HB6 := Lib.hid b6; clear b6))
    go_wp2_with fail
    refine (HNX.out _ HB6.out).mono ?_
    rintro e7 w7 ⟨rfl, q7, rfl⟩
    have HB7 := Lib.hid (below_drews HB6.out q7)
    clear HNX HB6
    generalize w6.drewN q7 = w7 at *
    go_wp2_with fail
    refine (HRN.out _ HB7.out).mono ?_
    rintro e8 w8 ⟨rfl, b8⟩
    have HB8 := Lib.hid (HB7.out.trans (b8.mono HB7.out.size))
    have HPC := Lib.hid (HPA.out _ HB8.out)
    clear HRN HB7 b8 HPA HST HWI HRL
    have HBZ := Lib.hid (HB.out.trans ((HB5.out.trans (HB8.out.mono HB5.out.size)).mono hszw))
    by_cases hin : 0 ≤ n ∧ n < (paths l).length
    · obtain ⟨i, rfl⟩ : ∃ i : Nat, n = (i : Int) := ⟨n.toNat, by omega⟩
      have hi : i < (paths l).length := by omega
      have hil : (i : Int) < ((paths l).length : Int) := by omega
      have hil2 : ¬ (((paths l).length : Int) ≤ (i : Int)) := by omega
      rw [pathD_at hi] at HPC
      obtain ⟨bP, oP, rfl, hbP, hcP⟩ := (HSP5.out.keep HB8.out) (by omega)
      have hcell := hcP i hi
      have hself2 : ((str (paths l)[i]).toList == (str (paths l)[i]).toList) = true := beq_self_eq_true _
      have HB80 : Hid (Below w8.heap.size w8 w8) := Lib.hid (Below.refl _ _)
      have HLP : Hid (∀ X, Below w8.heap.size w8 X → X.cell? ⟨bP, oP + i, none⟩ = some (.string (str (paths l)[i]))) := Lib.hid fun X hX => (hX.cell (p := ⟨bP, oP + i, none⟩) hbP).trans hcell
      have HPC2 : Hid (∀ X, Below w8.heap.size w8 X → Calls Try.prog 24 #[.pointer (some ⟨t, 0, none⟩), .int .i64 (i : Int)] X (GivesText X (paths l)[i])) := Lib.hid fun X hX => by
        have := dpath_at X _ t l ((HD.out.keep HB8.out).keep hX) (i : Int)
        rwa [pathD_at hi] at this
      clear hcP hin hcell hbP HPC HSP5 HD
      generalize (paths l)[i] = p at *
      go_wp2_with fail
      refine wp_region_held_drew (S := fun w' => Below w8.drew.heap.size w8.drew w') (by kernel_rfl) (Below.refl _ _) (fun hH0 => ?_)
      have B0 := Lib.hid (below_drews HB80.out 1)
      change Hid (Below _ _ w8.drew) at B0
      generalize w8.drew = x0 at *
      refine held_take (i := 0) (d := 75) (oi := _) (v := ?_) rfl rfl (by kernel_rfl) (by kernel_rfl) (by kernel_rfl) (fun _ _ _ h => h) (Or.inl ⟨by rfl, ?_⟩) (by assumption) ?_
      rotate_left
      · (intro w hSw; clear hSw; go_simp; (try with_reducible rfl))
      simp only [Act.put, List.setIfInBounds_toArray, List.set_cons_zero, List.set_cons_succ]
      refine held_take (i := 1) (d := 76) (oi := _) (v := ?_) rfl rfl (by kernel_rfl) (by kernel_rfl) (by kernel_rfl) (fun _ _ _ h => h) (Or.inl ⟨by rfl, ?_⟩) (by assumption) ?_
      rotate_left
      · (intro w hSw; clear hSw; go_simp; (try with_reducible rfl))
      simp only [Act.put, List.setIfInBounds_toArray, List.set_cons_zero, List.set_cons_succ]
      refine held_take (i := 4) (d := 79) (oi := _) (v := ?_) rfl rfl (by kernel_rfl) (by kernel_rfl) (by kernel_rfl) (fun _ _ _ h => h) (Or.inl ⟨by rfl, ?_⟩) (by assumption) ?_
      rotate_left
      · (intro w hSw; clear hSw; go_simp; (try with_reducible rfl))
      simp only [Act.put, List.setIfInBounds_toArray, List.set_cons_zero, List.set_cons_succ]
      refine held_take (i := 5) (d := 80) (oi := _) (v := ?_) rfl rfl (by kernel_rfl) (by kernel_rfl) (by kernel_rfl) (fun _ _ _ h => h) (Or.inl ⟨by rfl, ?_⟩) (by assumption) ?_
      rotate_left
      · (intro w hSw; clear hSw; go_simp; (try with_reducible rfl))
      simp only [Act.put, List.setIfInBounds_toArray, List.set_cons_zero, List.set_cons_succ]
      refine held_take (i := 6) (d := 81) (oi := _) (v := ?_) rfl rfl (by kernel_rfl) (by kernel_rfl) (by kernel_rfl) (fun _ _ _ h => h) (Or.inl ⟨by rfl, ?_⟩) (by assumption) ?_
      rotate_left
      · (intro w hSw; clear hSw; go_simp; (try with_reducible rfl))
      simp only [Act.put, List.setIfInBounds_toArray, List.set_cons_zero, List.set_cons_succ]
      refine held_take (i := 7) (d := 82) (oi := _) (v := ?_) rfl rfl (by kernel_rfl) (by kernel_rfl) (by kernel_rfl) (fun _ _ _ h => h) (Or.inl ⟨by rfl, ?_⟩) (by assumption) ?_
      rotate_left
      · (intro w hSw; have hld := HLP.out w (B0.out.trans (hSw.mono B0.out.size)); clear hSw; go_simp; (try with_reducible rfl))
      simp only [Act.put, List.setIfInBounds_toArray, List.set_cons_zero, List.set_cons_succ]
      refine wpAnyH_ready (rs := [2]) (by kernel_rfl) (by simp) ?_
      refine AllReadyH.cons rfl (fun K hK => ?_) AllReadyH.nil
      go_simp
      go_wp2_with (go_at_call 24; (with_reducible refine (HPC2.out _ B0.out).mono ?_); rintro e x1 ⟨aTX, cTX, rfl, htx, _, _, hb⟩)
      have TX := Lib.hid (fun (w' : World) (h : Below x1.heap.size x1 w') => str_of_bs cTX (htx.bs.keep h))
      clear htx
      refine hK.out _ _ hb (fun _ => ?_)
      have B1 := Lib.hid (B0.out.trans (hb.mono B0.out.size))
      refine wpAnyH_more (S' := fun w' => Below x1.heap.size x1 w') (fun w' h => hb.trans (h.mono hb.size)) _ _ _ _ ?_
      have hH1 : Below x1.heap.size x1 x1 := Below.refl _ _
      clear hK K hH0 hb B0
      refine held_take (i := 3) (d := 78) (oi := _) (v := ?_) rfl rfl (by kernel_rfl) (by kernel_rfl) (by kernel_rfl) (fun _ _ _ h => h) (Or.inl ⟨by rfl, ?_⟩) (by assumption) ?_
      rotate_left
      · (intro w hSw; have hcvw := TX.out w hSw; clear hSw; go_simp; (try with_reducible rfl))
      simp only [Act.put, List.setIfInBounds_toArray, List.set_cons_zero, List.set_cons_succ]
      refine held_take (i := 8) (d := 83) (oi := _) (v := ?_) rfl rfl (by kernel_rfl) (by kernel_rfl) (by kernel_rfl) (fun _ _ _ h => h) (Or.inl ⟨by rfl, ?_⟩) (by assumption) ?_
      rotate_left
      · (intro w hSw; clear hSw; go_simp; (try with_reducible rfl))
      simp only [Act.put, List.setIfInBounds_toArray, List.set_cons_zero, List.set_cons_succ]
      refine held_take (i := 9) (d := 6) (oi := _) (v := ?_) rfl rfl (by kernel_rfl) (by kernel_rfl) (by kernel_rfl) (fun _ _ _ h => h) (Or.inl ⟨by rfl, ?_⟩) (by assumption) ?_
      rotate_left
      · (intro w hSw; clear hSw; go_simp; (try with_reducible rfl))
      simp only [Act.put, List.setIfInBounds_toArray, List.set_cons_zero, List.set_cons_succ]
      refine wpAnyH_done (by kernel_rfl) ?_ _
      go_wp2
      go_ret
      exact ⟨rfl, HBZ.out.trans (B1.out.mono HBZ.out.size)⟩
    · rw [pathD_none hin] at HPC
      have hlen0 : ([] : List UInt8).length = 0 := rfl
      by_cases hneg : n < 0
      · clear hin
        go_wp2_with (go_at_call 24; (with_reducible refine HPC.out.mono ?_); rintro e9 w9 ⟨a9, c9, rfl, _, _, _, b9⟩)
        go_ret
        exact ⟨rfl, HBZ.out.trans (b9.mono HBZ.out.size)⟩
      · have hge : ((paths l).length : Int) ≤ n := by omega
        have hn0 : 0 ≤ n := by omega
        clear hin hneg
        go_wp2_with (go_at_call 24; (with_reducible refine HPC.out.mono ?_); rintro e9 w9 ⟨a9, c9, rfl, _, _, _, b9⟩)
        go_ret
        exact ⟨rfl, HBZ.out.trans (b9.mono HBZ.out.size)⟩
  · have hn2 : (160 : Int) < ((paths l).length : Int) := by omega
    go_wp2
    go_ret
    exact ⟨rfl, HB.out.trans (HB3.out.mono hszw)⟩
set_option maxHeartbeats 8000000 in
theorem walk (w : World) (xs : List TxV) (a0 : Option Addr) (cap0 : Nat) (hz0 : xs.length ≤ 1048576) (hx0 : ∀ x ∈ xs, x.text.length ≤ maxLen) (hts : Ts w a0 xs) (n : Int) (c : UInt8) :
    Calls Try.prog 4 #[.slice a0 xs.length cap0, .int .i64 n, .int .u8 (c.toNat : Int)] w fun e w' => e = .returned (.bool true) ∧ Below w.heap.size w w' := by
  by_cases hall : xs.length ≤ 12 ∧ (∀ x ∈ xs, x.text.length ≤ 40)
  · exact small w xs a0 cap0 hts hall.1 hall.2 n c
  · have HALL := Lib.hid hall
    have HX := Lib.hid hx0
    clear hall hx0
    go_enter Try.func4, Try.ntmps4
    go_wp2_with fail
    refine (Dfa.awake_any _).mono ?_
    rintro e' w1 ⟨rfl, hb2⟩
    have ts1 := hts.keep hb2
    go_wp2_with fail
    refine (ltexts_any xs a0 cap0 w1 ts1 (by omega) HX.out).mono ?_
    rintro e' w2 ⟨hb3, hcase⟩
    have B2 := hb2.trans (hb3.mono hb2.size)
    rcases hcase with ⟨_, rfl⟩ | ⟨hok, aL, cL, rfl, hsL⟩
    · have HP : Hid (Calls Try.prog 14 #[.slice none 0 0] w2 (GivesSs w2 (paths []))) := Lib.hid (paths_any w2 [] none 0 (fun h => absurd h (by simp)) (by simp) (by simp [tot]))
      go_wp2_with (go_at_call 14; (with_reducible refine HP.out.mono ?_); rintro e3 w3 ⟨aP, cP, rfl, hsP, b3⟩)
      go_ret
      exact ⟨rfl, B2.trans (b3.mono B2.size)⟩
    · have h12 : ¬ xs.length ≤ 12 := fun h => HALL.out ⟨h, hok⟩
      rw [decide_eq_false h12]
      have hl : xs.length = (xs.map TxV.text).length := by simp
      have ht := tot_le (xs.map TxV.text) 40 (fun x h => by
        obtain ⟨y, hy, rfl⟩ := List.mem_map.1 h
        exact hok y hy)
      have HP : Hid (Calls Try.prog 14 #[.slice aL xs.length cL] w2 (GivesSs w2 (paths (xs.map TxV.text)))) := Lib.hid (by
        have := paths_more w2 (xs.map TxV.text) aL cL hsL (by omega) (by omega)
        rwa [← hl] at this)
      clear HALL hok h12 hl ht hsL
      generalize paths (xs.map TxV.text) = ps at *
      go_wp2_with (go_at_call 14; (with_reducible refine HP.out.mono ?_); rintro e3 w3 ⟨aP, cP, rfl, hsP, b3⟩)
      go_ret
      exact ⟨rfl, B2.trans (b3.mono B2.size)⟩
end Go.Proofs.Ytnbfdjpmppflmaa.dfaNext
