/- The walk of BackNodes. -/
import Derived.Test.YthlpapaaodjcjaaBc
namespace Go.Proofs.Ythlpapaaodjcjaa.backNodes
open Go.Proofs.Ythlpapaaodjcjaa.Tri Go.Proofs.Ythlpapaaodjcjaa.Cwl Go.Proofs.Ythlpapaaodjcjaa.Bck Go.Proofs.Ythlpapaaodjcjaa.Reg Go.RowKit Go.Maps
set_option maxRecDepth 100000
set_option linter.unusedVariables false

set_option maxHeartbeats 8000000 in
theorem small (w : World) (xs : List TxV) (a0 : Option Addr) (cap0 : Nat) (hts : Ts w a0 xs) (h0 : xs.length ≤ 12) (hx : ∀ x ∈ xs, x.text.length ≤ 40) (n : Int) (hwn : (Lit.int .i64 n).wf = true) :
    Calls Try.prog 3 #[.slice a0 xs.length cap0, .int .i64 n] w fun e w' => e = .returned (.bool true) ∧ Below w.heap.size w w' := by
  have hx' : ∀ x ∈ xs, x.text.length ≤ maxLen := fun x h => Nat.le_trans (hx x h) (by unfold maxLen; omega)
  have htot := Spa.few_tot h0 hx
  have HX := Lib.hid hx
  have HX' := Lib.hid hx'
  have HAW := Lib.hid (Bck.awake_any w)
  clear hx hx'
  go_enter Try.func3, Try.ntmps3
  go_wp2_with fail
  refine HAW.out.mono ?_
  rintro e' w1 ⟨rfl, hb2⟩
  have ts1 := hts.keep hb2
  go_wp2_with fail
  refine (ltexts_any xs a0 cap0 w1 ts1 (by omega) HX'.out).mono ?_
  rintro e' w2 ⟨hb3, hcase⟩
  rcases hcase with ⟨hbad, _⟩ | ⟨_, aL, cL, rfl, hsL⟩
  · exact absurd HX.out hbad
  rw [decide_eq_true h0]
  have HTS := Lib.hid (ts1.keep hb3)
  have HB := Lib.hid (hb2.trans (hb3.mono hb2.size))
  have hszw := HB.out.size
  obtain ⟨l, hl⟩ : ∃ l, l = xs.map TxV.text := ⟨_, rfl⟩
  have HBU : Hid (∀ X, Below w2.heap.size w2 X → Calls Try.prog 10 #[.slice a0 xs.length cap0] X (GivesBk X l)) := Lib.hid fun X hX => by
    have := bbuild_any X xs a0 cap0 (HTS.out.keep hX) (by omega) (fun x h => Nat.le_trans (HX.out x h) (by omega))
    rwa [← hl] at this
  have HLN : Hid (xs.length = l.length) := Lib.hid (by rw [hl]; simp)
  have HLL := Lib.hid hl
  have HL40 : Hid (∀ x ∈ l, x.length ≤ 40) := Lib.hid fun x h => by
    rw [hl] at h
    obtain ⟨y, hy, rfl⟩ := List.mem_map.1 h
    exact HX.out y hy
  rw [← hl] at hsL htot
  have HSL := Lib.hid hsL
  have HTD : Hid (∀ X, Below w2.heap.size w2 X → Calls Try.prog 11 #[.slice aL xs.length cL] X (GivesSs X (turned l))) := Lib.hid fun X hX => by
    have := rturned_any X l aL cL (HSL.out.keep hX) (by rw [← HLN.out]; omega) (fun x h => Nat.le_trans (HL40.out x h) (by omega))
    rwa [← HLN.out] at this
  have HT40 : Hid (∀ x ∈ turned l, x.length ≤ 40) := Lib.hid fun x h => by
    have := HL40.out _ ((mem_turned l x).1 h).2
    rwa [List.length_reverse] at this
  have htl : (turned l).length ≤ 12 := by have := turned_len l; have := HLN.out; omega
  have htt := turned_tot l
  clear HAW hb2 hb3 ts1 hsL hts hl HX'
  go_wp2_with fail
  refine (HBU.out w2 (Below.refl _ _)).mono ?_
  rintro e w3 ⟨x, rfl, hk, hb3⟩
  have HB3 := Lib.hid hb3
  have HK := Lib.hid hk
  clear hb3 hk
  go_wp2_with fail
  refine (HTD.out w3 HB3.out).mono ?_
  rintro e w4 ⟨aT, cT, rfl, hsT, hb4⟩
  have HB4 := Lib.hid (HB3.out.trans (hb4.mono HB3.out.size))
  have HK4 := Lib.hid (HK.out.keep hb4)
  have HST := Lib.hid hsT
  clear hb4 hsT HK
  go_wp2_with fail
  refine (paths_any w4 (turned l) aT cT HST.out (by omega) (by omega)).mono ?_
  rintro e w5 ⟨aP, cP, rfl, hsP, hb5⟩
  have HB5 := Lib.hid (HB4.out.trans (hb5.mono HB4.out.size))
  have HK5 := Lib.hid (HK4.out.keep hb5)
  have HST5 := Lib.hid (HST.out.keep hb5)
  have HSP := Lib.hid hsP
  clear hb5 hsP HK4 HST
  have hps : (paths (turned l)).length ≤ 481 := by have := paths_len (turned l); omega
  have HPW := Lib.hid (paths_wf (turned l))
  have hsh : ∀ q ∈ paths (turned l), q.length ≤ 40 := fun q hq => path_short0 HT40.out hq
  obtain ⟨t, hc5, htr⟩ := HK5.out.tree
  have HTR := Lib.hid htr
  have hle := leastTo_is (l := turned l) (fun y h => List.length_pos_iff.2 ((mem_turned l y).1 h).1)
  have HLE := Lib.hid (bleast_any w5 x l HK5.out)
  have HNO := Lib.hid (nodes_any w5 _ t _ _ HTR.out)
  have HSH := Lib.hid hsh
  clear htr hsh
  obtain ⟨q, hq⟩ : ∃ q, q = turned l := ⟨_, rfl⟩
  obtain ⟨p, hp⟩ : ∃ p, p = paths q := ⟨_, rfl⟩
  have hpl : p.length ≤ 481 := by rw [hp, hq]; exact hps
  have hself : ((p.length : Int) != p.length) = false := by simp
  have hself2 : ((Cwl.leastOf q : Int) != Cwl.leastOf q) = false := by simp
  rw [← hq, ← hp] at HNO HSP HSH HTR HPW
  rw [← hq] at hle HST5 htl HT40 HLE
  have HQ := Lib.hid hq
  have HPP := Lib.hid hp
  have HLE2 := Lib.hid hle
  clear hq hp hps htt hle
  go_wp2_with fail
  rw [← HQ.out, ← HPP.out]
  refine HNO.out.mono ?_
  rintro e w5' ⟨rfl, rfl⟩
  clear HNO
  go_wp2_with fail
  refine HLE.out.mono ?_
  rintro e w6 ⟨rfl, hb6⟩
  have HB6 := Lib.hid (HB5.out.trans (hb6.mono HB5.out.size))
  have HK6 := Lib.hid (HK5.out.keep hb6)
  have HST6 := Lib.hid (HST5.out.keep hb6)
  have HSP6 := Lib.hid (HSP.out.keep hb6)
  have HTR6 := Lib.hid (HTR.out.keep hb6)
  have HX6 : Hid (w6.cell? ⟨x, 0, none⟩ = some (.pointer (some ⟨t, 0, none⟩))) := Lib.hid ((hb6.cell (p := ⟨x, 0, none⟩) (World.block_lt_of_cell? w5 _ hc5)).trans hc5)
  clear hb6 HLE HB5 HK5 HST5 HSP HTR
  have HRL := Lib.hid (rleast_any w6 q aT cT HST6.out (by omega))
  rw [HLE2.out] at HRL
  go_wp2_with fail
  refine HRL.out.mono ?_
  rintro e w6' ⟨rfl, rfl⟩
  clear HRL HLE2
  go_wp2
  have HX0 : Hid (∀ X, Below w6.heap.size w6 X → X.cell? ⟨x, 0, none⟩ = some (.pointer (some ⟨t, 0, none⟩))) := Lib.hid fun X hX => (hX.cell (p := ⟨x, 0, none⟩) (World.block_lt_of_cell? w6 _ HX6.out)).trans HX6.out
  have HWF := Lib.hid hwn
  clear hwn
  go_loopw [11] (fun v wr => ∃ k : Nat, k ≤ p.length ∧ v = .int .i64 (k : Int) ∧ Below w6.heap.size w6 wr) (fun v _ => p.length - (intOf v).toNat)
  case atStart => exact ⟨0, Nat.zero_le _, rfl, Below.refl _ _⟩
  case round =>
    obtain ⟨k, hk, rfl, hbel⟩ := hrel
    by_cases hlt : k < p.length
    · have hkl : (k : Int) < (p.length : Int) := by omega
      have h40 := HSH.out _ (List.getElem_mem hlt)
      obtain ⟨bP, oP, rfl, hbP, hcP⟩ := HSP6.out (by omega)
      have HCK : Hid (∀ X, Below w6.heap.size w6 X → X.cell? ⟨bP, oP + k, none⟩ = some (.string (str p[k]))) := Lib.hid fun X hX => (hX.cell (p := ⟨bP, oP + k, none⟩) hbP).trans (hcP k hlt)
      have HPATH : Hid (∀ X, Below w6.heap.size w6 X → Calls Try.prog 16 #[.pointer (some ⟨t, 0, none⟩), .int .i64 (k : Int)] X (GivesText X p[k])) := Lib.hid fun X hX => by
        have := path_any X _ t p q (HTR6.out.keep hX) (k : Int) (by rw [pathD_at hlt]; omega)
        rwa [pathD_at hlt] at this
      have HEND : Hid (∀ X, Below w6.heap.size w6 X → Calls Try.prog 17 #[.pointer (some ⟨x, 0, none⟩), .int .i64 (k : Int)] X (GivesText X p[k].reverse)) := Lib.hid fun X hX => by
        have := bend_any X x l (HK6.out.keep hX) (k : Int) (wf_nat (by omega) (by omega))
        rwa [← HQ.out, ← HPP.out, pathD_at hlt] at this
      have HWHO : Hid (∀ X, Below w6.heap.size w6 X → Calls Try.prog 19 #[.pointer (some ⟨x, 0, none⟩), .int .i64 (k : Int)] X fun e w' => e = .returned (.bool (decide (p[k] ∈ q))) ∧ Below X.heap.size X w') := Lib.hid fun X hX => by
        have := bwhole_any X x l (HK6.out.keep hX) (k : Int) (wf_nat (by omega) (by omega))
        rwa [← HQ.out, ← HPP.out, pathD_at hlt] at this
      have HRT := Lib.hid (fun X (_ : Below w6.heap.size w6 X) => rturn_any X p[k] (by omega))
      have HPL := Lib.hid (fun X (hX : Below w6.heap.size w6 X) => place_any X q aT cT (HST6.out.keep hX) (by omega) p[k])
      have hpn : decide (0 ≤ place q p[k]) = decide (p[k] ∈ q) := by rw [decide_eq_decide]; exact place_nonneg q p[k]
      have HBE := Lib.hid hbel
      clear hcP hbel
      generalize decide (p[k] ∈ q) = wh at *
      generalize place q p[k] = pl at *
      generalize p[k] = z at *
      have hww : (wh != wh) = false := by simp
      go_wp2_with fail
      refine wp_region_held_drew (S := fun w' => Below wr.drew.heap.size wr.drew w') (by kernel_rfl) (Below.refl _ _) (fun hH0 => ?_)
      have B0 := Lib.hid (below_drews HBE.out 1)
      change Hid (Below _ _ wr.drew) at B0
      generalize wr.drew = x0 at *
      refine held_take (i := 0) (d := 49) (oi := _) (v := ?_) rfl rfl (by kernel_rfl) (by kernel_rfl) (by kernel_rfl) (fun _ _ _ h => h) (Or.inl ⟨by rfl, ?_⟩) (by assumption) ?_
      rotate_left
      · (intro w hSw; clear hSw; go_simp; (try with_reducible rfl))
      simp only [Act.put, List.setIfInBounds_toArray, List.set_cons_zero, List.set_cons_succ]
      refine held_take (i := 1) (d := 50) (oi := _) (v := ?_) rfl rfl (by kernel_rfl) (by kernel_rfl) (by kernel_rfl) (fun _ _ _ h => h) (Or.inl ⟨by rfl, ?_⟩) (by assumption) ?_
      rotate_left
      · (intro w hSw; clear hSw; go_simp; (try with_reducible rfl))
      simp only [Act.put, List.setIfInBounds_toArray, List.set_cons_zero, List.set_cons_succ]
      refine held_take (i := 2) (d := 51) (oi := _) (v := ?_) rfl rfl (by kernel_rfl) (by kernel_rfl) (by kernel_rfl) (fun _ _ _ h => h) (Or.inl ⟨by rfl, ?_⟩) (by assumption) ?_
      rotate_left
      · (intro w hSw; clear hSw; go_simp; (try with_reducible rfl))
      simp only [Act.put, List.setIfInBounds_toArray, List.set_cons_zero, List.set_cons_succ]
      refine held_take (i := 3) (d := 52) (oi := _) (v := ?_) rfl rfl (by kernel_rfl) (by kernel_rfl) (by kernel_rfl) (fun _ _ _ h => h) (Or.inl ⟨by rfl, ?_⟩) (by assumption) ?_
      rotate_left
      · (intro w hSw; have hld := HX0.out w (B0.out.trans (hSw.mono B0.out.size)); clear hSw; go_simp; (try with_reducible rfl))
      simp only [Act.put, List.setIfInBounds_toArray, List.set_cons_zero, List.set_cons_succ]
      refine held_take (i := 4) (d := 53) (oi := _) (v := ?_) rfl rfl (by kernel_rfl) (by kernel_rfl) (by kernel_rfl) (fun _ _ _ h => h) (Or.inl ⟨by rfl, ?_⟩) (by assumption) ?_
      rotate_left
      · (intro w hSw; clear hSw; go_simp; (try with_reducible rfl))
      simp only [Act.put, List.setIfInBounds_toArray, List.set_cons_zero, List.set_cons_succ]
      refine held_take (i := 7) (d := 56) (oi := _) (v := ?_) rfl rfl (by kernel_rfl) (by kernel_rfl) (by kernel_rfl) (fun _ _ _ h => h) (Or.inl ⟨by rfl, ?_⟩) (by assumption) ?_
      rotate_left
      · (intro w hSw; clear hSw; go_simp; (try with_reducible rfl))
      simp only [Act.put, List.setIfInBounds_toArray, List.set_cons_zero, List.set_cons_succ]
      refine held_take (i := 8) (d := 57) (oi := _) (v := ?_) rfl rfl (by kernel_rfl) (by kernel_rfl) (by kernel_rfl) (fun _ _ _ h => h) (Or.inl ⟨by rfl, ?_⟩) (by assumption) ?_
      rotate_left
      · (intro w hSw; clear hSw; go_simp; (try with_reducible rfl))
      simp only [Act.put, List.setIfInBounds_toArray, List.set_cons_zero, List.set_cons_succ]
      refine held_take (i := 9) (d := 58) (oi := _) (v := ?_) rfl rfl (by kernel_rfl) (by kernel_rfl) (by kernel_rfl) (fun _ _ _ h => h) (Or.inl ⟨by rfl, ?_⟩) (by assumption) ?_
      rotate_left
      · (intro w hSw; clear hSw; go_simp; (try with_reducible rfl))
      simp only [Act.put, List.setIfInBounds_toArray, List.set_cons_zero, List.set_cons_succ]
      refine held_take (i := 10) (d := 59) (oi := _) (v := ?_) rfl rfl (by kernel_rfl) (by kernel_rfl) (by kernel_rfl) (fun _ _ _ h => h) (Or.inl ⟨by rfl, ?_⟩) (by assumption) ?_
      rotate_left
      · (intro w hSw; have hld := HCK.out w (B0.out.trans (hSw.mono B0.out.size)); clear hSw; go_simp; (try with_reducible rfl))
      simp only [Act.put, List.setIfInBounds_toArray, List.set_cons_zero, List.set_cons_succ]
      refine wpAnyH_ready (rs := [5]) (by kernel_rfl) (by simp) ?_
      refine AllReadyH.cons rfl (fun K hK => ?_) AllReadyH.nil
      go_simp
      go_wp2_with (go_at_call 16; (with_reducible refine (HPATH.out _ B0.out).mono ?_); rintro e x1 ⟨a5, c5, rfl, htx5, _, _, hb⟩)
      refine hK.out _ _ hb (fun _ => ?_)
      have B1 := Lib.hid (B0.out.trans (hb.mono B0.out.size))
      refine wpAnyH_more (S' := fun w' => Below x1.heap.size x1 w') (fun w' h => hb.trans (h.mono hb.size)) _ _ _ _ ?_
      have hH1 : Below x1.heap.size x1 x1 := Below.refl _ _
      clear hK K hH0 hb B0
      have V5 : Hid (∀ w', Below x1.heap.size x1 w' → (convert 35 9 (.slice a5 z.length c5)).run Try.prog w' = .ok (.string (str z)) w') := Lib.hid fun w' h => by
        exact str_of_bs c5 (htx5.bs.keep h)
      clear htx5
      refine held_take (i := 6) (d := 55) (oi := _) (v := ?_) rfl rfl (by kernel_rfl) (by kernel_rfl) (by kernel_rfl) (fun _ _ _ h => h) (Or.inl ⟨by rfl, ?_⟩) (by assumption) ?_
      rotate_left
      · (intro w hSw; have hcvw := V5.out w hSw; clear hSw; go_simp; (try with_reducible rfl))
      simp only [Act.put, List.setIfInBounds_toArray, List.set_cons_zero, List.set_cons_succ]
      refine held_take (i := 11) (d := 60) (oi := _) (v := ?_) rfl rfl (by kernel_rfl) (by kernel_rfl) (by kernel_rfl) (fun _ _ _ h => h) (Or.inl ⟨by rfl, ?_⟩) (by assumption) ?_
      rotate_left
      · (intro w hSw; clear hSw; go_simp; (try with_reducible rfl))
      simp only [Act.put, List.setIfInBounds_toArray, List.set_cons_zero, List.set_cons_succ]
      refine held_take (i := 12) (d := 61) (oi := _) (v := ?_) rfl rfl (by kernel_rfl) (by kernel_rfl) (by kernel_rfl) (fun _ _ _ h => h) (Or.inl ⟨by rfl, ?_⟩) (by assumption) ?_
      rotate_left
      · (intro w hSw; clear hSw; go_simp; (try with_reducible rfl))
      simp only [Act.put, List.setIfInBounds_toArray, List.set_cons_zero, List.set_cons_succ]
      refine held_take (i := 13) (d := 62) (oi := _) (v := ?_) rfl rfl (by kernel_rfl) (by kernel_rfl) (by kernel_rfl) (fun _ _ _ h => h) (Or.inl ⟨by rfl, ?_⟩) (by assumption) ?_
      rotate_left
      · (intro w hSw; clear hSw; go_simp; (try with_reducible rfl))
      simp only [Act.put, List.setIfInBounds_toArray, List.set_cons_zero, List.set_cons_succ]
      refine held_take (i := 14) (d := 63) (oi := _) (v := ?_) rfl rfl (by kernel_rfl) (by kernel_rfl) (by kernel_rfl) (fun _ _ _ h => h) (Or.inl ⟨by rfl, ?_⟩) (by assumption) ?_
      rotate_left
      · (intro w hSw; clear hSw; go_simp; (try with_reducible rfl))
      simp only [Act.put, List.setIfInBounds_toArray, List.set_cons_zero, List.set_cons_succ]
      refine held_take (i := 17) (d := 66) (oi := _) (v := ?_) rfl rfl (by kernel_rfl) (by kernel_rfl) (by kernel_rfl) (fun _ _ _ h => h) (Or.inl ⟨by rfl, ?_⟩) (by assumption) ?_
      rotate_left
      · (intro w hSw; clear hSw; go_simp; (try with_reducible rfl))
      simp only [Act.put, List.setIfInBounds_toArray, List.set_cons_zero, List.set_cons_succ]
      refine held_take (i := 18) (d := 67) (oi := _) (v := ?_) rfl rfl (by kernel_rfl) (by kernel_rfl) (by kernel_rfl) (fun _ _ _ h => h) (Or.inl ⟨by rfl, ?_⟩) (by assumption) ?_
      rotate_left
      · (intro w hSw; clear hSw; go_simp; (try with_reducible rfl))
      simp only [Act.put, List.setIfInBounds_toArray, List.set_cons_zero, List.set_cons_succ]
      refine held_take (i := 19) (d := 68) (oi := _) (v := ?_) rfl rfl (by kernel_rfl) (by kernel_rfl) (by kernel_rfl) (fun _ _ _ h => h) (Or.inl ⟨by rfl, ?_⟩) (by assumption) ?_
      rotate_left
      · (intro w hSw; clear hSw; go_simp; (try with_reducible rfl))
      simp only [Act.put, List.setIfInBounds_toArray, List.set_cons_zero, List.set_cons_succ]
      refine held_take (i := 20) (d := 69) (oi := _) (v := ?_) rfl rfl (by kernel_rfl) (by kernel_rfl) (by kernel_rfl) (fun _ _ _ h => h) (Or.inl ⟨by rfl, ?_⟩) (by assumption) ?_
      rotate_left
      · (intro w hSw; have hld := HCK.out w (B1.out.trans (hSw.mono B1.out.size)); clear hSw; go_simp; (try with_reducible rfl))
      simp only [Act.put, List.setIfInBounds_toArray, List.set_cons_zero, List.set_cons_succ]
      refine wpAnyH_ready (rs := [15]) (by kernel_rfl) (by simp) ?_
      refine AllReadyH.cons rfl (fun K hK => ?_) AllReadyH.nil
      go_simp
      go_wp2_with (go_at_call 17; (with_reducible refine (HEND.out _ B1.out).mono ?_); rintro e x2 ⟨a6, c6, rfl, htx6, _, _, hb⟩)
      refine hK.out _ _ hb (fun _ => ?_)
      have B2 := Lib.hid (B1.out.trans (hb.mono B1.out.size))
      refine wpAnyH_more (S' := fun w' => Below x2.heap.size x2 w') (fun w' h => hb.trans (h.mono hb.size)) _ _ _ _ ?_
      have hH2 : Below x2.heap.size x2 x2 := Below.refl _ _
      clear hK K hH1 hb B1
      have V6 : Hid (∀ w', Below x2.heap.size x2 w' → (convert 35 9 (.slice a6 z.length c6)).run Try.prog w' = .ok (.string (str z.reverse)) w') := Lib.hid fun w' h => by
        have := str_of_bs c6 (htx6.bs.keep h)
        rwa [List.length_reverse] at this
      clear htx6
      refine held_take (i := 16) (d := 65) (oi := _) (v := ?_) rfl rfl (by kernel_rfl) (by kernel_rfl) (by kernel_rfl) (fun _ _ _ h => h) (Or.inl ⟨by rfl, ?_⟩) (by assumption) ?_
      rotate_left
      · (intro w hSw; have hcvw := V6.out w hSw; clear hSw; go_simp; (try with_reducible rfl))
      simp only [Act.put, List.setIfInBounds_toArray, List.set_cons_zero, List.set_cons_succ]
      refine wpAnyH_ready (rs := [21]) (by kernel_rfl) (by simp) ?_
      refine AllReadyH.cons rfl (fun K hK => ?_) AllReadyH.nil
      go_simp
      go_wp2_with (go_at_call 18; (with_reducible refine (HRT.out _ B2.out).mono ?_); rintro e x' ⟨rfl, rfl⟩)
      refine hK.out _ _ hH2 (fun _ => ?_)
      clear hK K
      refine held_take (i := 22) (d := 71) (oi := _) (v := ?_) rfl rfl (by kernel_rfl) (by kernel_rfl) (by kernel_rfl) (fun _ _ _ h => h) (Or.inl ⟨by rfl, ?_⟩) (by assumption) ?_
      rotate_left
      · (intro w hSw; clear hSw; go_simp; (try with_reducible rfl))
      simp only [Act.put, List.setIfInBounds_toArray, List.set_cons_zero, List.set_cons_succ]
      refine held_take (i := 23) (d := 72) (oi := _) (v := ?_) rfl rfl (by kernel_rfl) (by kernel_rfl) (by kernel_rfl) (fun _ _ _ h => h) (Or.inl ⟨by rfl, ?_⟩) (by assumption) ?_
      rotate_left
      · (intro w hSw; clear hSw; go_simp; (try with_reducible rfl))
      simp only [Act.put, List.setIfInBounds_toArray, List.set_cons_zero, List.set_cons_succ]
      refine held_take (i := 24) (d := 73) (oi := _) (v := ?_) rfl rfl (by kernel_rfl) (by kernel_rfl) (by kernel_rfl) (fun _ _ _ h => h) (Or.inl ⟨by rfl, ?_⟩) (by assumption) ?_
      rotate_left
      · (intro w hSw; clear hSw; go_simp; (try with_reducible rfl))
      simp only [Act.put, List.setIfInBounds_toArray, List.set_cons_zero, List.set_cons_succ]
      refine held_take (i := 25) (d := 74) (oi := _) (v := ?_) rfl rfl (by kernel_rfl) (by kernel_rfl) (by kernel_rfl) (fun _ _ _ h => h) (Or.inl ⟨by rfl, ?_⟩) (by assumption) ?_
      rotate_left
      · (intro w hSw; clear hSw; go_simp; (try with_reducible rfl))
      simp only [Act.put, List.setIfInBounds_toArray, List.set_cons_zero, List.set_cons_succ]
      refine held_take (i := 26) (d := 75) (oi := _) (v := ?_) rfl rfl (by kernel_rfl) (by kernel_rfl) (by kernel_rfl) (fun _ _ _ h => h) (Or.inl ⟨by rfl, ?_⟩) (by assumption) ?_
      rotate_left
      · (intro w hSw; clear hSw; go_simp; (try with_reducible rfl))
      simp only [Act.put, List.setIfInBounds_toArray, List.set_cons_zero, List.set_cons_succ]
      refine held_take (i := 28) (d := 77) (oi := _) (v := ?_) rfl rfl (by kernel_rfl) (by kernel_rfl) (by kernel_rfl) (fun _ _ _ h => h) (Or.inl ⟨by rfl, ?_⟩) (by assumption) ?_
      rotate_left
      · (intro w hSw; clear hSw; go_simp; (try with_reducible rfl))
      simp only [Act.put, List.setIfInBounds_toArray, List.set_cons_zero, List.set_cons_succ]
      refine held_take (i := 29) (d := 78) (oi := _) (v := ?_) rfl rfl (by kernel_rfl) (by kernel_rfl) (by kernel_rfl) (fun _ _ _ h => h) (Or.inl ⟨by rfl, ?_⟩) (by assumption) ?_
      rotate_left
      · (intro w hSw; clear hSw; go_simp; (try with_reducible rfl))
      simp only [Act.put, List.setIfInBounds_toArray, List.set_cons_zero, List.set_cons_succ]
      refine held_take (i := 30) (d := 79) (oi := _) (v := ?_) rfl rfl (by kernel_rfl) (by kernel_rfl) (by kernel_rfl) (fun _ _ _ h => h) (Or.inl ⟨by rfl, ?_⟩) (by assumption) ?_
      rotate_left
      · (intro w hSw; clear hSw; go_simp; (try with_reducible rfl))
      simp only [Act.put, List.setIfInBounds_toArray, List.set_cons_zero, List.set_cons_succ]
      refine held_take (i := 31) (d := 80) (oi := _) (v := ?_) rfl rfl (by kernel_rfl) (by kernel_rfl) (by kernel_rfl) (fun _ _ _ h => h) (Or.inl ⟨by rfl, ?_⟩) (by assumption) ?_
      rotate_left
      · (intro w hSw; clear hSw; go_simp; (try with_reducible rfl))
      simp only [Act.put, List.setIfInBounds_toArray, List.set_cons_zero, List.set_cons_succ]
      refine held_take (i := 32) (d := 81) (oi := _) (v := ?_) rfl rfl (by kernel_rfl) (by kernel_rfl) (by kernel_rfl) (fun _ _ _ h => h) (Or.inl ⟨by rfl, ?_⟩) (by assumption) ?_
      rotate_left
      · (intro w hSw; have hld := HCK.out w (B2.out.trans (hSw.mono B2.out.size)); clear hSw; go_simp; (try with_reducible rfl))
      simp only [Act.put, List.setIfInBounds_toArray, List.set_cons_zero, List.set_cons_succ]
      refine wpAnyH_ready (rs := [27]) (by kernel_rfl) (by simp) ?_
      refine AllReadyH.cons rfl (fun K hK => ?_) AllReadyH.nil
      go_simp
      go_wp2_with (go_at_call 19; (with_reducible refine (HWHO.out _ B2.out).mono ?_); rintro e x3 ⟨rfl, hb⟩)
      refine hK.out _ _ hb (fun _ => ?_)
      have B3 := Lib.hid (B2.out.trans (hb.mono B2.out.size))
      refine wpAnyH_more (S' := fun w' => Below x3.heap.size x3 w') (fun w' h => hb.trans (h.mono hb.size)) _ _ _ _ ?_
      have hH3 : Below x3.heap.size x3 x3 := Below.refl _ _
      clear hK K hH2 hb B2
      refine wpAnyH_ready (rs := [33]) (by kernel_rfl) (by simp) ?_
      refine AllReadyH.cons rfl (fun K hK => ?_) AllReadyH.nil
      go_simp
      go_wp2_with (go_at_call 20; (with_reducible refine (HPL.out _ B3.out).mono ?_); rintro e x' ⟨rfl, rfl⟩)
      refine hK.out _ _ hH3 (fun _ => ?_)
      clear hK K
      refine held_take (i := 34) (d := 83) (oi := _) (v := ?_) rfl rfl (by kernel_rfl) (by kernel_rfl) (by kernel_rfl) (fun _ _ _ h => h) (Or.inl ⟨by rfl, ?_⟩) (by assumption) ?_
      rotate_left
      · (intro w hSw; clear hSw; go_simp; (try with_reducible rfl))
      simp only [Act.put, List.setIfInBounds_toArray, List.set_cons_zero, List.set_cons_succ]
      refine held_take (i := 35) (d := 84) (oi := _) (v := ?_) rfl rfl (by kernel_rfl) (by kernel_rfl) (by kernel_rfl) (fun _ _ _ h => h) (Or.inl ⟨by rfl, ?_⟩) (by assumption) ?_
      rotate_left
      · (intro w hSw; clear hSw; go_simp; (try with_reducible rfl))
      simp only [Act.put, List.setIfInBounds_toArray, List.set_cons_zero, List.set_cons_succ]
      refine held_take (i := 36) (d := 85) (oi := _) (v := ?_) rfl rfl (by kernel_rfl) (by kernel_rfl) (by kernel_rfl) (fun _ _ _ h => h) (Or.inl ⟨by rfl, ?_⟩) (by assumption) ?_
      rotate_left
      · (intro w hSw; clear hSw; go_simp; (try with_reducible rfl))
      simp only [Act.put, List.setIfInBounds_toArray, List.set_cons_zero, List.set_cons_succ]
      refine wpAnyH_done (by kernel_rfl) ?_ _
      go_wp2
      exact ⟨⟨k + 1, by omega, by go_num, B3.out⟩, by simp [intOf]; omega⟩
    · have hk2 : ¬ (k : Int) < (p.length : Int) := by omega
      have HBE := Lib.hid hbel
      clear hbel
      by_cases hin : 0 ≤ n ∧ n < p.length
      · obtain ⟨i1, i2⟩ := hin
        go_wp2
        go_ret
        exact ⟨rfl, HB.out.trans ((HB6.out.trans (HBE.out.mono HB6.out.size)).mono HB.out.size)⟩
      · have C1 : Hid (∀ X, Below w6.heap.size w6 X → Calls Try.prog 19 #[.pointer (some ⟨x, 0, none⟩), .int .i64 n] X fun e w' => e = .returned (.bool false) ∧ Below X.heap.size X w') := Lib.hid fun X hX => by
          have := bwhole_any X x l (HK6.out.keep hX) n HWF.out
          rwa [← HQ.out, ← HPP.out, pathD_off hin, decide_eq_false (by rw [HQ.out]; exact fun h => ((mem_turned l []).1 h).1 rfl)] at this
        have C2 : Hid (∀ X, Below w6.heap.size w6 X → Calls Try.prog 17 #[.pointer (some ⟨x, 0, none⟩), .int .i64 n] X (GivesText X [])) := Lib.hid fun X hX => by
          have := bend_any X x l (HK6.out.keep hX) n HWF.out
          rwa [← HQ.out, ← HPP.out, pathD_off hin] at this
        by_cases hneg : 0 ≤ n
        · have hge : ¬ n < (p.length : Int) := by omega
          clear hin
          go_wp2_with fail
          refine (C1.out _ HBE.out).mono ?_
          rintro e v1 ⟨rfl, hv1⟩
          have D1 := Lib.hid (HBE.out.trans (hv1.mono HBE.out.size))
          clear hv1
          go_wp2_with fail
          refine (C2.out _ D1.out).mono ?_
          rintro e v2 ⟨a9, c9, rfl, _, _, _, hv2⟩
          have D2 := Lib.hid (D1.out.trans (hv2.mono D1.out.size))
          clear hv2
          go_wp2
          go_ret
          exact ⟨rfl, HB.out.trans ((HB6.out.trans (D2.out.mono HB6.out.size)).mono HB.out.size)⟩
        · clear hin
          go_wp2_with fail
          refine (C1.out _ HBE.out).mono ?_
          rintro e v1 ⟨rfl, hv1⟩
          have D1 := Lib.hid (HBE.out.trans (hv1.mono HBE.out.size))
          clear hv1
          go_wp2_with fail
          refine (C2.out _ D1.out).mono ?_
          rintro e v2 ⟨a9, c9, rfl, _, _, _, hv2⟩
          have D2 := Lib.hid (D1.out.trans (hv2.mono D1.out.size))
          clear hv2
          go_wp2
          go_ret
          exact ⟨rfl, HB.out.trans ((HB6.out.trans (D2.out.mono HB6.out.size)).mono HB.out.size)⟩
theorem walk (w : World) (xs : List TxV) (a0 : Option Addr) (cap0 : Nat) (hz0 : xs.length ≤ 6000000000000) (hx0 : ∀ x ∈ xs, x.text.length ≤ maxLen) (hts : Ts w a0 xs) (n : Int) (hwn : (Lit.int .i64 n).wf = true) :
    Calls Try.prog 3 #[.slice a0 xs.length cap0, .int .i64 n] w fun e w' => e = .returned (.bool true) ∧ Below w.heap.size w w' := by
  by_cases hall : xs.length ≤ 12 ∧ (∀ x ∈ xs, x.text.length ≤ 40)
  · exact small w xs a0 cap0 hts hall.1 hall.2 n hwn
  · clear hwn
    have HALL := Lib.hid hall
    have HX := Lib.hid hx0
    clear hall hx0
    go_enter Try.func3, Try.ntmps3
    go_wp2_with fail
    refine (Bck.awake_any _).mono ?_
    rintro e' w1 ⟨rfl, hb2⟩
    have ts1 := hts.keep hb2
    go_wp2_with fail
    refine (ltexts_any xs a0 cap0 w1 ts1 hz0 HX.out).mono ?_
    rintro e' w2 ⟨hb3, hcase⟩
    have B2 := hb2.trans (hb3.mono hb2.size)
    rcases hcase with ⟨_, rfl⟩ | ⟨hok, aL, cL, rfl, _⟩
    · go_wp2
      go_ret
      exact ⟨rfl, B2⟩
    · have h12 : ¬ xs.length ≤ 12 := fun h => HALL.out ⟨h, hok⟩
      rw [decide_eq_false h12]
      clear HALL hok
      go_wp2
      go_ret
      exact ⟨rfl, B2⟩
end Go.Proofs.Ythlpapaaodjcjaa.backNodes
