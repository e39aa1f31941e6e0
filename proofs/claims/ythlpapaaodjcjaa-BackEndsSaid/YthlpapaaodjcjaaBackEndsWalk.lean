/- The walk of BackEnds. -/
import Derived.Test.YthlpapaaodjcjaaBc
namespace Go.Proofs.Ythlpapaaodjcjaa.backEnds
open Go.Proofs.Ythlpapaaodjcjaa.Tri Go.Proofs.Ythlpapaaodjcjaa.Cwl Go.Proofs.Ythlpapaaodjcjaa.Bck Go.Proofs.Ythlpapaaodjcjaa.Reg Go.RowKit Go.Maps
set_option maxRecDepth 100000
set_option linter.unusedVariables false
/-- Is it an end of one of the first m texts? -/
def isE (l : List Tx) (e : Tx) (m : Nat) : Bool := decide (∃ x ∈ l.take m, e.length ≤ x.length ∧ x.drop (x.length - e.length) = e)
def whE (l : List Tx) (e : Tx) (m : Nat) : Bool := decide (∃ x ∈ l.take m, x = e ∧ e ≠ [])
theorem isE_step {l : List Tx} {e : Tx} {m : Nat} (h : m < l.length) : isE l e (m + 1) = (isE l e m || decide (e.length ≤ l[m].length ∧ l[m].drop (l[m].length - e.length) = e)) := by
  unfold isE
  rw [List.take_succ_eq_append_getElem h, Bool.eq_iff_iff]
  simp only [decide_eq_true_eq, Bool.or_eq_true, List.mem_append, List.mem_singleton]
  constructor
  · rintro ⟨x, hx | rfl, hp⟩
    · exact .inl ⟨x, hx, hp⟩
    · exact .inr hp
  · rintro (⟨x, hx, hp⟩ | hp)
    · exact ⟨x, .inl hx, hp⟩
    · exact ⟨_, .inr rfl, hp⟩
theorem whE_step {l : List Tx} {e : Tx} {m : Nat} (h : m < l.length) : whE l e (m + 1) = (whE l e m || (decide (l[m] = e) && decide (e ≠ []))) := by
  unfold whE
  rw [List.take_succ_eq_append_getElem h, Bool.eq_iff_iff]
  simp only [decide_eq_true_eq, Bool.or_eq_true, Bool.and_eq_true, List.mem_append, List.mem_singleton]
  constructor
  · rintro ⟨x, hx | rfl, hp⟩
    · exact .inl ⟨x, hx, hp⟩
    · exact .inr hp
  · rintro (⟨x, hx, hp⟩ | hp)
    · exact ⟨x, .inl hx, hp⟩
    · exact ⟨_, .inr rfl, hp⟩
theorem isE_zero (l : List Tx) (e : Tx) : isE l e 0 = false := by simp [isE]
theorem whE_zero (l : List Tx) (e : Tx) : whE l e 0 = false := by simp [whE]
theorem is_all {l : List Tx} {p : Tx} (hl : l ≠ []) (h : p ∈ paths (turned l)) : isE l p.reverse l.length = true := by
  unfold isE
  rw [List.take_length, decide_eq_true_eq]
  rcases end_path h with rfl | ⟨t, ht, _, h1, h2⟩
  · obtain ⟨x, hx⟩ := List.exists_mem_of_ne_nil l hl
    exact ⟨x, hx, by simp, by simp⟩
  · exact ⟨t, ht, by rw [List.length_reverse]; exact h1, by rw [List.length_reverse]; exact h2⟩
theorem wh_all (l : List Tx) (p : Tx) : whE l p.reverse l.length = decide (p ∈ turned l) := by
  unfold whE
  rw [List.take_length, decide_eq_decide, whole_iff]
  constructor
  · rintro ⟨x, hx, rfl, h⟩; exact ⟨hx, h⟩
  · rintro ⟨h1, h2⟩; exact ⟨_, h1, rfl, h2⟩

set_option maxHeartbeats 8000000 in
theorem small (w : World) (xs : List TxV) (a0 : Option Addr) (cap0 : Nat) (hts : Ts w a0 xs) (h0 : xs.length ≤ 12) (hx : ∀ x ∈ xs, x.text.length ≤ 40) (hcx : ∀ x ∈ xs, x.text.length ≤ x.cap) (i k : UInt8) :
    Calls Try.prog 6 #[.slice a0 xs.length cap0, .int .u8 (i.toNat : Int), .int .u8 (k.toNat : Int)] w fun e w' => e = .returned (.bool true) ∧ Below w.heap.size w w' := by
  have HCX := Lib.hid hcx
  clear hcx
  have hx' : ∀ x ∈ xs, x.text.length ≤ maxLen := fun x h => Nat.le_trans (hx x h) (by unfold maxLen; omega)
  have htot := Spa.few_tot h0 hx
  have HX := Lib.hid hx
  have HX' := Lib.hid hx'
  have HAW := Lib.hid (Bck.awake_any w)
  clear hx hx'
  go_enter Try.func6, Try.ntmps6
  go_wp2_with fail
  refine HAW.out.mono ?_
  rintro e' w1 ⟨rfl, hb2⟩
  have ts1 := hts.keep hb2
  go_wp2_with fail
  refine (ltexts_any xs a0 cap0 w1 ts1 (by omega) HX'.out).mono ?_
  rintro e' w2 ⟨hb3, hcase⟩
  rcases hcase with ⟨hbad, _⟩ | ⟨_, aL, cL, rfl, hsL⟩
  · exact absurd HX.out hbad
  rw [decide_eq_true h0]
  have HTS := Lib.hid (ts1.keep hb3)
  have HB := Lib.hid (hb2.trans (hb3.mono hb2.size))
  have hszw := HB.out.size
  obtain ⟨l, hl⟩ : ∃ l, l = xs.map TxV.text := ⟨_, rfl⟩
  have HBU : Hid (∀ X, Below w2.heap.size w2 X → Calls Try.prog 10 #[.slice a0 xs.length cap0] X (GivesBk X l)) := Lib.hid fun X hX => by
    have := bbuild_any X xs a0 cap0 (HTS.out.keep hX) (by omega) (fun x h => Nat.le_trans (HX.out x h) (by omega))
    rwa [← hl] at this
  have HLN : Hid (xs.length = l.length) := Lib.hid (by rw [hl]; simp)
  have HLL := Lib.hid hl
  have HL40 : Hid (∀ x ∈ l, x.length ≤ 40) := Lib.hid fun x h => by
    rw [hl] at h
    obtain ⟨y, hy, rfl⟩ := List.mem_map.1 h
    exact HX.out y hy
  rw [← hl] at hsL htot
  have HSL := Lib.hid hsL
  have HTD : Hid (∀ X, Below w2.heap.size w2 X → Calls Try.prog 11 #[.slice aL xs.length cL] X (GivesSs X (turned l))) := Lib.hid fun X hX => by
    have := rturned_any X l aL cL (HSL.out.keep hX) (by rw [← HLN.out]; omega) (fun x h => Nat.le_trans (HL40.out x h) (by omega))
    rwa [← HLN.out] at this
  have HT40 : Hid (∀ x ∈ turned l, x.length ≤ 40) := Lib.hid fun x h => by
    have := HL40.out _ ((mem_turned l x).1 h).2
    rwa [List.length_reverse] at this
  have htl : (turned l).length ≤ 12 := by have := turned_len l; have := HLN.out; omega
  have htt := turned_tot l
  clear HAW hb2 hb3 ts1 hsL hts hl HX'
  by_cases hx0 : xs.length = 0
  · have hz : ((xs.length : Int) == 0) = true := by rw [hx0]; rfl
    go_wp2
    go_ret
    exact ⟨rfl, HB.out⟩
  · have hz : ((xs.length : Int) == 0) = false := by simpa using hx0
    have hz2 : ¬ (xs.length : Int) = 0 := by simpa using hx0
    obtain ⟨I, hI⟩ : ∃ I, I = i.toNat % xs.length := ⟨_, rfl⟩
    have hIl : I < xs.length := by rw [hI]; exact Nat.mod_lt _ (by omega)
    have HMOD : Hid ((i.toNat : Int) % (xs.length : Int) = (I : Int)) := Lib.hid (by rw [hI]; exact (Int.natCast_emod i.toNat xs.length).symm)
    have HTM : Hid ((i.toNat : Int).tmod (xs.length : Int) = (I : Int)) := Lib.hid (by rw [hI]; exact (Int.ofNat_tmod i.toNat xs.length).symm)
    have hwi : IntKind.i64.wrap (i.toNat : Int) = (i.toNat : Int) := IntWalk.i64_in _ (by have := i.toNat_lt; omega)
    have hwk : IntKind.i64.wrap (k.toNat : Int) = (k.toNat : Int) := IntWalk.i64_in _ (by have := k.toNat_lt; omega)
    have htm := HTM.out
    clear hI
    go_wp2_with fail
    refine (HBU.out w2 (Below.refl _ _)).mono ?_
    rintro e w3 ⟨x, rfl, hk, hb3⟩
    have HB3 := Lib.hid hb3
    have HK := Lib.hid hk
    clear hb3 hk
    obtain ⟨b0, o0, rfl, hb0, hcs⟩ := (HTS.out.keep HB3.out).1 (by omega)
    have hIc := hcs I hIl
    have hmem := List.getElem_mem hIl
    have hcy := HCX.out _ hmem
    have hy40 := HX.out _ hmem
    have hbsy := (HTS.out.keep HB3.out).2 _ hmem
    have HYL : Hid (xs[I].text ∈ l) := Lib.hid (by rw [HLL.out]; exact List.mem_map_of_mem hmem)
    have hIi : (I : Int) < (xs.length : Int) := by omega
    clear hcs hmem
    generalize xs[I].text = y at *
    generalize xs[I].a = ay at *
    generalize xs[I].cap = cy at *
    have HBY := Lib.hid hbsy
    clear hbsy
    obtain ⟨n, hn⟩ : ∃ n, n = k.toNat % (y.length + 1) := ⟨_, rfl⟩
    have hnl : n ≤ y.length := by rw [hn]; exact Nat.le_of_lt_succ (Nat.mod_lt _ (Nat.succ_pos _))
    have htn : (k.toNat : Int).tmod ((y.length : Int) + 1) = (n : Int) := by rw [hn]; exact (Int.ofNat_tmod k.toNat (y.length + 1)).symm
    have hy1 : ((y.length : Int) + 1 == 0) = false := by simp; omega
    have hy2 : ¬ (y.length : Int) + 1 = 0 := by omega
    obtain ⟨A, hcut, hcb⟩ := cut_back0 ay y cy n hnl hcy
    have HCB := Lib.hid hcb
    clear hn hcb
    obtain ⟨D, hD⟩ : ∃ D, D = y.drop n := ⟨_, rfl⟩
    have hDl : D.length = y.length - n := by rw [hD, List.length_drop]
    have hd40 : D.length ≤ 40 := by omega
    obtain ⟨q, hq⟩ : ∃ q, q = turned l := ⟨_, rfl⟩
    obtain ⟨p, hp⟩ : ∃ p, p = paths q := ⟨_, rfl⟩
    have hDp : D.reverse ∈ p := by rw [hp, hq, hD]; exact path_end HYL.out n
    have hpK : place p D.reverse = (p.idxOf D.reverse : Nat) := by rw [place, if_pos hDp]
    obtain ⟨t, hc3, htr⟩ := HK.out.tree
    rw [← hq, ← hp] at htr
    have HTR := Lib.hid htr
    have HX0 : Hid (∀ X, Below w3.heap.size w3 X → X.cell? ⟨x, 0, none⟩ = some (.pointer (some ⟨t, 0, none⟩))) := Lib.hid fun X hX => (hX.cell (p := ⟨x, 0, none⟩) (World.block_lt_of_cell? w3 _ hc3)).trans hc3
    have HTN : Hid (∀ X, Below w3.heap.size w3 X → Calls Try.prog 23 #[.slice A (y.length - n) (cy - n)] X (GivesText X D.reverse)) := Lib.hid fun X hX => by
      have := turn_any X D A (cy - n) (by rw [hD]; exact HCB.out _ _ ((HBY.out.keep hX).more hX.size)) (by omega)
      rwa [hDl] at this
    obtain ⟨K, hK⟩ : ∃ K, K = p.idxOf D.reverse := ⟨_, rfl⟩
    have hKl : K < p.length := by rw [hK]; exact List.idxOf_lt_length_iff.2 hDp
    have HKP : Hid (p[K] = D.reverse) := Lib.hid (by simp only [hK]; exact List.getElem_idxOf _)
    have HFD : Hid (∀ X a c, Below w3.heap.size w3 X → Bs X X.heap.size a D.reverse → Calls Try.prog 24 #[.pointer (some ⟨t, 0, none⟩), .slice a D.length c] X fun e w' => e = .returned (.int .i64 (K : Int)) ∧ X = w') := Lib.hid fun X a c hX hb => by
      have := find_any X _ t p q (HTR.out.keep hX) D.reverse a c _ hb (by rw [List.length_reverse]; omega)
      rwa [List.length_reverse, hpK, ← hK] at this
    have HQ := Lib.hid hq
    have HPP := Lib.hid hp
    have HDD := Lib.hid hD
    have HDL := Lib.hid hDl
    have HBb := Lib.hid (Below.refl w3.heap.size w3)
    have hnyi : (n : Int) ≤ (y.length : Int) := by omega
    have hpl : p.length ≤ 481 := by rw [hp, hq]; have := paths_len (turned l); omega
    clear hq hp hD hDl htr hDp hpK hK htt
    go_wp2_with fail
    refine wp_region_held_drew (S := fun w' => Below w3.drew.heap.size w3.drew w') (by kernel_rfl) (Below.refl _ _) (fun hH0 => ?_)
    have B0 := Lib.hid (below_drews HBb.out 1)
    change Hid (Below _ _ w3.drew) at B0
    generalize w3.drew = x0 at *
    refine held_take (i := 0) (d := 50) (oi := _) (v := ?_) rfl rfl (by kernel_rfl) (by kernel_rfl) (by kernel_rfl) (fun _ _ _ h => h) (Or.inl ⟨by rfl, ?_⟩) (by assumption) ?_
    rotate_left
    · (intro w hSw; clear hSw; go_simp; (try with_reducible rfl))
    simp only [Act.put, List.setIfInBounds_toArray, List.set_cons_zero, List.set_cons_succ]
    refine held_take (i := 1) (d := 51) (oi := _) (v := ?_) rfl rfl (by kernel_rfl) (by kernel_rfl) (by kernel_rfl) (fun _ _ _ h => h) (Or.inl ⟨by rfl, ?_⟩) (by assumption) ?_
    rotate_left
    · (intro w hSw; clear hSw; go_simp; (try with_reducible rfl))
    simp only [Act.put, List.setIfInBounds_toArray, List.set_cons_zero, List.set_cons_succ]
    refine held_take (i := 2) (d := 52) (oi := _) (v := ?_) rfl rfl (by kernel_rfl) (by kernel_rfl) (by kernel_rfl) (fun _ _ _ h => h) (Or.inl ⟨by rfl, ?_⟩) (by assumption) ?_
    rotate_left
    · (intro w hSw; clear hSw; go_simp; (try with_reducible rfl))
    simp only [Act.put, List.setIfInBounds_toArray, List.set_cons_zero, List.set_cons_succ]
    refine held_take (i := 3) (d := 53) (oi := _) (v := ?_) rfl rfl (by kernel_rfl) (by kernel_rfl) (by kernel_rfl) (fun _ _ _ h => h) (Or.inl ⟨by rfl, ?_⟩) (by assumption) ?_
    rotate_left
    · (intro w hSw; have hld := HX0.out w (B0.out.trans (hSw.mono B0.out.size)); clear hSw; go_simp; (try with_reducible rfl))
    simp only [Act.put, List.setIfInBounds_toArray, List.set_cons_zero, List.set_cons_succ]
    refine held_take (i := 4) (d := 54) (oi := _) (v := ?_) rfl rfl (by kernel_rfl) (by kernel_rfl) (by kernel_rfl) (fun _ _ _ h => h) (Or.inl ⟨by rfl, ?_⟩) (by assumption) ?_
    rotate_left
    · (intro w hSw; clear hSw; go_simp; (try with_reducible rfl))
    simp only [Act.put, List.setIfInBounds_toArray, List.set_cons_zero, List.set_cons_succ]
    refine held_take (i := 5) (d := 55) (oi := _) (v := ?_) rfl rfl (by kernel_rfl) (by kernel_rfl) (by kernel_rfl) (fun _ _ _ h => h) (Or.inl ⟨by rfl, ?_⟩) (by assumption) ?_
    rotate_left
    · (intro w hSw; clear hSw; go_simp; (try with_reducible rfl))
    simp only [Act.put, List.setIfInBounds_toArray, List.set_cons_zero, List.set_cons_succ]
    refine held_take (i := 6) (d := 56) (oi := _) (v := ?_) rfl rfl (by kernel_rfl) (by kernel_rfl) (by kernel_rfl) (fun _ _ _ h => h) (Or.inl ⟨by rfl, ?_⟩) (by assumption) ?_
    rotate_left
    · (intro w hSw; clear hSw; go_simp; (try with_reducible rfl))
    simp only [Act.put, List.setIfInBounds_toArray, List.set_cons_zero, List.set_cons_succ]
    refine wpAnyH_ready (rs := [7]) (by kernel_rfl) (by simp) ?_
    refine AllReadyH.cons rfl (fun K hK => ?_) AllReadyH.nil
    go_simp
    go_wp2_with (go_at_call 23; (with_reducible refine (HTN.out _ B0.out).mono ?_); rintro e x1 ⟨a7, c7, rfl, htx7, _, _, hb⟩)
    refine hK.out _ _ hb (fun _ => ?_)
    have B1 := Lib.hid (B0.out.trans (hb.mono B0.out.size))
    refine wpAnyH_more (S' := fun w' => Below x1.heap.size x1 w') (fun w' h => hb.trans (h.mono hb.size)) _ _ _ _ ?_
    have hH1 : Below x1.heap.size x1 x1 := Below.refl _ _
    clear hK K hH0 hb B0
    have T7 := Lib.hid htx7.bs
    clear htx7
    refine wpAnyH_ready (rs := [8]) (by kernel_rfl) (by simp) ?_
    refine AllReadyH.cons rfl (fun K hK => ?_) AllReadyH.nil
    go_simp
    go_wp2_with (go_at_call 24; (with_reducible refine (HFD.out x1 a7 c7 B1.out T7.out).mono ?_); rintro e x' ⟨rfl, rfl⟩)
    refine hK.out _ _ hH1 (fun _ => ?_)
    clear hK K T7
    refine held_take (i := 9) (d := 13) (oi := _) (v := ?_) rfl rfl (by kernel_rfl) (by kernel_rfl) (by kernel_rfl) (fun _ _ _ h => h) (Or.inl ⟨by rfl, ?_⟩) (by assumption) ?_
    rotate_left
    · (intro w hSw; clear hSw; go_simp; (try with_reducible rfl))
    simp only [Act.put, List.setIfInBounds_toArray, List.set_cons_zero, List.set_cons_succ]
    refine wpAnyH_done (by kernel_rfl) ?_ _
    generalize x1 = u1 at *
    have HU1 := Lib.hid B1.out
    clear B1
    have HEN : Hid (∀ X, Below w3.heap.size w3 X → Calls Try.prog 17 #[.pointer (some ⟨x, 0, none⟩), .int .i64 (K : Int)] X (GivesText X D)) := Lib.hid fun X hX => by
      have := bend_any X x l (HK.out.keep hX) (K : Int) (wf_nat (by omega) (by omega))
      rwa [← HQ.out, ← HPP.out, pathD_at hKl, HKP.out, List.reverse_reverse] at this
    have HDE : Hid (∀ X, Below w3.heap.size w3 X → Calls Try.prog 25 #[.pointer (some ⟨t, 0, none⟩), .int .i64 (K : Int)] X fun e w' => e = .returned (.int .i64 (D.length : Int)) ∧ Below X.heap.size X w') := Lib.hid fun X hX => by
      have := depth_any X _ t p q (HTR.out.keep hX) (K : Int)
      rwa [pathD_at hKl, HKP.out, List.length_reverse] at this
    have HVD : Hid (∀ X, Below w3.heap.size w3 X → (convert 35 9 (.slice A (y.length - n) (cy - n))).run Try.prog X = .ok (.string (str D)) X) := Lib.hid fun X hX => by
      have := str_of_bs (l := D) (cy - n) (by rw [HDD.out]; exact HCB.out _ _ ((HBY.out.keep hX).more hX.size))
      rwa [HDL.out] at this
    have hwd : IntKind.i64.wrap ((y.length : Int) - (n : Int)) = (D.length : Int) := by have := HDL.out; rw [IntWalk.i64_in _ (by omega)]; omega
    go_wp2_with fail
    refine wp_region_held_drew (S := fun w' => Below u1.drew.heap.size u1.drew w') (by kernel_rfl) (Below.refl _ _) (fun hH0 => ?_)
    have B0 := Lib.hid (below_drews HU1.out 1)
    change Hid (Below _ _ u1.drew) at B0
    generalize u1.drew = x0 at *
    refine held_take (i := 0) (d := 59) (oi := _) (v := ?_) rfl rfl (by kernel_rfl) (by kernel_rfl) (by kernel_rfl) (fun _ _ _ h => h) (Or.inl ⟨by rfl, ?_⟩) (by assumption) ?_
    rotate_left
    · (intro w hSw; clear hSw; go_simp; (try with_reducible rfl))
    simp only [Act.put, List.setIfInBounds_toArray, List.set_cons_zero, List.set_cons_succ]
    refine held_take (i := 1) (d := 60) (oi := _) (v := ?_) rfl rfl (by kernel_rfl) (by kernel_rfl) (by kernel_rfl) (fun _ _ _ h => h) (Or.inl ⟨by rfl, ?_⟩) (by assumption) ?_
    rotate_left
    · (intro w hSw; clear hSw; go_simp; (try with_reducible rfl))
    simp only [Act.put, List.setIfInBounds_toArray, List.set_cons_zero, List.set_cons_succ]
    refine held_take (i := 2) (d := 61) (oi := _) (v := ?_) rfl rfl (by kernel_rfl) (by kernel_rfl) (by kernel_rfl) (fun _ _ _ h => h) (Or.inl ⟨by rfl, ?_⟩) (by assumption) ?_
    rotate_left
    · (intro w hSw; clear hSw; go_simp; (try with_reducible rfl))
    simp only [Act.put, List.setIfInBounds_toArray, List.set_cons_zero, List.set_cons_succ]
    refine held_take (i := 3) (d := 62) (oi := _) (v := ?_) rfl rfl (by kernel_rfl) (by kernel_rfl) (by kernel_rfl) (fun _ _ _ h => h) (Or.inl ⟨by rfl, ?_⟩) (by assumption) ?_
    rotate_left
    · (intro w hSw; clear hSw; go_simp; (try with_reducible rfl))
    simp only [Act.put, List.setIfInBounds_toArray, List.set_cons_zero, List.set_cons_succ]
    refine held_take (i := 4) (d := 63) (oi := _) (v := ?_) rfl rfl (by kernel_rfl) (by kernel_rfl) (by kernel_rfl) (fun _ _ _ h => h) (Or.inl ⟨by rfl, ?_⟩) (by assumption) ?_
    rotate_left
    · (intro w hSw; clear hSw; go_simp; (try with_reducible rfl))
    simp only [Act.put, List.setIfInBounds_toArray, List.set_cons_zero, List.set_cons_succ]
    refine held_take (i := 7) (d := 66) (oi := _) (v := ?_) rfl rfl (by kernel_rfl) (by kernel_rfl) (by kernel_rfl) (fun _ _ _ h => h) (Or.inl ⟨by rfl, ?_⟩) (by assumption) ?_
    rotate_left
    · (intro w hSw; clear hSw; go_simp; (try with_reducible rfl))
    simp only [Act.put, List.setIfInBounds_toArray, List.set_cons_zero, List.set_cons_succ]
    refine held_take (i := 8) (d := 67) (oi := _) (v := ?_) rfl rfl (by kernel_rfl) (by kernel_rfl) (by kernel_rfl) (fun _ _ _ h => h) (Or.inl ⟨by rfl, ?_⟩) (by assumption) ?_
    rotate_left
    · (intro w hSw; clear hSw; go_simp; (try with_reducible rfl))
    simp only [Act.put, List.setIfInBounds_toArray, List.set_cons_zero, List.set_cons_succ]
    refine held_take (i := 9) (d := 68) (oi := _) (v := ?_) rfl rfl (by kernel_rfl) (by kernel_rfl) (by kernel_rfl) (fun _ _ _ h => h) (Or.inl ⟨by rfl, ?_⟩) (by assumption) ?_
    rotate_left
    · (intro w hSw; clear hSw; go_simp; (try with_reducible rfl))
    simp only [Act.put, List.setIfInBounds_toArray, List.set_cons_zero, List.set_cons_succ]
    have HVD0 := Lib.hid (fun (w' : World) (h : Below x0.heap.size x0 w') => HVD.out w' (B0.out.trans (h.mono B0.out.size)))
    refine held_take (i := 10) (d := 69) (oi := _) (v := ?_) rfl rfl (by kernel_rfl) (by kernel_rfl) (by kernel_rfl) (fun _ _ _ h => h) (Or.inl ⟨by rfl, ?_⟩) (by assumption) ?_
    rotate_left
    · (intro w hSw; have hcvw := HVD0.out w hSw; clear hSw; go_simp; (try with_reducible rfl))
    simp only [Act.put, List.setIfInBounds_toArray, List.set_cons_zero, List.set_cons_succ]
    refine wpAnyH_ready (rs := [5]) (by kernel_rfl) (by simp) ?_
    refine AllReadyH.cons rfl (fun K hK => ?_) AllReadyH.nil
    go_simp
    go_wp2_with (go_at_call 17; (with_reducible refine (HEN.out _ B0.out).mono ?_); rintro e x1 ⟨a8, c8, rfl, htx8, _, _, hb⟩)
    refine hK.out _ _ hb (fun _ => ?_)
    have B1 := Lib.hid (B0.out.trans (hb.mono B0.out.size))
    refine wpAnyH_more (S' := fun w' => Below x1.heap.size x1 w') (fun w' h => hb.trans (h.mono hb.size)) _ _ _ _ ?_
    have hH1 : Below x1.heap.size x1 x1 := Below.refl _ _
    clear hK K hH0 hb B0
    have V8 := Lib.hid (fun (w' : World) (h : Below x1.heap.size x1 w') => str_of_bs c8 (htx8.bs.keep h))
    clear htx8
    refine held_take (i := 6) (d := 65) (oi := _) (v := ?_) rfl rfl (by kernel_rfl) (by kernel_rfl) (by kernel_rfl) (fun _ _ _ h => h) (Or.inl ⟨by rfl, ?_⟩) (by assumption) ?_
    rotate_left
    · (intro w hSw; have hcvw := V8.out w hSw; clear hSw; go_simp; (try with_reducible rfl))
    simp only [Act.put, List.setIfInBounds_toArray, List.set_cons_zero, List.set_cons_succ]
    refine held_take (i := 11) (d := 70) (oi := _) (v := ?_) rfl rfl (by kernel_rfl) (by kernel_rfl) (by kernel_rfl) (fun _ _ _ h => h) (Or.inl ⟨by rfl, ?_⟩) (by assumption) ?_
    rotate_left
    · (intro w hSw; clear hSw; go_simp; (try with_reducible rfl))
    simp only [Act.put, List.setIfInBounds_toArray, List.set_cons_zero, List.set_cons_succ]
    refine held_take (i := 12) (d := 71) (oi := _) (v := ?_) rfl rfl (by kernel_rfl) (by kernel_rfl) (by kernel_rfl) (fun _ _ _ h => h) (Or.inl ⟨by rfl, ?_⟩) (by assumption) ?_
    rotate_left
    · (intro w hSw; clear hSw; go_simp; (try with_reducible rfl))
    simp only [Act.put, List.setIfInBounds_toArray, List.set_cons_zero, List.set_cons_succ]
    refine held_take (i := 13) (d := 72) (oi := _) (v := ?_) rfl rfl (by kernel_rfl) (by kernel_rfl) (by kernel_rfl) (fun _ _ _ h => h) (Or.inl ⟨by rfl, ?_⟩) (by assumption) ?_
    rotate_left
    · (intro w hSw; clear hSw; go_simp; (try with_reducible rfl))
    simp only [Act.put, List.setIfInBounds_toArray, List.set_cons_zero, List.set_cons_succ]
    refine held_take (i := 14) (d := 73) (oi := _) (v := ?_) rfl rfl (by kernel_rfl) (by kernel_rfl) (by kernel_rfl) (fun _ _ _ h => h) (Or.inl ⟨by rfl, ?_⟩) (by assumption) ?_
    rotate_left
    · (intro w hSw; clear hSw; go_simp; (try with_reducible rfl))
    simp only [Act.put, List.setIfInBounds_toArray, List.set_cons_zero, List.set_cons_succ]
    refine held_take (i := 15) (d := 74) (oi := _) (v := ?_) rfl rfl (by kernel_rfl) (by kernel_rfl) (by kernel_rfl) (fun _ _ _ h => h) (Or.inl ⟨by rfl, ?_⟩) (by assumption) ?_
    rotate_left
    · (intro w hSw; clear hSw; go_simp; (try with_reducible rfl))
    simp only [Act.put, List.setIfInBounds_toArray, List.set_cons_zero, List.set_cons_succ]
    refine held_take (i := 16) (d := 75) (oi := _) (v := ?_) rfl rfl (by kernel_rfl) (by kernel_rfl) (by kernel_rfl) (fun _ _ _ h => h) (Or.inl ⟨by rfl, ?_⟩) (by assumption) ?_
    rotate_left
    · (intro w hSw; clear hSw; go_simp; (try with_reducible rfl))
    simp only [Act.put, List.setIfInBounds_toArray, List.set_cons_zero, List.set_cons_succ]
    refine held_take (i := 17) (d := 76) (oi := _) (v := ?_) rfl rfl (by kernel_rfl) (by kernel_rfl) (by kernel_rfl) (fun _ _ _ h => h) (Or.inl ⟨by rfl, ?_⟩) (by assumption) ?_
    rotate_left
    · (intro w hSw; have hld := HX0.out w (B1.out.trans (hSw.mono B1.out.size)); clear hSw; go_simp; (try with_reducible rfl))
    simp only [Act.put, List.setIfInBounds_toArray, List.set_cons_zero, List.set_cons_succ]
    refine held_take (i := 18) (d := 77) (oi := _) (v := ?_) rfl rfl (by kernel_rfl) (by kernel_rfl) (by kernel_rfl) (fun _ _ _ h => h) (Or.inl ⟨by rfl, ?_⟩) (by assumption) ?_
    rotate_left
    · (intro w hSw; clear hSw; go_simp; (try with_reducible rfl))
    simp only [Act.put, List.setIfInBounds_toArray, List.set_cons_zero, List.set_cons_succ]
    refine held_take (i := 20) (d := 79) (oi := _) (v := ?_) rfl rfl (by kernel_rfl) (by kernel_rfl) (by kernel_rfl) (fun _ _ _ h => h) (Or.inl ⟨by rfl, ?_⟩) (by assumption) ?_
    rotate_left
    · (intro w hSw; clear hSw; go_simp; (try with_reducible rfl))
    simp only [Act.put, List.setIfInBounds_toArray, List.set_cons_zero, List.set_cons_succ]
    refine held_take (i := 21) (d := 80) (oi := _) (v := ?_) rfl rfl (by kernel_rfl) (by kernel_rfl) (by kernel_rfl) (fun _ _ _ h => h) (Or.inl ⟨by rfl, ?_⟩) (by assumption) ?_
    rotate_left
    · (intro w hSw; clear hSw; go_simp; (try with_reducible rfl))
    simp only [Act.put, List.setIfInBounds_toArray, List.set_cons_zero, List.set_cons_succ]
    refine held_take (i := 22) (d := 81) (oi := _) (v := ?_) rfl rfl (by kernel_rfl) (by kernel_rfl) (by kernel_rfl) (fun _ _ _ h => h) (Or.inl ⟨by rfl, ?_⟩) (by assumption) ?_
    rotate_left
    · (intro w hSw; clear hSw; go_simp; (try with_reducible rfl))
    simp only [Act.put, List.setIfInBounds_toArray, List.set_cons_zero, List.set_cons_succ]
    refine held_take (i := 23) (d := 82) (oi := _) (v := ?_) rfl rfl (by kernel_rfl) (by kernel_rfl) (by kernel_rfl) (fun _ _ _ h => h) (Or.inl ⟨by rfl, ?_⟩) (by assumption) ?_
    rotate_left
    · (intro w hSw; clear hSw; go_simp; (try with_reducible rfl))
    simp only [Act.put, List.setIfInBounds_toArray, List.set_cons_zero, List.set_cons_succ]
    refine wpAnyH_ready (rs := [19]) (by kernel_rfl) (by simp) ?_
    refine AllReadyH.cons rfl (fun K hK => ?_) AllReadyH.nil
    go_simp
    go_wp2_with (go_at_call 25; (with_reducible refine (HDE.out _ B1.out).mono ?_); rintro e x2 ⟨rfl, hb⟩)
    refine hK.out _ _ hb (fun _ => ?_)
    have B2 := Lib.hid (B1.out.trans (hb.mono B1.out.size))
    refine wpAnyH_more (S' := fun w' => Below x2.heap.size x2 w') (fun w' h => hb.trans (h.mono hb.size)) _ _ _ _ ?_
    have hH2 : Below x2.heap.size x2 x2 := Below.refl _ _
    clear hK K hH1 hb B1
    refine held_take (i := 24) (d := 83) (oi := _) (v := ?_) rfl rfl (by kernel_rfl) (by kernel_rfl) (by kernel_rfl) (fun _ _ _ h => h) (Or.inl ⟨by rfl, ?_⟩) (by assumption) ?_
    rotate_left
    · (intro w hSw; clear hSw; go_simp; (try with_reducible rfl))
    simp only [Act.put, List.setIfInBounds_toArray, List.set_cons_zero, List.set_cons_succ]
    refine held_take (i := 25) (d := 84) (oi := _) (v := ?_) rfl rfl (by kernel_rfl) (by kernel_rfl) (by kernel_rfl) (fun _ _ _ h => h) (Or.inl ⟨by rfl, ?_⟩) (by assumption) ?_
    rotate_left
    · (intro w hSw; clear hSw; go_simp; (try with_reducible rfl))
    simp only [Act.put, List.setIfInBounds_toArray, List.set_cons_zero, List.set_cons_succ]
    refine wpAnyH_done (by kernel_rfl) ?_ _
    go_wp2
    have HSLX := Lib.hid (fun X (hX : Below w3.heap.size w3 X) => HSL.out.keep (HB3.out.trans (hX.mono HB3.out.size)))
    have HNO : Hid (∀ X, Below w3.heap.size w3 X → Calls Try.prog 13 #[.pointer (some ⟨t, 0, none⟩)] X fun e w' => e = .returned (.int .i64 (p.length : Int)) ∧ X = w') := Lib.hid fun X hX => nodes_any X _ t p q (HTR.out.keep hX)
    have hsh : ∀ z ∈ p, z.length ≤ 40 := fun z hz => by
      rw [HPP.out, HQ.out] at hz
      exact path_short0 HT40.out hz
    have HSH := Lib.hid hsh
    have HB2 := Lib.hid B2.out
    clear HTN HFD HBY HCB HEN HDE HVD HKP hsh
    generalize x2 = u2 at *
    go_loopw [14] (fun v wr => ∃ j : Nat, j ≤ p.length ∧ v = .int .i64 (j : Int) ∧ Below w3.heap.size w3 wr) (fun v _ => p.length - (intOf v).toNat)
    case atStart => exact ⟨0, Nat.zero_le _, rfl, HB2.out⟩
    case round =>
      obtain ⟨j, hj, rfl, hbel⟩ := hrel
      have HBE := Lib.hid hbel
      have hcx := HX0.out wr hbel
      clear hbel
      go_wp2_with fail
      refine (HNO.out wr HBE.out).mono ?_
      rintro e wr' ⟨rfl, rfl⟩
      by_cases hlt : j < p.length
      · have hjl : (j : Int) < (p.length : Int) := by omega
        have h40 := HSH.out _ (List.getElem_mem hlt)
        have HEJ : Hid (∀ X, Below w3.heap.size w3 X → Calls Try.prog 17 #[.pointer (some ⟨x, 0, none⟩), .int .i64 (j : Int)] X (GivesText X p[j].reverse)) := Lib.hid fun X hX => by
          have := bend_any X x l (HK.out.keep hX) (j : Int) (wf_nat (by omega) (by omega))
          rwa [← HQ.out, ← HPP.out, pathD_at hlt] at this
        have HWJ : Hid (∀ X, Below w3.heap.size w3 X → Calls Try.prog 19 #[.pointer (some ⟨x, 0, none⟩), .int .i64 (j : Int)] X fun e w' => e = .returned (.bool (decide (p[j] ∈ q))) ∧ Below X.heap.size X w') := Lib.hid fun X hX => by
          have := bwhole_any X x l (HK.out.keep hX) (j : Int) (wf_nat (by omega) (by omega))
          rwa [← HQ.out, ← HPP.out, pathD_at hlt] at this
        have hmemp := List.getElem_mem hlt
        have HFA : Hid (isE l p[j].reverse l.length = true) := Lib.hid (by
          refine is_all ?_ (by rw [← HQ.out, ← HPP.out]; exact hmemp)
          rintro rfl
          have := HLN.out
          exact hx0 (by rw [this]; rfl))
        have HFW : Hid (whE l p[j].reverse l.length = decide (p[j] ∈ q)) := Lib.hid (by rw [HQ.out]; exact wh_all l p[j])
        obtain ⟨z, hz⟩ : ∃ z, z = p[j].reverse := ⟨_, rfl⟩
        have hz40 : z.length ≤ 40 := by rw [hz, List.length_reverse]; exact h40
        rw [← hz] at HEJ HFA HFW
        generalize decide (p[j] ∈ q) = wh at *
        clear hmemp h40 hz
        go_wp2_with fail
        refine (HEJ.out _ HBE.out).mono ?_
        rintro e u3 ⟨a9, c9, rfl, ht9, _, _, hb9⟩
        have hcv := str_of_bs c9 ht9.bs
        have HB9 := Lib.hid (HBE.out.trans (hb9.mono HBE.out.size))
        have HS9 := Lib.hid (HSLX.out u3 HB9.out)
        clear ht9 hb9 HBE HEJ
        go_wp2_with fail
        go_loopw [16, 17, 18] (fun vi vw v wi => ∃ m d : Nat, m ≤ l.length ∧ vi = .bool (isE l z m) ∧ vw = .bool (whE l z m) ∧ v = .int .i64 (m : Int) ∧ wi = u3.drewN d) (fun _ _ v _ => l.length - (intOf v).toNat)
        case atStart => exact ⟨0, 0, Nat.zero_le _, by rw [isE_zero], by rw [whE_zero], rfl, rfl⟩
        case round =>
          obtain ⟨m, d, hm, rfl, rfl, rfl, rfl⟩ := hrel
          by_cases hml : m < l.length
          · have hmx : (m : Int) < (xs.length : Int) := by have := HLN.out; omega
            obtain ⟨bs, os, rfl, hbs, hcs⟩ := HS9.out (by omega)
            have hck := hcs m hml
            have hck2 : (u3.drewN d).cell? ⟨bs, os + m, none⟩ = some (.string (str l[m])) := hck
            have HIi0 := Lib.hid (isE_step (e := z) hml)
            have HWi0 := Lib.hid (whE_step (e := z) hml)
            have hy1 := HL40.out _ (List.getElem_mem hml)
            clear hcs
            generalize isE l z m = bi at *
            generalize whE l z m = bw at *
            generalize l[m] = o at *
            have hzo := str_size o
            have hzz := str_size z
            have hze := str_emp0 z
            have hoz := str_beq o z
            have HWi : Hid (whE l z (m + 1) = (bw || (decide (o = z) && !decide (z = [])))) := Lib.hid (by rw [HWi0.out]; simp)
            generalize decide (o = z) = dW at *
            generalize decide (z = []) = dz at *
            clear HWi0
            cases bi
            · by_cases hle : z.length ≤ o.length
              · have hlei : (z.length : Int) ≤ (o.length : Int) := by omega
                obtain ⟨E, hE⟩ : ∃ E, E = o.length - z.length := ⟨_, rfl⟩
                have hwE : IntKind.i64.wrap ((o.length : Int) - (z.length : Int)) = (E : Int) := by rw [IntWalk.i64_in _ (by omega)]; omega
                have hEl : (E : Int) ≤ (o.length : Int) := by omega
                have hdr := str_drop0 o E
                have hbe := str_beq (o.drop E) z
                have HIi : Hid (isE l z (m + 1) = decide (o.drop E = z)) := Lib.hid (by rw [HIi0.out, hE]; simp [hle])
                generalize decide (o.drop E = z) = dI at *
                clear HIi0 hE
                cases bw
                · cases dW
                  · go_wp2
                    go_quiet (fail)
                    go_wp2
                    exact ⟨⟨m + 1, d + nq, by omega, by rw [HIi.out] <;> simp, by rw [HWi.out] <;> simp, by go_num, rfl⟩, by simp [intOf]; omega⟩
                  · go_wp2
                    go_quiet (fail)
                    go_wp2
                    exact ⟨⟨m + 1, d + nq, by omega, by rw [HIi.out] <;> simp, by rw [HWi.out] <;> simp, by go_num, rfl⟩, by simp [intOf]; omega⟩
                · go_wp2
                  go_quiet (fail)
                  go_wp2
                  exact ⟨⟨m + 1, d + nq, by omega, by rw [HIi.out] <;> simp, by rw [HWi.out] <;> simp, by go_num, rfl⟩, by simp [intOf]; omega⟩
              · have hlei : ¬ (z.length : Int) ≤ (o.length : Int) := by omega
                have HIi : Hid (isE l z (m + 1) = false) := Lib.hid (by rw [HIi0.out]; simp [hle])
                clear HIi0
                cases bw
                · cases dW
                  · go_wp2
                    go_quiet (fail)
                    go_wp2
                    exact ⟨⟨m + 1, d + nq, by omega, by rw [HIi.out] <;> simp, by rw [HWi.out] <;> simp, by go_num, rfl⟩, by simp [intOf]; omega⟩
                  · go_wp2
                    go_quiet (fail)
                    go_wp2
                    exact ⟨⟨m + 1, d + nq, by omega, by rw [HIi.out] <;> simp, by rw [HWi.out] <;> simp, by go_num, rfl⟩, by simp [intOf]; omega⟩
                · go_wp2
                  go_quiet (fail)
                  go_wp2
                  exact ⟨⟨m + 1, d + nq, by omega, by rw [HIi.out] <;> simp, by rw [HWi.out] <;> simp, by go_num, rfl⟩, by simp [intOf]; omega⟩
            · have HIi : Hid (isE l z (m + 1) = true) := Lib.hid (by rw [HIi0.out]; simp)
              clear HIi0
              cases bw
              · cases dW
                · go_wp2
                  go_quiet (fail)
                  go_wp2
                  exact ⟨⟨m + 1, d + nq, by omega, by rw [HIi.out] <;> simp, by rw [HWi.out] <;> simp, by go_num, rfl⟩, by simp [intOf]; omega⟩
                · go_wp2
                  go_quiet (fail)
                  go_wp2
                  exact ⟨⟨m + 1, d + nq, by omega, by rw [HIi.out] <;> simp, by rw [HWi.out] <;> simp, by go_num, rfl⟩, by simp [intOf]; omega⟩
              · go_wp2
                go_quiet (fail)
                go_wp2
                exact ⟨⟨m + 1, d + nq, by omega, by rw [HIi.out] <;> simp, by rw [HWi.out] <;> simp, by go_num, rfl⟩, by simp [intOf]; omega⟩
          · have hmx : ¬ (m : Int) < (xs.length : Int) := by have := HLN.out; omega
            obtain rfl : m = l.length := by omega
            rw [HFA.out, HFW.out]
            have hww : (wh != wh) = false := by simp
            have HBD := Lib.hid (below_drews HB9.out d)
            go_wp2_with fail
            refine (HWJ.out _ HBD.out).mono ?_
            rintro e u4 ⟨rfl, hb10⟩
            have HB10 := Lib.hid (HBD.out.trans (hb10.mono HBD.out.size))
            clear hb10
            go_wp2
            exact ⟨⟨j + 1, by omega, by go_num, HB10.out⟩, by simp [intOf]; omega⟩
      · have hjl : ¬ (j : Int) < (p.length : Int) := by omega
        go_wp2
        go_ret
        exact ⟨rfl, HB.out.trans ((HB3.out.trans (HBE.out.mono HB3.out.size)).mono HB.out.size)⟩
theorem walk (w : World) (xs : List TxV) (a0 : Option Addr) (cap0 : Nat) (hz0 : xs.length ≤ 6000000000000) (hx0 : ∀ x ∈ xs, x.text.length ≤ maxLen) (hts : Ts w a0 xs) (hcx : ∀ x ∈ xs, x.text.length ≤ x.cap) (i k : UInt8) :
    Calls Try.prog 6 #[.slice a0 xs.length cap0, .int .u8 (i.toNat : Int), .int .u8 (k.toNat : Int)] w fun e w' => e = .returned (.bool true) ∧ Below w.heap.size w w' := by
  by_cases hall : xs.length ≤ 12 ∧ (∀ x ∈ xs, x.text.length ≤ 40)
  · exact small w xs a0 cap0 hts hall.1 hall.2 hcx i k
  · clear hcx
    have HALL := Lib.hid hall
    have HX := Lib.hid hx0
    clear hall hx0
    go_enter Try.func6, Try.ntmps6
    go_wp2_with fail
    refine (Bck.awake_any _).mono ?_
    rintro e' w1 ⟨rfl, hb2⟩
    have ts1 := hts.keep hb2
    go_wp2_with fail
    refine (ltexts_any xs a0 cap0 w1 ts1 hz0 HX.out).mono ?_
    rintro e' w2 ⟨hb3, hcase⟩
    have B2 := hb2.trans (hb3.mono hb2.size)
    rcases hcase with ⟨_, rfl⟩ | ⟨hok, aL, cL, rfl, _⟩
    · go_wp2
      go_ret
      exact ⟨rfl, B2⟩
    · have h12 : ¬ xs.length ≤ 12 := fun h => HALL.out ⟨h, hok⟩
      rw [decide_eq_false h12]
      clear HALL hok
      go_wp2
      go_ret
      exact ⟨rfl, B2⟩
end Go.Proofs.Ythlpapaaodjcjaa.backEnds
