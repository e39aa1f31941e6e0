/- Local. -/
import Derived.Test.YtidclldacbelhaaIb
import Derived.Test.YtidclldacbelhaaIc
namespace Go.Proofs.Ytidclldacbelhaa.Cut
open Go.RowKit Go.Maps Go.Proofs.Ytidclldacbelhaa.Crt Go.Proofs.Ytidclldacbelhaa.Suf Go.Proofs.Ytidclldacbelhaa.Reg
set_option maxRecDepth 100000
set_option linter.unusedVariables false

theorem cut_back (a : Option Addr) (l : Tx) (c d : Nat) (hd : d ≤ l.length) (hc : l.length ≤ c) (hn : a = none → c = 0) (w : World) (B : Nat) (hb : Bs w B a l) :
    ∃ A, (∀ W, (Instr.slice 22 (.slice a l.length c) (some (.int .i64 (d : Int))) none none).run Try.prog W = .ok (.slice A (l.length - d) (c - d)) W) ∧ Bs w B A (l.drop d) ∧ (A = none → c - d = 0) := by
  have ht : Try.prog.underlying 22 = some (.slice (Try.prog.elem 22)) := by simp [Program.elem, Try.underlying22]
  have he : Try.prog.elem 22 = 5 := by simp [Program.elem, Try.underlying22]
  refine ⟨if c = d then a else a.map (·.add d), fun W => ?_, fun h0 => ?_, fun hA => ?_⟩
  · rw [run_slice_l W 22 _ _ _ ht .i64 _ (by omega) (by omega), he, size_of5]
    simp [Result.andThen, sliced]
  · rw [List.length_drop] at h0
    obtain ⟨b', o', rfl, hb', hcs⟩ := hb (by omega)
    refine ⟨b', o' + d, by rw [if_neg (by omega)]; simp [Addr.add], hb', fun i hi => ?_⟩
    rw [List.length_drop] at hi
    rw [List.getElem_drop, Nat.add_assoc]
    exact hcs (d + i) (by omega)
  · by_cases e : c = d
    · omega
    · rw [if_neg e] at hA
      cases a with
      | none => have := hn rfl; omega
      | some x => cases hA
theorem cut_front (a : Option Addr) (l : Tx) (c k : Nat) (hk : k ≤ l.length) (hc : l.length ≤ c) (w : World) (B : Nat) (hb : Bs w B a l) :
    (∀ W, (Instr.slice 22 (.slice a l.length c) none (some (.int .i64 (k : Int))) none).run Try.prog W = .ok (.slice a k c) W) ∧ Bs w B a (l.take k) := by
  have ht : Try.prog.underlying 22 = some (.slice (Try.prog.elem 22)) := by simp [Program.elem, Try.underlying22]
  have he : Try.prog.elem 22 = 5 := by simp [Program.elem, Try.underlying22]
  refine ⟨fun W => ?_, fun h0 => ?_⟩
  · rw [run_slice_h W 22 _ _ _ ht .i64 _ (by omega) (by omega), he, size_of5]
    cases a with
    | none => simp [Result.andThen, sliced]
    | some x => obtain ⟨b, o, f⟩ := x; simp [Result.andThen, sliced, Addr.add]
  · have hl : 0 < l.length := by rw [List.length_take] at h0; omega
    obtain ⟨b', o', e, hb, hc⟩ := hb hl
    refine ⟨b', o', e, hb, fun i hi => ?_⟩
    have hi2 : i < l.length := by rw [List.length_take] at hi; omega
    rw [List.getElem_take]
    exact hc i hi2
theorem local_out (w : World) (s : Tx) (a : Option Addr) (cap : Nat) (x : Int) (hx : x < 0 ∨ (s.length : Int) < x) :
    Calls Try.prog 11 #[.slice a s.length cap, .int .i64 x] w fun e w' => e = .returned (.int .i64 (locI s x : Int)) ∧ Below w.heap.size w w' := by
  have HE := Lib.hid (locI_out hx)
  by_cases h0 : x < 0
  · clear hx
    go_enter Try.func11, Try.ntmps11
    go_wp2
    go_ret
    exact ⟨ret_int (by rw [HE.out]; rfl), Below.refl _ _⟩
  · have h1 : (s.length : Int) < x := by omega
    clear hx
    go_enter Try.func11, Try.ntmps11
    go_wp2
    go_ret
    exact ⟨ret_int (by rw [HE.out]; rfl), Below.refl _ _⟩
set_option maxHeartbeats 4000000 in
theorem local_in (w : World) (s : Tx) (a : Option Addr) (cap : Nat) (ha : Bs w w.heap.size a s) (hc : s.length ≤ cap) (hn : a = none → cap = 0) (hl : s.length ≤ 1000) (k : Nat) (hk : k ≤ s.length) :
    Calls Try.prog 11 #[.slice a s.length cap, .int .i64 (k : Int)] w fun e w' => e = .returned (.int .i64 (locN s k : Int)) ∧ Below w.heap.size w w' := by
  have h0 : ¬ (k : Int) < 0 := by omega
  have h1 : ¬ (s.length : Int) < (k : Int) := by omega
  have HA := Lib.hid ha
  obtain ⟨A, hcut, hbA, hnA⟩ := cut_back a s cap k hk hc hn w _ ha
  obtain ⟨hcut2, hbF⟩ := cut_front a s cap k hk hc w _ ha
  have HCA := Lib.hid (And.intro hbA hnA)
  have HCF := Lib.hid hbF
  clear ha hbA hnA hbF
  go_enter Try.func11, Try.ntmps11
  have HB0 := Lib.hid (Below.refl w.heap.size w)
  have HB0 := Lib.hid (Below.refl w.heap.size w)
  have HB0 := Lib.hid (Below.refl w.heap.size w)
  have HB0 := Lib.hid (Below.refl w.heap.size w)
  have HB0 := Lib.hid (Below.refl w.heap.size w)
  have HB0 := Lib.hid (Below.refl w.heap.size w)
  go_wp2_with fail
  refine wp_region_held_drew (S := fun w' => Below w.drew.heap.size w.drew w') (by kernel_rfl) (Below.refl _ _) (fun hH0 => ?_)
  have B0 := Lib.hid (below_drews HB0.out 1)
  change Hid (Below _ _ w.drew) at B0
  generalize w.drew = x0 at *
  refine held_take (i := 0) (d := 16) (oi := _) (v := ?_) rfl rfl (by kernel_rfl) (by kernel_rfl) (by kernel_rfl) (fun _ _ _ h => h) (Or.inl ⟨by rfl, ?_⟩) (by assumption) ?_
  rotate_left
  · (intro w hSw; clear hSw; go_simp; (try with_reducible rfl))
  simp only [Act.put, List.setIfInBounds_toArray, List.set_cons_zero, List.set_cons_succ]
  refine held_take (i := 1) (d := 17) (oi := _) (v := ?_) rfl rfl (by kernel_rfl) (by kernel_rfl) (by kernel_rfl) (fun _ _ _ h => h) (Or.inl ⟨by rfl, ?_⟩) (by assumption) ?_
  rotate_left
  · (intro w hSw; clear hSw; go_simp; (try with_reducible rfl))
  simp only [Act.put, List.setIfInBounds_toArray, List.set_cons_zero, List.set_cons_succ]
  refine held_take (i := 2) (d := 18) (oi := _) (v := ?_) rfl rfl (by kernel_rfl) (by kernel_rfl) (by kernel_rfl) (fun _ _ _ h => h) (Or.inl ⟨by rfl, ?_⟩) (by assumption) ?_
  rotate_left
  · (intro w hSw; clear hSw; go_simp; (try with_reducible rfl))
  simp only [Act.put, List.setIfInBounds_toArray, List.set_cons_zero, List.set_cons_succ]
  refine held_take (i := 3) (d := 19) (oi := _) (v := ?_) rfl rfl (by kernel_rfl) (by kernel_rfl) (by kernel_rfl) (fun _ _ _ h => h) (Or.inl ⟨by rfl, ?_⟩) (by assumption) ?_
  rotate_left
  · (intro w hSw; clear hSw; go_simp; (try with_reducible rfl))
  simp only [Act.put, List.setIfInBounds_toArray, List.set_cons_zero, List.set_cons_succ]
  refine held_take (i := 4) (d := 20) (oi := _) (v := ?_) rfl rfl (by kernel_rfl) (by kernel_rfl) (by kernel_rfl) (fun _ _ _ h => h) (Or.inl ⟨by rfl, ?_⟩) (by assumption) ?_
  rotate_left
  · (intro w hSw; clear hSw; go_simp; (try with_reducible rfl))
  simp only [Act.put, List.setIfInBounds_toArray, List.set_cons_zero, List.set_cons_succ]
  refine held_take (i := 5) (d := 21) (oi := _) (v := ?_) rfl rfl (by kernel_rfl) (by kernel_rfl) (by kernel_rfl) (fun _ _ _ h => h) (Or.inl ⟨by rfl, ?_⟩) (by assumption) ?_
  rotate_left
  · (intro w hSw; clear hSw; go_simp; (try with_reducible rfl))
  simp only [Act.put, List.setIfInBounds_toArray, List.set_cons_zero, List.set_cons_succ]
  refine wpAnyH_ready (rs := [6]) (by kernel_rfl) (by simp) ?_
  refine AllReadyH.cons rfl (fun K hK => ?_) AllReadyH.nil
  go_simp
  have hg1 := heap_alloc_new x0 (.cells #[.slice A (List.length s - k) (cap - k), .slice a k cap] 22)
  have hb : Below x0.heap.size x0 (x0.alloc (.cells #[.slice A (List.length s - k) (cap - k), .slice a k cap] 22)) := (Below.refl _ _).alloc (Nat.le_refl _) _
  generalize hgq : x0.heap.size = g at hg1 ⊢
  generalize x0.alloc (.cells #[.slice A (List.length s - k) (cap - k), .slice a k cap] 22) = x1 at *
  clear hgq
  refine hK.out _ _ hb (fun _ => ?_)
  have B1 := Lib.hid (B0.out.trans (hb.mono B0.out.size))
  refine wpAnyH_more (S' := fun w' => Below x1.heap.size x1 w') (fun w' h => hb.trans (h.mono hb.size)) _ _ _ _ ?_
  have hH1 : Below x1.heap.size x1 x1 := Below.refl _ _
  clear hK K hH0 hb B0
  have HCON := Lib.hid (concat_any x1 g (s.drop k) (s.take k) A a (cap - k) cap (by rw [List.length_drop, List.length_take, Nat.min_eq_left hk]; exact hg1) ((HCA.out.1.keep B1.out).more B1.out.size) ((HCF.out.keep B1.out).more B1.out.size) HCA.out.2 hn (by simp; omega))
  clear hg1
  refine wpAnyH_ready (rs := [7]) (by kernel_rfl) (by simp) ?_
  refine AllReadyH.cons rfl (fun K hK => ?_) AllReadyH.nil
  go_simp
  go_wp2_with (go_at_call 20; (with_reducible refine HCON.out.mono ?_); rintro e x2 ⟨aT, cT, rfl, hbT, _, hb⟩; rw [show (s.drop k ++ s.take k).length = s.length from turnAt_length hk])
  change Bs x2 x2.heap.size aT (turnAt s k) at hbT
  have HT := Lib.hid hbT
  clear hbT HCON
  refine hK.out _ _ hb (fun _ => ?_)
  have B2 := Lib.hid (B1.out.trans (hb.mono B1.out.size))
  refine wpAnyH_more (S' := fun w' => Below x2.heap.size x2 w') (fun w' h => hb.trans (h.mono hb.size)) _ _ _ _ ?_
  have hH2 : Below x2.heap.size x2 x2 := Below.refl _ _
  clear hK K hH1 hb B1
  have HFR := fronts_any x2 (turnAt s k) aT cT HT.out (by rw [turnAt_length hk]; omega)
  rw [turnAt_length hk] at HFR
  have HFR := Lib.hid HFR
  refine wpAnyH_ready (rs := [8]) (by kernel_rfl) (by simp) ?_
  refine AllReadyH.cons rfl (fun K hK => ?_) AllReadyH.nil
  go_simp
  go_wp2_with (go_at_call 19; (with_reducible refine HFR.out.mono ?_); rintro e x3 ⟨gT, hgT, rfl, hz, hb⟩)
  rw [turnAt_length hk] at hz ⊢
  have HZ := Lib.hid hz
  clear hz HFR HT hgT
  refine hK.out _ _ hb (fun _ => ?_)
  have B3 := Lib.hid (B2.out.trans (hb.mono B2.out.size))
  refine wpAnyH_more (S' := fun w' => Below x3.heap.size x3 w') (fun w' h => hb.trans (h.mono hb.size)) _ _ _ _ ?_
  have hH3 : Below x3.heap.size x3 x3 := Below.refl _ _
  clear hK K hH2 hb B2
  refine held_take (i := 9) (d := 5) (oi := _) (v := ?_) rfl rfl (by kernel_rfl) (by kernel_rfl) (by kernel_rfl) (fun _ _ _ h => h) (Or.inl ⟨by rfl, ?_⟩) (by assumption) ?_
  rotate_left
  · (intro w hSw; clear hSw; go_simp; (try with_reducible rfl))
  simp only [Act.put, List.setIfInBounds_toArray, List.set_cons_zero, List.set_cons_succ]
  refine wpAnyH_done (by kernel_rfl) ?_ _
  go_wp2_with fail
  generalize hx3 : x3 = x at *
  have HX3 := Lib.hid hx3
  clear hx3
  go_loopw [6] (fun v wr => ∃ j : Nat, 1 ≤ j ∧ j ≤ k + 1 ∧ v = .int .i64 (j : Int) ∧ (∀ r, 1 ≤ r → r < j → ¬ Crt.Loc s k r) ∧ x = wr) (fun v _ => k + 1 - (intOf v).toNat)
  case atStart => exact ⟨1, Nat.le_refl _, by omega, rfl, fun r h1 h2 => by omega, rfl⟩
  case round =>
    obtain ⟨j, hj1, hj2, rfl, hno, hw⟩ := hrel
    subst hw
    have HNO := Lib.hid hno
    clear hno
    by_cases hjk : j ≤ k
    · have hjk2 : (j : Int) ≤ (k : Int) := by omega
      obtain ⟨V, hV, hhit⟩ := near_at hk hj1 hjk
      obtain ⟨D, hD⟩ : ∃ D, D = s.length - j := ⟨_, rfl⟩
      obtain ⟨E, hE⟩ : ∃ E, E = s.length - k := ⟨_, rfl⟩
      obtain ⟨M, hM⟩ : ∃ M, M = min j E := ⟨_, rfl⟩
      rw [← hE, ← hM] at hhit
      rw [← hD] at hV
      have hwD : IntKind.i64.wrap ((s.length : Int) - (j : Int)) = (D : Int) := by rw [IntWalk.i64_in _ (by omega)]; omega
      have hwE : IntKind.i64.wrap ((s.length : Int) - (k : Int)) = (E : Int) := by rw [IntWalk.i64_in _ (by omega)]; omega
      have hmin : min (j : Int) (E : Int) = (M : Int) := by omega
      have hDl : (D : Int) < (s.length : Int) := by omega
      have hcD : x.cell? ⟨gT, D, none⟩ = some (.int .i64 (V : Int)) := by
        obtain ⟨hlt, hVe⟩ := List.getElem?_eq_some_iff.1 hV
        rw [cell_of_row x gT _ _ 3 (0, 0) HZ.out, icells_at _ D hlt, hVe]
      by_cases hh : M ≤ V
      · have hh2 : (M : Int) ≤ (V : Int) := by omega
        have HE : Hid (locN s k = j) := Lib.hid (locN_is (fun e => by rw [e] at hk; simp at hk; omega) (leastLoc_first (hhit.1 hh) HNO.out))
        clear hhit hV hD hE hM hh
        go_wp2
        go_ret
        exact ⟨ret_int (by rw [HE.out]), B3.out⟩
      · have hh2 : ¬ (M : Int) ≤ (V : Int) := by omega
        have HNL := Lib.hid (fun h => hh (hhit.2 h))
        clear hhit hV hD hE hM hh
        go_wp2
        exact ⟨⟨j + 1, by omega, by omega, by go_num, fun r h1 h2 => by
          by_cases e : r = j
          · rw [e]; exact HNL.out
          · exact HNO.out r h1 (by omega), trivial⟩, by simp [intOf]; omega⟩
    · have hjk2 : ¬ (j : Int) ≤ (k : Int) := by omega
      obtain rfl : j = k + 1 := by omega
      have HFR2 := Lib.hid (fronts_any x s a cap ((HA.out.keep B3.out).more B3.out.size) (by omega))
      go_wp2_with (go_at_call 19; refine HFR2.out.mono ?_; rintro e x4 ⟨g4, hg4, rfl, hz4, hb4⟩; have HZ4 := Lib.hid hz4; have HB4 := Lib.hid (B3.out.trans (hb4.mono B3.out.size)); clear hz4 hb4 hg4)
      go_loopw [7] (fun v wr => ∃ j : Nat, k + 1 ≤ j ∧ (j ≤ s.length ∨ j = k + 1) ∧ v = .int .i64 (j : Int) ∧ (∀ r, 1 ≤ r → r < j → ¬ Crt.Loc s k r) ∧ x4 = wr) (fun v _ => s.length + 1 - (intOf v).toNat)
      case atStart => exact ⟨k + 1, Nat.le_refl _, .inr rfl, by go_num, HNO.out, rfl⟩
      case round =>
        obtain ⟨j, hj1, hj2, rfl, hno, hw⟩ := hrel
        subst hw
        have HN2 := Lib.hid hno
        clear hno
        by_cases hjn : j < s.length
        · have hjn2 : (j : Int) < (s.length : Int) := by omega
          obtain ⟨V, hV, hhit⟩ := far_at (s := s) (k := k) (j := j) (by omega) hjn
          obtain ⟨D, hD⟩ : ∃ D, D = s.length - j := ⟨_, rfl⟩
          obtain ⟨M, hM⟩ : ∃ M, M = min k D := ⟨_, rfl⟩
          rw [← hD, ← hM] at hhit
          have hwD : IntKind.i64.wrap ((s.length : Int) - (j : Int)) = (D : Int) := by rw [IntWalk.i64_in _ (by omega)]; omega
          have hmin : min (k : Int) (D : Int) = (M : Int) := by omega
          have hcD : x4.cell? ⟨g4, j, none⟩ = some (.int .i64 (V : Int)) := by
            obtain ⟨hlt, hVe⟩ := List.getElem?_eq_some_iff.1 hV
            rw [cell_of_row x4 g4 _ _ 3 (0, 0) HZ4.out, icells_at _ j hlt, hVe]
          by_cases hh : M ≤ V
          · have hh2 : (M : Int) ≤ (V : Int) := by omega
            have HE : Hid (locN s k = j) := Lib.hid (locN_is (fun e => by rw [e] at hjn; simp at hjn) (leastLoc_first (hhit.1 hh) HN2.out))
            clear hhit hV hD hM hh
            go_wp2
            go_ret
            exact ⟨ret_int (by rw [HE.out]), HB4.out⟩
          · have hh2 : ¬ (M : Int) ≤ (V : Int) := by omega
            have HNL := Lib.hid (fun h => hh (hhit.2 h))
            clear hhit hV hD hM hh
            go_wp2
            exact ⟨⟨j + 1, by omega, .inl (by omega), by go_num, fun r h1 h2 => by
              by_cases e : r = j
              · rw [e]; exact HNL.out
              · exact HN2.out r h1 (by omega), trivial⟩, by simp [intOf]; omega⟩
        · have hjn2 : ¬ (j : Int) < (s.length : Int) := by omega
          have hmx := locN_last (by omega) HN2.out
          go_wp2
          go_ret
          exact ⟨ret_int rfl, HB4.out⟩
end Go.Proofs.Ytidclldacbelhaa.Cut
