/- The contract of fill. -/
import Derived.Test.YtnbfdjpmppflmaaDd
import Derived.WalkMore
namespace Go.Proofs.Ytnbfdjpmppflmaa.Dfa
open Go.RowKit Go.Maps Go.Proofs.Ytnbfdjpmppflmaa.Tri Go.Proofs.Ytnbfdjpmppflmaa.Lnk Go.Proofs.Ytnbfdjpmppflmaa.Reg
set_option maxRecDepth 100000

/-- A copy of a row of the table into another one, or of nothing. -/
theorem copy_row {w0 w : World} {t g : Nat} {pa pb : Option Addr} {cs : Array Value} {n wd : Nat} {F : Nat → Nat → Int} (hf : Fl w0 t g pa pb cs n wd F w) {ops : Array Oper} {rest : List Oper} {o : Oper} {a : Act} {Q : Exit → Act → World → Prop} (hgd : o.guard = none) (d s : Operand)
    (ho : o.op = .call { callee := .builtin .copy, args := #[d, s], argTypes := #[71, 71] }) {i : Nat} (hi : i < n) (dCap : Nat) (hd : a.eval d = .slice (some ⟨g, i * wd, none⟩) wd dCap) (A : Option Addr) (m c : Nat) (hs : a.eval s = .slice A m c) (R : Nat → Int)
    (hsrc : (m = 0 ∧ ∀ k, k < wd → F i k = R k) ∨ (m = wd ∧ ∃ j, j < n ∧ A = some ⟨g, j * wd, none⟩ ∧ ∀ k, k < wd → F j k = R k))
    (h : ∀ w', Fl w0 t g pa pb cs n wd (putRow F i R) w' → Km g w w' → wpList Try.prog ops Q rest (a.put o.dst (goInt m)) w') : wpList Try.prog ops Q (o :: rest) a w := by
  have hsz : (Try.prog.info? 3).map (·.size) = some 1 := by kernel_rfl
  rcases hsrc with ⟨rfl, hR⟩ | ⟨rfl, j, hj, rfl, hR⟩
  · refine wpList_copy_nothing hgd d s 71 71 ho 3 und71 hsz _ _ wd dCap 0 c hd hs (by simp) (h w (hf.congr (tabF_congr fun i' k _ hk => ?_)) (Km.refl g w))
    by_cases e : i' = i
    · subst e; rw [putRow_at, hR k hk]
    · rw [putRow_other _ _ _ e]
  · have hl : (Cls.ivals ((List.range m).map R)).length = m := by simp [Cls.ivals]
    have hle := row_le (wd := m) hi
    have hcz : (Cls.icells (tabF F n m)).size = n * m := by rw [Cls.icells_size, tabF_len]
    refine wpList_copy_own hgd d s 71 71 ho 3 und71 hsz g (i * m) m dCap ⟨g, j * m, none⟩ m c hd hs _ 3 hf.2.2.2 (Cls.ivals ((List.range m).map R)) (by rw [hl]; simp) ?_ (by rw [hl, hcz]; exact hle) ?_ ?_
    · intro k v hv
      have hk : k < m := by rw [← hl]; exact (List.getElem?_eq_some_iff.1 hv).1
      have ea : (⟨g, j * m, none⟩ : Addr).add k = ⟨g, j * m + k, none⟩ := by unfold Addr.add; split <;> simp_all
      rw [ea, hf.cell hj hk, hR k hk]
      simpa [Cls.ivals, hk] using hv
    · intro v hv
      obtain ⟨x, _, rfl⟩ := List.mem_map.1 hv
      rfl
    · rw [hl]
      exact h _ (hf.copy hi R) (Km.row w g _)
set_option maxHeartbeats 8000000 in
theorem dfill_any (w0 w : World) (st tt sx x t g : Nat) (l : List Tx) (wd : Nat) (hwd : wd = Cls.cnt (Cls.stands l) + 1) (hn : (paths l).length ≤ 160) (htr : Tr w0 st tt (paths l) l) (hli : Li w0 sx x (paths l) l)
    (h : Fl w0 t g (some ⟨tt, 0, none⟩) (some ⟨x, 0, none⟩) (Cls.cc (Cls.stands l)) (paths l).length wd (part l []) w) :
    Calls Try.prog 36 #[.pointer (some ⟨t, 0, none⟩)] w fun e w' => (∃ v, e = .returned v) ∧ Fl w0 t g (some ⟨tt, 0, none⟩) (some ⟨x, 0, none⟩) (Cls.cc (Cls.stands l)) (paths l).length wd (part l (ord (paths l))) w' := by
  have HW := Lib.hid htr.2.1
  have HFL := Lib.hid h
  have HT : Hid (∀ X, Below w0.heap.size w0 X → Tr X st tt (paths l) l) := Lib.hid fun X hX => htr.keep hX
  have HL : Hid (∀ X, Below w0.heap.size w0 X → Li X sx x (paths l) l) := Lib.hid fun X hX => hli.keep hX
  have HO := Lib.hid (order_own w sx x (paths l) l (hli.keep h.1))
  obtain ⟨c0, c1, c2, c3⟩ := h.2.2.1.cells
  have hlen := ordN_len HW.out
  have HWD := Lib.hid hwd
  have hwp : 0 < wd := by omega
  have hwl : wd ≤ 257 := by have := Cls.cnt_le (Cls.stands l); omega
  clear htr hli h hwd
  go_enter Try.func36, Try.ntmps36
  go_wp2
  go_step3
  go_wp2
  go_step3
  go_wp2_with (go_at_call 59; (with_reducible refine HO.out.mono ?_); rintro e w1 ⟨v1, rfl, ho1, hb1⟩; obtain ⟨a1, k1, rfl, _, _⟩ := own_is ho1)
  have HF1 := Lib.hid (HFL.out.keep hb1)
  have HO1 := Lib.hid ho1
  have hgw : g < w.heap.size := txt_lt HFL.out.2.2.2
  clear c0 c1 c2 c3 ho1 hb1 HO HFL
  generalize w.heap.size = ws at *
  go_loopw [13] (fun i wr => ∃ k : Nat, k ≤ (ordN (paths l)).length ∧ i = .int .i64 k ∧ Fl w0 t g (some ⟨tt, 0, none⟩) (some ⟨x, 0, none⟩) (Cls.cc (Cls.stands l)) (paths l).length wd (part l ((ord (paths l)).take k)) wr ∧ wr.ownsRow ws 3 1 (.slice a1 (ordN (paths l)).length k1) (ordN (paths l)).length (ivals (ordN (paths l)))) (fun i _ => (ordN (paths l)).length - (intOf i).toNat)
  case atStart => exact ⟨0, by omega, rfl, by rw [List.take_zero]; exact HF1.out, HO1.out⟩
  case round =>
    obtain ⟨k, hk, rfl, hfl, ho⟩ := hrel
    by_cases hlt : k < (ordN (paths l)).length
    · have hlt2 : (k : Int) < ((ordN (paths l)).length : Int) := by omega
      obtain ⟨a2, k2, e2, hi2, _⟩ := own_is ho
      cases e2
      obtain ⟨b2, o2, rfl, hb2, hc2⟩ := hi2 (by omega)
      have hst := hc2 k hlt
      have hkk : k < (ord (paths l)).length := by rw [ord_len HW.out]; omega
      have hpm := ord_sub HW.out _ (List.getElem_mem hkk)
      obtain ⟨i, hi, ei, ei2, _⟩ := place_mem hpm
      have hsi : (ordN (paths l))[k] = (i : Int) := by simp only [ordN, List.getElem_map]; exact ei
      rw [hsi] at hst
      have HNEW := Lib.hid (ord_new HW.out hkk)
      have HFALL := Lib.hid (ord_fall HW.out hkk)
      have HTK : Hid ((ord (paths l)).take (k + 1) = (ord (paths l)).take k ++ [(ord (paths l))[k]]) := Lib.hid (List.take_succ_eq_append_getElem hkk)
      have HPM := Lib.hid hpm
      have HEI := Lib.hid ei
      have HEI2 := Lib.hid ei2
      have HFK := Lib.hid hfl
      have HOK := Lib.hid ho
      obtain ⟨c0, c1, c2, c3⟩ := hfl.2.2.1.cells
      clear hfl ho hi2 hc2 hsi hpm ei ei2
      generalize (ord (paths l))[k] = p at *
      generalize (ord (paths l)).take k = Q at *
      have HPI : Hid ((paths l)[i]? = some p) := Lib.hid (by rw [List.getElem?_eq_getElem hi, HEI2.out])
      have HBW : Hid (Below wr.heap.size wr wr) := Lib.hid (Below.refl _ _)
      have HLD : Hid (∀ X, Below wr.heap.size wr X → X.cell? ⟨t, 0, none⟩ = some (.pointer (some ⟨tt, 0, none⟩))) := Lib.hid fun X hX => (HFK.out.keep hX).2.2.1.cells.1
      have HRW : Hid (∀ (j : Nat) X, j < (paths l).length → Below w0.heap.size w0 X → Bd X t (some ⟨tt, 0, none⟩) (some ⟨x, 0, none⟩) (Cls.cc (Cls.stands l)) (wd : Int) (.slice (some ⟨g, 0, none⟩) ((paths l).length * wd) ((paths l).length * wd)) → Calls Try.prog 47 #[.pointer (some ⟨t, 0, none⟩), .int .i64 (j : Int)] X fun e w' => e = .returned (.slice (some ⟨g, j * wd, none⟩) wd ((paths l).length * wd - j * wd)) ∧ ∃ q, w' = X.drewN q) := Lib.hid fun j X hj hX hB => by
        obtain ⟨d0, d1, d2, d3⟩ := hB.cells
        exact row_in X t (paths l).length g wd j hj (by omega) (by have := Nat.mul_le_mul hn hwl; omega) (states_any X t tt (paths l) l st (HT.out X hX) d0) d2 d3
      have HROW : Hid (∀ X, Below wr.heap.size wr X → Calls Try.prog 47 #[.pointer (some ⟨t, 0, none⟩), .int .i64 (i : Int)] X fun e w' => e = .returned (.slice (some ⟨g, i * wd, none⟩) wd ((paths l).length * wd - i * wd)) ∧ ∃ q, w' = X.drewN q) := Lib.hid fun X hX => HRW.out i X hi (HFK.out.keep hX).1 (HFK.out.keep hX).2.2.1
      have HKC : Hid (∀ X, Below wr.heap.size wr X → Calls Try.prog 60 #[.pointer (some ⟨tt, 0, none⟩), .int .i64 (i : Int)] X (GivesText X (rkids (paths l) p))) := Lib.hid fun X hX => by
        have := kids_any X st tt (paths l) l (HT.out _ (HFK.out.keep hX).1) (place (paths l) p) (wf_nat (place_ge _ _) (by have := place_lt (paths l) p; omega))
        rwa [kids_eq HPM.out, HEI.out] at this
      have HSRC : ∃ (fv : Int) (A2 : Option Addr) (n2 c2 : Nat), Hid (∀ X, Below wr.heap.size wr X → Calls Try.prog 61 #[.pointer (some ⟨x, 0, none⟩), .int .i64 (i : Int)] X fun e w' => e = .returned (.int .i64 fv) ∧ Below X.heap.size X w') ∧ Hid (∀ X, Below wr.heap.size wr X → Calls Try.prog 47 #[.pointer (some ⟨t, 0, none⟩), .int .i64 fv] X fun e w' => e = .returned (.slice A2 n2 c2) ∧ ∃ q, w' = X.drewN q) ∧ Hid ((n2 = 0 ∧ ∀ k, k < wd → part l Q i k = bas l p k) ∨ (n2 = wd ∧ ∃ j, j < (paths l).length ∧ A2 = some ⟨g, j * wd, none⟩ ∧ ∀ k, k < wd → part l Q j k = bas l p k)) := by
        have hfa : ∀ X, Below wr.heap.size wr X → Calls Try.prog 61 #[.pointer (some ⟨x, 0, none⟩), .int .i64 (i : Int)] X fun e w' => e = .returned (.int .i64 (failOf (paths l) p)) ∧ Below X.heap.size X w' := fun X hX => by
          have := fail_any X sx x (paths l) l (HL.out X (HFK.out.keep hX).1) (i : Int)
          rwa [lkAt_in l hi, HEI2.out] at this
        by_cases hp0 : p = []
        · refine ⟨-1, none, 0, 0, Lib.hid fun X hX => ?_, Lib.hid fun X hX => ?_, Lib.hid (Or.inl ⟨rfl, fun k _ => ?_⟩)⟩
          · have := hfa X hX
            rw [hp0] at this
            exact this
          · obtain ⟨d0, d1, d2, d3⟩ := (HFK.out.keep hX).2.2.1.cells
            refine (row_out X _ (paths l).length (-1) (by omega) (states_any X t tt (paths l) l st (HT.out X (HFK.out.keep hX).1) d0)).mono ?_
            rintro e w' ⟨rfl, rfl⟩
            exact ⟨rfl, 0, rfl⟩
          · rw [part_out HPI.out HNEW.out, bas, if_pos hp0]
        · obtain ⟨j, hj, ej, ej2, _⟩ := place_mem (Spa.fallT_mem HW.out p)
          refine ⟨(j : Int), some ⟨g, j * wd, none⟩, wd, (paths l).length * wd - j * wd, Lib.hid fun X hX => ?_, Lib.hid fun X hX => HRW.out j X hj (HFK.out.keep hX).1 (HFK.out.keep hX).2.2.1, Lib.hid (Or.inr ⟨rfl, j, hj, rfl, fun k _ => ?_⟩)⟩
          · have := hfa X hX
            rwa [Spa.fail_fall HW.out hp0, ej] at this
          · rw [part_in (p := Spa.fallT (paths l) p) (by rw [List.getElem?_eq_getElem hj, ej2]) (HFALL.out hp0), bas, if_neg hp0]
      obtain ⟨fv, A2, n2, q2, HFAIL, HROW2, HS2⟩ := HSRC
      go_wp2
      refine wp_region_held_drew (S := fun w' => Below wr.drew.heap.size wr.drew w') (by kernel_rfl) (Below.refl _ _) (fun hH0 => ?_)
      have B0 := Lib.hid (below_drews HBW.out 1)
      change Hid (Below _ _ wr.drew) at B0
      generalize wr.drew = x0 at *
      refine held_take (i := 0) (d := 17) (oi := _) (v := ?_) rfl rfl (by kernel_rfl) (by kernel_rfl) (by kernel_rfl) (fun _ _ _ h => h) (Or.inl ⟨by rfl, ?_⟩) (by assumption) ?_
      rotate_left
      · (intro w hSw; clear hSw; go_simp; (try with_reducible rfl))
      simp only [Act.put, List.setIfInBounds_toArray, List.set_cons_zero, List.set_cons_succ]
      refine held_take (i := 1) (d := 18) (oi := _) (v := ?_) rfl rfl (by kernel_rfl) (by kernel_rfl) (by kernel_rfl) (fun _ _ _ h => h) (Or.inl ⟨by rfl, ?_⟩) (by assumption) ?_
      rotate_left
      · (intro w hSw; clear hSw; go_simp; (try with_reducible rfl))
      simp only [Act.put, List.setIfInBounds_toArray, List.set_cons_zero, List.set_cons_succ]
      refine held_take (i := 3) (d := 20) (oi := _) (v := ?_) rfl rfl (by kernel_rfl) (by kernel_rfl) (by kernel_rfl) (fun _ _ _ h => h) (Or.inl ⟨by rfl, ?_⟩) (by assumption) ?_
      rotate_left
      · (intro w hSw; clear hSw; go_simp; (try with_reducible rfl))
      simp only [Act.put, List.setIfInBounds_toArray, List.set_cons_zero, List.set_cons_succ]
      refine held_take (i := 4) (d := 21) (oi := _) (v := ?_) rfl rfl (by kernel_rfl) (by kernel_rfl) (by kernel_rfl) (fun _ _ _ h => h) (Or.inl ⟨by rfl, ?_⟩) (by assumption) ?_
      rotate_left
      · (intro w hSw; clear hSw; go_simp; (try with_reducible rfl))
      simp only [Act.put, List.setIfInBounds_toArray, List.set_cons_zero, List.set_cons_succ]
      refine held_take (i := 5) (d := 22) (oi := _) (v := ?_) rfl rfl (by kernel_rfl) (by kernel_rfl) (by kernel_rfl) (fun _ _ _ h => h) (Or.inl ⟨by rfl, ?_⟩) (by assumption) ?_
      rotate_left
      · (intro w hSw; clear hSw; go_simp; (try with_reducible rfl))
      simp only [Act.put, List.setIfInBounds_toArray, List.set_cons_zero, List.set_cons_succ]
      refine held_take (i := 6) (d := 23) (oi := _) (v := ?_) rfl rfl (by kernel_rfl) (by kernel_rfl) (by kernel_rfl) (fun _ _ _ h => h) (Or.inl ⟨by rfl, ?_⟩) (by assumption) ?_
      rotate_left
      · (intro w hSw; have hld := HLD.out w (B0.out.trans (hSw.mono B0.out.size)); clear hSw; go_simp; (try with_reducible rfl))
      simp only [Act.put, List.setIfInBounds_toArray, List.set_cons_zero, List.set_cons_succ]
      refine held_take (i := 7) (d := 24) (oi := _) (v := ?_) rfl rfl (by kernel_rfl) (by kernel_rfl) (by kernel_rfl) (fun _ _ _ h => h) (Or.inl ⟨by rfl, ?_⟩) (by assumption) ?_
      rotate_left
      · (intro w hSw; clear hSw; go_simp; (try with_reducible rfl))
      simp only [Act.put, List.setIfInBounds_toArray, List.set_cons_zero, List.set_cons_succ]
      refine wpAnyH_ready (rs := [2]) (by kernel_rfl) (by simp) ?_
      refine AllReadyH.cons rfl (fun K hK => ?_) AllReadyH.nil
      go_simp
      go_wp2_with (go_at_call 47; (with_reducible refine (HROW.out _ B0.out).mono ?_); rintro e x' ⟨rfl, q, rfl⟩)
      have hb : Below x0.heap.size x0 (x0.drewN q) := below_drews (Below.refl _ _) q
      generalize x0.drewN q = x1 at *
      refine hK.out _ _ hb (fun _ => ?_)
      have B1 := Lib.hid (B0.out.trans (hb.mono B0.out.size))
      refine wpAnyH_more (S' := fun w' => Below x1.heap.size x1 w') (fun w' h => hb.trans (h.mono hb.size)) _ _ _ _ ?_
      have hH1 : Below x1.heap.size x1 x1 := Below.refl _ _
      clear hK K hH0 hb B0
      refine wpAnyH_ready (rs := [8]) (by kernel_rfl) (by simp) ?_
      refine AllReadyH.cons rfl (fun K hK => ?_) AllReadyH.nil
      go_simp
      go_wp2_with (go_at_call 60; (with_reducible refine (HKC.out _ B1.out).mono ?_); rintro e x2 ⟨ak, ck, rfl, htx, hkc, hkn, hb⟩)
      refine hK.out _ _ hb (fun _ => ?_)
      have B2 := Lib.hid (B1.out.trans (hb.mono B1.out.size))
      refine wpAnyH_more (S' := fun w' => Below x2.heap.size x2 w') (fun w' h => hb.trans (h.mono hb.size)) _ _ _ _ ?_
      have hH2 : Below x2.heap.size x2 x2 := Below.refl _ _
      clear hK K hH1 hb B1
      have HTX := Lib.hid htx
      have HKCC := Lib.hid hkc
      clear htx hkc hkn
      refine held_take (i := 9) (d := 4) (oi := _) (v := ?_) rfl rfl (by kernel_rfl) (by kernel_rfl) (by kernel_rfl) (fun _ _ _ h => h) (Or.inl ⟨by rfl, ?_⟩) (by assumption) ?_
      rotate_left
      · (intro w hSw; clear hSw; go_simp; (try with_reducible rfl))
      simp only [Act.put, List.setIfInBounds_toArray, List.set_cons_zero, List.set_cons_succ]
      refine held_take (i := 10) (d := 5) (oi := _) (v := ?_) rfl rfl (by kernel_rfl) (by kernel_rfl) (by kernel_rfl) (fun _ _ _ h => h) (Or.inl ⟨by rfl, ?_⟩) (by assumption) ?_
      rotate_left
      · (intro w hSw; clear hSw; go_simp; (try with_reducible rfl))
      simp only [Act.put, List.setIfInBounds_toArray, List.set_cons_zero, List.set_cons_succ]
      refine wpAnyH_done (by kernel_rfl) ?_ _
      have HK0 : Hid (Below wr.heap.size wr x2) := B2
      have HF2 := Lib.hid (HFK.out.keep HK0.out)
      obtain ⟨d0, d1, d2, d3⟩ := HF2.out.2.2.1.cells
      have hsz2 := HK0.out.size
      clear c0 c1 c2 c3 HROW HKC hH2
      generalize hks : rkids (paths l) p = ks0 at *
      have HKS := Lib.hid hks
      clear hks
      go_wp2_with (first
        | (go_at_call 61; (with_reducible refine (HFAIL.out _ HK0.out).mono ?_); rintro e x3 ⟨rfl, hb3⟩; have HB3 := Lib.hid (HK0.out.trans (hb3.mono hsz2)); have HF3 := Lib.hid (HF2.out.keep hb3); have HB23 := Lib.hid hb3; clear hb3)
        | (go_at_call 47; (with_reducible refine (HROW2.out _ HB3.out).mono ?_); rintro e x4 ⟨rfl, q4, rfl⟩; have HF4 := Lib.hid (HF3.out.keep (below_drews (Below.refl _ _) q4)); have HB24 := Lib.hid (below_drews HB23.out q4))
        | ((with_reducible refine copy_row HF4.out rfl (.tmp 26) (.tmp 34) rfl hi _ rfl _ _ _ rfl (bas l p) HS2.out ?_); intro x5 hf5 hk5; have HF5 := Lib.hid hf5; have HK5 := Lib.hid ((Km.of_below (g := g) HB24.out).trans hk5); clear hf5 hk5))
      have HF6 : Hid (Fl w0 t g (some ⟨tt, 0, none⟩) (some ⟨x, 0, none⟩) (Cls.cc (Cls.stands l)) (paths l).length wd (putRow (part l Q) i (mid l p 0)) x5) := Lib.hid (by rw [mid_zero]; exact HF5.out)
      have HKB : ∃ kb, Hid (∀ X, Km g x2 X → ∀ j (h : j < ks0.length), X.cell? ⟨kb, j, none⟩ = some (.int .u8 (ks0[j].toNat : Int))) ∧ Cut kb ks0.length 0 (.slice ak ks0.length ck) := by
        rcases Nat.eq_zero_or_pos ks0.length with h0 | h0
        · exact ⟨0, Lib.hid fun X _ j h => by omega, ak, ck, rfl, by have := HKCC.out; omega, fun h => by omega⟩
        · obtain ⟨kb, kcs, e, _, hh, hc⟩ := HTX.out h0
          refine ⟨kb, Lib.hid fun X hX j h => ?_, ak, ck, rfl, by have := HKCC.out; omega, fun _ => e⟩
          have hg : kb ≠ g := fun q => by
            subst q
            rw [HF2.out.2.2.2] at hh
            simp at hh
          rw [cell_of_row X kb j kcs 5 (0, 0) ((hX.2 kb (txt_lt hh) hg).trans hh)]
          exact hc j h
      obtain ⟨kb, HKB, hcut0⟩ := HKB
      have HCUT := Lib.hid hcut0
      clear hcut0 d0 d1 d2 d3 HF2 HF3 HF4 HF5 HB3 HB23 HB24 HROW2 HFAIL HS2 HFALL HTX HKCC HLD
      go_loopw [5, 38] (fun kv iv wi => ∃ k' j : Nat, k' ≤ wd ∧ iv = .int .i64 (k' : Int) ∧ Cut kb ks0.length j kv ∧ Along l p j k' ∧ Fl w0 t g (some ⟨tt, 0, none⟩) (some ⟨x, 0, none⟩) (Cls.cc (Cls.stands l)) (paths l).length wd (putRow (part l Q) i (mid l p k')) wi ∧ Km g x2 wi) (fun _ iv _ => wd - (intOf iv).toNat)
      case atStart => exact ⟨0, 0, by omega, rfl, HCUT.out, Along.start l p, HF6.out, HK5.out⟩
      case round =>
        obtain ⟨k', j, hk', rfl, hcut, hal, hfi, hki⟩ := hrel
        obtain ⟨A, cA, rfl, hcA, hA⟩ := hcut
        have HAL := Lib.hid hal
        have HFI := Lib.hid hfi
        have HKI := Lib.hid hki
        have hjm : j ≤ ks0.length := by have := HKS.out; subst this; exact HAL.out.1
        clear hal hfi hki
        by_cases hkw : k' < wd
        · have hkw2 : (k' : Int) < (wd : Int) := by omega
          by_cases hjl : j < ks0.length
          · have hz : (((ks0.length - j : Nat) : Int) == 0) = false := beq_eq_false_iff_ne.2 (by omega)
            obtain rfl := hA hjl
            have hkc := HKB.out wr HKI.out j hjl
            have hpz : 0 < ks0.length - j := by omega
            have hcl := HFI.out.2.2.1.at ks0[j]
            have hct := (ks0[j]).toNat_lt
            have hct2 : ((ks0[j]).toNat : Int) < 256 := by omega
            have hcz := hcl
            by_cases hce : Cls.cls (Cls.stands l) ks0[j] = k'
            · have hbq : ((Cls.cls (Cls.stands l) ks0[j] : Int) == (k' : Int)) = true := beq_iff_eq.2 (by omega)
              have HCE := Lib.hid hce
              clear hce
              clear hcz
              go_wp2
              go_quiet (fail)
              go_wp2
              clear hcl
              have hbd : Below wr.heap.size wr (wr.drewN nq).drew := below_drews (Below.refl _ _) (nq + 1)
              have HF7 := Lib.hid (HFI.out.keep hbd)
              have HK7 := Lib.hid (HKI.out.trans (Km.of_below (g := g) hbd))
              have e0 := HF7.out.2.2.1.cells.1
              have ek := HKB.out _ HK7.out j hjl
              clear hbd
              refine wp_region_held_drew (S := fun w' => w'.cell? ⟨t, 0, none⟩ = some (.pointer (some ⟨tt, 0, none⟩)) ∧ w'.cell? ⟨kb, j, none⟩ = some (.int .u8 (ks0[j].toNat : Int))) (by kernel_rfl) ⟨e0, ek⟩ (fun hH0 => ?_)
              generalize (wr.drewN nq).drew = w7 at *
              have hqp : p ++ [ks0[j]] ∈ paths l := by
                have e := HKS.out; subst e
                exact (mem_rkids (paths l) p _).1 (List.getElem_mem hjl)
              obtain ⟨m, hm, em, em2, _⟩ := place_mem hqp
              have HSTEP : Hid (Calls Try.prog 62 #[.pointer (some ⟨tt, 0, none⟩), .int .i64 (i : Int), .int .u8 (ks0[j].toNat : Int)] w7 fun e w' => e = .returned (.int .i64 (m : Int)) ∧ w7 = w') := Lib.hid (by
                have := step_any w7 st tt (paths l) l (HT.out _ HF7.out.1) (i : Int) (wf_nat (by omega) (by omega)) ks0[j]
                rwa [← HEI.out, step_eq HPM.out, em, HEI.out] at this)
              have HEM := Lib.hid em
              clear em em2 hqp
              refine held_take (i := 0) (d := 56) (oi := _) (v := ?_) rfl rfl (by kernel_rfl) (by kernel_rfl) (by kernel_rfl) (fun _ _ _ h => h) (Or.inl ⟨by rfl, ?_⟩) (by assumption) ?_
              rotate_left
              · (intro w hSw; skip; clear hSw; go_simp; (try with_reducible rfl))
              simp only [Act.put, List.setIfInBounds_toArray, List.set_cons_zero, List.set_cons_succ]
              refine held_take (i := 1) (d := 57) (oi := _) (v := ?_) rfl rfl (by kernel_rfl) (by kernel_rfl) (by kernel_rfl) (fun _ _ _ h => h) (Or.inl ⟨by rfl, ?_⟩) (by assumption) ?_
              rotate_left
              · (intro w hSw; skip; clear hSw; go_simp; (try with_reducible rfl))
              simp only [Act.put, List.setIfInBounds_toArray, List.set_cons_zero, List.set_cons_succ]
              refine held_take (i := 2) (d := 58) (oi := _) (v := ?_) rfl rfl (by kernel_rfl) (by kernel_rfl) (by kernel_rfl) (fun _ _ _ h => h) (Or.inl ⟨by rfl, ?_⟩) (by assumption) ?_
              rotate_left
              · (intro w hSw; skip; clear hSw; go_simp; (try with_reducible rfl))
              simp only [Act.put, List.setIfInBounds_toArray, List.set_cons_zero, List.set_cons_succ]
              refine held_take (i := 3) (d := 59) (oi := _) (v := ?_) rfl rfl (by kernel_rfl) (by kernel_rfl) (by kernel_rfl) (fun _ _ _ h => h) (Or.inl ⟨by rfl, ?_⟩) (by assumption) ?_
              rotate_left
              · (intro w hSw; skip; clear hSw; go_simp; (try with_reducible rfl))
              simp only [Act.put, List.setIfInBounds_toArray, List.set_cons_zero, List.set_cons_succ]
              refine held_take (i := 4) (d := 60) (oi := _) (v := ?_) rfl rfl (by kernel_rfl) (by kernel_rfl) (by kernel_rfl) (fun _ _ _ h => h) (Or.inl ⟨by rfl, ?_⟩) (by assumption) ?_
              rotate_left
              · (intro w hSw; skip; clear hSw; go_simp; (try with_reducible rfl))
              simp only [Act.put, List.setIfInBounds_toArray, List.set_cons_zero, List.set_cons_succ]
              refine held_take (i := 5) (d := 61) (oi := _) (v := ?_) rfl rfl (by kernel_rfl) (by kernel_rfl) (by kernel_rfl) (fun _ _ _ h => h) (Or.inl ⟨by rfl, ?_⟩) (by assumption) ?_
              rotate_left
              · (intro w hSw; have hld := hSw.1; clear hSw; go_simp; (try with_reducible rfl))
              simp only [Act.put, List.setIfInBounds_toArray, List.set_cons_zero, List.set_cons_succ]
              refine held_take (i := 6) (d := 62) (oi := _) (v := ?_) rfl rfl (by kernel_rfl) (by kernel_rfl) (by kernel_rfl) (fun _ _ _ h => h) (Or.inl ⟨by rfl, ?_⟩) (by assumption) ?_
              rotate_left
              · (intro w hSw; skip; clear hSw; go_simp; (try with_reducible rfl))
              simp only [Act.put, List.setIfInBounds_toArray, List.set_cons_zero, List.set_cons_succ]
              refine held_take (i := 7) (d := 63) (oi := _) (v := ?_) rfl rfl (by kernel_rfl) (by kernel_rfl) (by kernel_rfl) (fun _ _ _ h => h) (Or.inl ⟨by rfl, ?_⟩) (by assumption) ?_
              rotate_left
              · (intro w hSw; skip; clear hSw; go_simp; (try with_reducible rfl))
              simp only [Act.put, List.setIfInBounds_toArray, List.set_cons_zero, List.set_cons_succ]
              refine held_take (i := 8) (d := 64) (oi := _) (v := ?_) rfl rfl (by kernel_rfl) (by kernel_rfl) (by kernel_rfl) (fun _ _ _ h => h) (Or.inl ⟨by rfl, ?_⟩) (by assumption) ?_
              rotate_left
              · (intro w hSw; skip; clear hSw; go_simp; (try with_reducible rfl))
              simp only [Act.put, List.setIfInBounds_toArray, List.set_cons_zero, List.set_cons_succ]
              refine held_take (i := 9) (d := 65) (oi := _) (v := ?_) rfl rfl (by kernel_rfl) (by kernel_rfl) (by kernel_rfl) (fun _ _ _ h => h) (Or.inl ⟨by rfl, ?_⟩) (by assumption) ?_
              rotate_left
              · (intro w hSw; have hld := hSw.2; clear hSw; go_simp; (try with_reducible rfl))
              simp only [Act.put, List.setIfInBounds_toArray, List.set_cons_zero, List.set_cons_succ]
              refine wpAnyH_ready (rs := [10]) (by kernel_rfl) (by simp) ?_
              refine AllReadyH.cons rfl (fun K hK => ?_) AllReadyH.nil
              go_simp
              go_wp2_with (go_at_call 62; (with_reducible refine HSTEP.out.mono ?_); rintro e x' ⟨rfl, rfl⟩)
              refine hK.out _ _ hH0 (fun _ => ?_)
              clear hK K
              refine held_take (i := 11) (d := 67) (oi := _) (v := ?_) rfl rfl (by kernel_rfl) (by kernel_rfl) (by kernel_rfl) (fun _ _ _ h => h) (Or.inl ⟨by rfl, ?_⟩) (by assumption) ?_
              rotate_left
              · (intro w hSw; skip; clear hSw; go_simp; (try with_reducible rfl))
              simp only [Act.put, List.setIfInBounds_toArray, List.set_cons_zero, List.set_cons_succ]
              refine wpAnyH_ready (rs := [12]) (by kernel_rfl) (by simp) ?_
              refine AllReadyH.cons rfl (fun K hK => ?_) AllReadyH.nil
              have eg := HF7.out.cell hi hkw
              have ef := HF7.out.free (i * wd + k')
              have egl : g < w7.heap.size := txt_lt HF7.out.2.2.2
              have HF8 := Lib.hid (HF7.out.set hkw (m : Int))
              have HK8 := Lib.hid (HK7.out.trans (Km.set w7 g (i * wd + k') (.int .i64 (m : Int))))
              go_simp
              have hH8 : (w7.setCell ⟨g, i * wd + k', none⟩ (.int .i64 (m : Int))).cell? ⟨t, 0, none⟩ = some (.pointer (some ⟨tt, 0, none⟩)) ∧ (w7.setCell ⟨g, i * wd + k', none⟩ (.int .i64 (m : Int))).cell? ⟨kb, j, none⟩ = some (.int .u8 (ks0[j].toNat : Int)) := ⟨HF8.out.2.2.1.cells.1, HKB.out _ HK8.out j hjl⟩
              refine hK.out _ _ hH8 (fun _ => ?_)
              clear hK K hH8 hH0 eg ef egl e0 ek HF7 HK7
              refine wpAnyH_done (by kernel_rfl) ?_ _
              have HHIT : Hid (Along l p (j + 1) (k' + 1) ∧ (fun k'' => if k'' = k' then (m : Int) else mid l p k' k'') = mid l p (k' + 1)) := Lib.hid (by
                have e := HKS.out; subst e
                have h := HAL.out.hit hjl HCE.out
                rw [HEM.out] at h
                exact h)
              generalize w7.setCell ⟨g, i * wd + k', none⟩ (.int .i64 (m : Int)) = w8 at *
              obtain ⟨A8, hcut8, hA8⟩ := run_cut1 kb j (ks0.length - j) cA (by omega) hcA
              go_wp2
              refine ⟨⟨k' + 1, j + 1, by omega, by go_num, ⟨some A8, cA - 1, ?_, by omega, fun h => by rw [hA8 (by omega)]⟩, HHIT.out.1, ?_, HK8.out⟩, by simp [intOf]; omega⟩
              · rw [Nat.sub_sub]
              · rw [← HHIT.out.2]; exact HF8.out
            · have hbq : ((Cls.cls (Cls.stands l) ks0[j] : Int) == (k' : Int)) = false := beq_eq_false_iff_ne.2 (by omega)
              have HCE := Lib.hid hce
              clear hce hcz
              have HSK : Hid (Along l p j (k' + 1) ∧ mid l p k' = mid l p (k' + 1)) := Lib.hid (by
                have e := HKS.out; subst e
                exact HAL.out.skip hjl HCE.out)
              go_wp2
              go_quiet (fail)
              go_wp2
              have hbd : Below wr.heap.size wr (wr.drewN nq) := below_drews (Below.refl _ _) nq
              exact ⟨⟨k' + 1, j, by omega, by go_num, ⟨_, cA, rfl, hcA, fun _ => rfl⟩, HSK.out.1, by rw [← HSK.out.2]; exact HFI.out.keep hbd, HKI.out.trans (Km.of_below (g := g) hbd)⟩, by simp [intOf]; omega⟩
          · have hje : ks0.length - j = 0 := by omega
            have hz : (((ks0.length - j : Nat) : Int) == 0) = true := by rw [hje]; rfl
            have HDN : Hid (∀ k'', mid l p k' k'' = nxt l p k'') := Lib.hid (by
              have e := HKS.out; subst e
              exact HAL.out.done (by omega))
            have HF9 : Hid (Fl w0 t g (some ⟨tt, 0, none⟩) (some ⟨x, 0, none⟩) (Cls.cc (Cls.stands l)) (paths l).length wd (part l ((ord (paths l)).take (k + 1))) wr) := Lib.hid (by
              rw [HTK.out]
              exact HFI.out.congr (part_snoc HPI.out _ wd _ (Nat.le_refl _) fun k'' _ => HDN.out k''))
            have HO9 := Lib.hid (((Km.of_below (g := g) HK0.out).trans HKI.out).own HOK.out hgw)
            clear hje hA
            go_wp2
            exact ⟨⟨k + 1, by omega, by go_num, HF9.out, HO9.out⟩, by simp [intOf]; omega⟩
        · have hke : k' = wd := by omega
          have hkw2 : ¬ (k' : Int) < (wd : Int) := by omega
          have HF9 : Hid (Fl w0 t g (some ⟨tt, 0, none⟩) (some ⟨x, 0, none⟩) (Cls.cc (Cls.stands l)) (paths l).length wd (part l ((ord (paths l)).take (k + 1))) wr) := Lib.hid (by
            rw [HTK.out]
            exact HFI.out.congr (part_snoc HPI.out _ wd _ (Nat.le_refl _) fun k'' h => by rw [hke]; exact mid_full l p wd k'' h))
          have HO9 := Lib.hid (((Km.of_below (g := g) HK0.out).trans HKI.out).own HOK.out hgw)
          clear hke hA
          go_wp2
          exact ⟨⟨k + 1, by omega, by go_num, HF9.out, HO9.out⟩, by simp [intOf]; omega⟩
    · have hke : k = (ordN (paths l)).length := by omega
      have HQ : Hid (part l ((ord (paths l)).take k) = part l (ord (paths l))) := Lib.hid (by rw [List.take_of_length_le (by rw [ord_len HW.out]; omega)])
      have HF9 := Lib.hid hfl
      clear hke hfl
      have hlt2 : ¬ (k : Int) < ((ordN (paths l)).length : Int) := by omega
      go_wp2
      go_end0
      exact ⟨⟨_, rfl⟩, by rw [← HQ.out]; exact HF9.out⟩
end Go.Proofs.Ytnbfdjpmppflmaa.Dfa
