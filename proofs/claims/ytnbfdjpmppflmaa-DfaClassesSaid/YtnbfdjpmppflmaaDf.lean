/- The contract of New. -/
import Derived.Test.YtnbfdjpmppflmaaDe
namespace Go.Proofs.Ytnbfdjpmppflmaa.Dfa
open Go.RowKit Go.Maps Go.Proofs.Ytnbfdjpmppflmaa.Tri Go.Proofs.Ytnbfdjpmppflmaa.Lnk Go.Proofs.Ytnbfdjpmppflmaa.Reg
set_option maxRecDepth 100000

theorem exec_build {P : Program} {o : Oper} {a : Act} {ty : TypeId} {parts : Array (Nat × Operand)} (ho : o.op = .build ty parts) {cells : Array Value} (h : P.built ty (parts.map fun (i, x) => (i, a.eval x)).toList = some cells) (w : World) :
    (execOp a.eval o).run P w = .ok (.value (.agg cells)) w := by
  unfold execOp
  simp only [ho, Sem.run_bind, run_build w ty _ cells h, Result.andThen_ok]
  rfl
theorem exec_build4 {P : Program} {o : Oper} {a : Act} {ty : TypeId} (x0 x1 x2 x3 : Operand) (ho : o.op = .build ty #[(0, x0), (1, x1), (2, x2), (3, x3)]) {v0 v1 v2 v3 : Value} (h0 : a.eval x0 = v0) (h1 : a.eval x1 = v1) (h2 : a.eval x2 = v2) (h3 : a.eval x3 = v3) {cells : Array Value} (h : P.built ty [(0, v0), (1, v1), (2, v2), (3, v3)] = some cells) (w : World) :
    (execOp a.eval o).run P w = .ok (.value (.agg cells)) w :=
  exec_build ho (by simpa [h0, h1, h2, h3] using h) w
theorem made_ints (n : Nat) : (madeCells (Value.int .i64 0).cells (n * 1)) = Cls.icells (List.replicate n 0) := by
  apply Array.ext_getElem?
  intro j
  by_cases hj : j < n
  · simp only [madeCells, Cls.icells, Cls.ivals, List.map_replicate, List.toArray_replicate, Array.getElem?_map, Array.getElem?_replicate, if_pos hj]
    rw [Array.getElem?_range]
    have : j % 1 = 0 := Nat.mod_one j
    simp [Value.cells, hj, this]
  · simp [madeCells, Cls.icells, Cls.ivals, hj]
theorem wp_make_ints {w : World} {o : Oper} {a : Act} {K : Act → World → Prop} {Q : Exit → Act → World → Prop} (l c : Operand) (hop : o.op = .makeSlice 71 l c) (n : Nat) (hl : a.eval l = .int .i64 (n : Int)) (hc : a.eval c = .int .i64 (n : Int)) (hn : n ≤ 1000000)
    (hK : ∀ w', w'.heap[w.heap.size]? = some (.cells (Cls.icells (List.replicate n 0)) 3 (0, 0)) → Below w.heap.size w w' → K (a.put o.dst (.slice (some ⟨w.heap.size, 0, none⟩) n n)) w') : o.wp Try.prog a w K Q := by
  obtain ⟨i0, hi, hz0, hz1, hz2⟩ := info_parts info3
  obtain ⟨w', hrun, r1, r2⟩ := run_make_full (P := Try.prog) w w.heap.size 71 3 i0 (.int .i64 0) 1 und71 hi hz0 hz1 .i64 .i64 n (by rw [hz2]; omega) (by unfold maxLen; omega) (Nat.le_refl _)
  have hg : w'.heap[w.heap.size]? = some (.cells (Cls.icells (List.replicate n 0)) 3 (0, 0)) := by
    rcases r1.2 with ⟨e, _⟩ | ⟨g, cap, cur, e, _, hh, _, _, hs, ht⟩
    · cases e
    · injection e with e1 e2 e3
      have eg : w.heap.size = g := by simpa using e1
      subst eg
      subst e3
      rw [hh]
      have : cur = Cls.icells (List.replicate n 0) := by
        rw [← made_ints]
        apply Array.toList_inj.1
        rw [← ht]
        exact (List.take_of_length_le (by rw [Array.length_toList, hs]; exact Nat.le_refl _)).symm
      rw [this]
  unfold Oper.wp
  simp [execOp, hop, hl, hc, hrun, Result.andThen]
  exact hK _ hg ((Below.refl _ w).grown r2 (Nat.le_refl _) (fun k hk => by cases hk))
/-- The error of too many states. -/
def GivesNone (w : World) (e : Ending) (w' : World) : Prop := e = .returned (.tuple #[.pointer none, .int .i64 14]) ∧ Below w.heap.size w w'
set_option maxHeartbeats 4000000 in
theorem dnew_over (w : World) (xs : List TxV) (a : Option Addr) (cap : Nat) (hts : Ts w a xs) (hl : xs.length ≤ 1000000) (hz : tot (xs.map TxV.text) ≤ 100000000) (hn : 160 < (paths (xs.map TxV.text)).length) :
    Calls Try.prog 13 #[.slice a xs.length cap] w (GivesNone w) := by
  have HB := Lib.hid (build_any w xs a cap hts hl hz)
  clear hts
  generalize xs.map TxV.text = l at *
  have hn2 : (160 : Int) < ((paths l).length : Int) := by omega
  go_enter Try.func13, Try.ntmps13
  go_wp2_with (first
   | (go_at_call 29; (with_reducible refine HB.out.mono ?_); rintro e w1 ⟨tt, rfl, htr, hb1⟩; have HT1 := Lib.hid htr; have HB1 := Lib.hid hb1; have HN := Lib.hid (nodes_any w1 _ tt _ l htr); clear htr hb1)
   | (go_at_call 30; (with_reducible refine HN.out.mono ?_); rintro e w0 ⟨rfl, rfl⟩))
  refine bodyPost_ret (v := .tuple #[.pointer none, .int .i64 14]) (by simp [results, Try.results13, go_sem]) rfl ?_
  exact ⟨rfl, HB1.out⟩
/-- A table of texts in memory. -/
def Dt (w : World) (s t : Nat) (l : List Tx) : Prop :=
  ∃ st tt sx x g, Tr w st tt (paths l) l ∧ Li w sx x (paths l) l ∧ s ≤ t ∧ (paths l).length ≤ 160 ∧ (∀ p ∈ paths l, p.length ≤ 1000000) ∧ Bd w t (some ⟨tt, 0, none⟩) (some ⟨x, 0, none⟩) (Cls.cc (Cls.stands l)) ((Cls.cnt (Cls.stands l) + 1 : Nat) : Int) (.slice (some ⟨g, 0, none⟩) ((paths l).length * (Cls.cnt (Cls.stands l) + 1)) ((paths l).length * (Cls.cnt (Cls.stands l) + 1))) ∧
    w.heap[g]? = some (.cells (Cls.icells (whole l (paths l).length (Cls.cnt (Cls.stands l) + 1))) 3 (0, 0))
theorem Dt.keep {w w' : World} {s t : Nat} {l : List Tx} (h : Dt w s t l) (hb : Below w.heap.size w w') : Dt w' s t l := by
  obtain ⟨st, tt, sx, x, g, h1, h2, h3, h4, h0, h5, h6⟩ := h
  exact ⟨st, tt, sx, x, g, h1.keep hb, h2.keep hb, h3, h4, h0, h5.keep hb, (hb.block g (txt_lt h6)).trans h6⟩
def GivesDt (w : World) (l : List Tx) (e : Ending) (w' : World) : Prop := ∃ t, e = .returned (.tuple #[.pointer (some ⟨t, 0, none⟩), .int .i64 0]) ∧ Dt w' w.heap.size t l ∧ Below w.heap.size w w'
set_option maxHeartbeats 8000000 in
theorem dnew_any (w : World) (xs : List TxV) (a : Option Addr) (cap : Nat) (hts : Ts w a xs) (hl : xs.length ≤ 1000000) (hz : tot (xs.map TxV.text) ≤ 100000000) (hm : ∀ x ∈ xs, x.text.length ≤ 1000000) (hn : (paths (xs.map TxV.text)).length ≤ 160) :
    Calls Try.prog 13 #[.slice a xs.length cap] w (GivesDt w (xs.map TxV.text)) := by
  have HB := Lib.hid (build_any w xs a cap hts hl hz)
  have HOF : Hid (∀ X, Below w.heap.size w X → Calls Try.prog 31 #[.slice a xs.length cap] X fun e w' => e = .returned (.agg (Cls.cc (Cls.stands (xs.map TxV.text)))) ∧ Below X.heap.size X w') := Lib.hid fun X hX => Cls.of_any9 xs a cap X (hts.keep hX) (by omega) (fun x h => Nat.le_trans (hm x h) (by omega))
  have HDEEP : Hid (∀ p ∈ paths (xs.map TxV.text), p.length ≤ 1000000) := Lib.hid fun p hp => by
    rcases (paths_mem _ p).1 hp with rfl | ⟨x, hx, r, e⟩
    · simp
    · obtain ⟨y, hy, rfl⟩ := List.mem_map.1 hx
      have := hm y hy
      rw [← e, List.length_append] at this
      omega
  clear hts hm
  generalize xs.map TxV.text = l at *
  have hn2 : ¬ (160 : Int) < ((paths l).length : Int) := by omega
  have hz60 := Cls.zero29
  have HZ := Lib.hid (Cls.cc_size (fun _ => false))
  have HCS := Lib.hid (Cls.cc_size (Cls.stands l))
  have HCO := Lib.hid (Cls.cc_one (Cls.stands l))
  have HTAB := Lib.hid (Cls.table_any (Cls.stands l))
  have HLEN := Lib.hid (Cls.len_any (Cls.stands l))
  generalize Cls.cc (fun _ => false) = z at *
  generalize hcs : Cls.cc (Cls.stands l) = cs at *
  have HEC := Lib.hid hcs
  clear hcs
  go_enter Try.func13, Try.ntmps13
  go_wp2_with (first
   | (go_at_call 29; (with_reducible refine HB.out.mono ?_); rintro e w1 ⟨tt, rfl, htr, hb1⟩; have HT1 := Lib.hid htr; have HB1 := Lib.hid hb1; have HN := Lib.hid (nodes_any w1 _ tt _ l htr); clear htr hb1)
   | (go_at_call 30; (with_reducible refine HN.out.mono ?_); rintro e w0 ⟨rfl, rfl⟩)
   | (go_at_call 31; (with_reducible refine (HOF.out _ HB1.out).mono ?_); rintro e w2 ⟨rfl, hb2⟩; have HB2 := Lib.hid hb2; clear hb2; have HG := Lib.hid (heap_alloc_new w2 (.cells z 60)))
   | (with_reducible refine wpList_store_row rfl 60 (.tmp 5) (.tmp 13) rfl w2.heap.size cs rfl rfl 60 z HG.out (by rw [HCS.out]; exact Cls.size29) (by rw [HCS.out, HZ.out]) HCO.out ?_))
  have es : (w2.alloc (.cells z 60)).setRow w2.heap.size cs = w2.alloc (.cells cs 60) := World.setRow_alloc_new _ _ _ _
  rw [es]
  have HL3 : Hid ((w2.alloc (.cells cs 60)).heap[w2.heap.size]? = some (.cells cs 60 (0, 0))) := Lib.hid (heap_alloc_new w2 _)
  have HB3 : Hid (Below w1.heap.size w1 (w2.alloc (.cells cs 60))) := Lib.hid (HB2.out.alloc HB2.out.size _)
  clear es HG
  generalize hg3 : w2.heap.size = g3 at *
  clear hg3
  generalize w2.alloc (.cells cs 60) = w3 at *
  have HBW : Hid (Below w3.heap.size w3 w3) := Lib.hid (Below.refl _ _)
  have HR : Hid (∀ X, Below w3.heap.size w3 X → (loadVar 60 ⟨g3, 0, none⟩).run Try.prog X = .ok (.agg cs) X) := Lib.hid fun X hX => Cls.load29 HCS.out HL3.out hX
  have HLB : Hid (∀ X, Below w3.heap.size w3 X → Calls Try.prog 34 #[.pointer (some ⟨tt, 0, none⟩)] X (GivesLi X (paths l) l)) := Lib.hid fun X hX => lbuild_any X w.heap.size tt (paths l) l ((HT1.out.keep HB3.out).keep hX) (by omega)
  have HTB : Hid (∀ X, Below w3.heap.size w3 X → Calls Try.prog 35 #[.agg cs] X fun e w' => e = .returned (.agg cs) ∧ Below X.heap.size X w') := Lib.hid fun X _ => HTAB.out X
  have HLN : Hid (∀ X, Below w3.heap.size w3 X → Calls Try.prog 33 #[.agg cs] X fun e w' => e = .returned (.int .i64 ((Cls.cnt (Cls.stands l) : Int) + 1)) ∧ Below X.heap.size X w') := Lib.hid fun X _ => HLEN.out X
  clear HB HTAB HLEN HN HB2
  go_wp2
  refine wp_region_held_drew (S := fun w' => Below w3.drew.heap.size w3.drew w') (by kernel_rfl) (Below.refl _ _) (fun hH0 => ?_)
  have B0 := Lib.hid (below_drews HBW.out 1)
  change Hid (Below _ _ w3.drew) at B0
  generalize w3.drew = x0 at *
  refine held_take (i := 0) (d := 14) (oi := _) (v := ?_) rfl rfl (by kernel_rfl) (by kernel_rfl) (by kernel_rfl) (fun _ _ _ h => h) (Or.inl ⟨by rfl, ?_⟩) (by assumption) ?_
  rotate_left
  · (intro w hSw; clear hSw; go_simp; (try with_reducible rfl))
  simp only [Act.put, List.setIfInBounds_toArray, List.set_cons_zero, List.set_cons_succ]
  refine held_take (i := 1) (d := 15) (oi := _) (v := ?_) rfl rfl (by kernel_rfl) (by kernel_rfl) (by kernel_rfl) (fun _ _ _ h => h) (Or.inl ⟨by rfl, ?_⟩) (by assumption) ?_
  rotate_left
  · (intro w hSw; clear hSw; go_simp; (try with_reducible rfl))
  simp only [Act.put, List.setIfInBounds_toArray, List.set_cons_zero, List.set_cons_succ]
  refine held_take (i := 3) (d := 17) (oi := _) (v := _) rfl rfl (by kernel_rfl) (by kernel_rfl) (by kernel_rfl) (fun _ _ _ h => h) (Or.inl ⟨by rfl, fun w hSw => Cls.exec_load rfl rfl (HR.out w (B0.out.trans (hSw.mono B0.out.size)))⟩) (by assumption) ?_
  simp only [Act.put, List.setIfInBounds_toArray, List.set_cons_zero, List.set_cons_succ]
  refine held_take (i := 5) (d := 19) (oi := _) (v := _) rfl rfl (by kernel_rfl) (by kernel_rfl) (by kernel_rfl) (fun _ _ _ h => h) (Or.inl ⟨by rfl, fun w hSw => Cls.exec_load rfl rfl (HR.out w (B0.out.trans (hSw.mono B0.out.size)))⟩) (by assumption) ?_
  simp only [Act.put, List.setIfInBounds_toArray, List.set_cons_zero, List.set_cons_succ]
  refine wpAnyH_ready (rs := [2]) (by kernel_rfl) (by simp) ?_
  refine AllReadyH.cons rfl (fun K hK => ?_) AllReadyH.nil
  go_simp
  go_wp2_with (go_at_call 34; (with_reducible refine (HLB.out _ B0.out).mono ?_); rintro e x1 ⟨x, rfl, hlx, hb⟩)
  refine hK.out _ _ hb (fun _ => ?_)
  have B1 := Lib.hid (B0.out.trans (hb.mono B0.out.size))
  refine wpAnyH_more (S' := fun w' => Below x1.heap.size x1 w') (fun w' h => hb.trans (h.mono hb.size)) _ _ _ _ ?_
  have hH1 : Below x1.heap.size x1 x1 := Below.refl _ _
  clear hK K hH0 hb B0
  have HLX := Lib.hid hlx
  clear hlx
  refine wpAnyH_ready (rs := [4]) (by kernel_rfl) (by simp) ?_
  refine AllReadyH.cons rfl (fun K hK => ?_) AllReadyH.nil
  go_simp
  go_wp2_with (go_at_call 35; (with_reducible refine (HTB.out _ B1.out).mono ?_); rintro e x2 ⟨rfl, hb⟩)
  have HLX2 := Lib.hid (HLX.out.keep hb)
  refine hK.out _ _ hb (fun _ => ?_)
  have B2 := Lib.hid (B1.out.trans (hb.mono B1.out.size))
  refine wpAnyH_more (S' := fun w' => Below x2.heap.size x2 w') (fun w' h => hb.trans (h.mono hb.size)) _ _ _ _ ?_
  have hH2 : Below x2.heap.size x2 x2 := Below.refl _ _
  clear hK K hH1 hb B1
  refine wpAnyH_ready (rs := [6]) (by kernel_rfl) (by simp) ?_
  refine AllReadyH.cons rfl (fun K hK => ?_) AllReadyH.nil
  go_simp
  go_wp2_with (go_at_call 33; (with_reducible refine (HLN.out _ B2.out).mono ?_); rintro e x3 ⟨rfl, hb⟩)
  have HLX3 := Lib.hid (HLX2.out.keep hb)
  refine hK.out _ _ hb (fun _ => ?_)
  have B3 := Lib.hid (B2.out.trans (hb.mono B2.out.size))
  refine wpAnyH_more (S' := fun w' => Below x3.heap.size x3 w') (fun w' h => hb.trans (h.mono hb.size)) _ _ _ _ ?_
  have hH3 : Below x3.heap.size x3 x3 := Below.refl _ _
  clear hK K hH2 hb B2
  obtain ⟨cells, hbuilt, hcells⟩ := built73 (some ⟨tt, 0, none⟩) (some ⟨x, 0, none⟩) cs ((Cls.cnt (Cls.stands l) : Int) + 1) HCS.out
  have HCL := Lib.hid hcells
  refine held_take (i := 7) (d := 21) (oi := _) (v := .agg cells) rfl rfl (by kernel_rfl) (by kernel_rfl) (by kernel_rfl) (fun _ _ _ h => h) (Or.inl ⟨by rfl, fun w _ => exec_build4 (.tmp 14) (.tmp 16) (.tmp 18) (.tmp 20) rfl rfl rfl rfl rfl hbuilt w⟩) (by assumption) ?_
  simp only [Act.put, List.setIfInBounds_toArray, List.set_cons_zero, List.set_cons_succ]
  clear hbuilt hcells
  refine wpAnyH_ready (rs := [8]) (by kernel_rfl) (by simp) ?_
  refine AllReadyH.cons rfl (fun K hK => ?_) AllReadyH.nil
  go_simp
  have hb8 : Below x3.heap.size x3 (x3.alloc (.cells cells 73)) := (Below.refl _ _).alloc (Nat.le_refl _) _
  refine hK.out _ _ hb8 (fun _ => ?_)
  clear hK K
  refine held_take (i := 9) (d := 6) (oi := _) (v := ?_) rfl rfl (by kernel_rfl) (by kernel_rfl) (by kernel_rfl) (fun _ _ _ h => h) (Or.inl ⟨by rfl, ?_⟩) (by assumption) ?_
  rotate_left
  · (intro w hSw; clear hSw; go_simp; (try with_reducible rfl))
  simp only [Act.put, List.setIfInBounds_toArray, List.set_cons_zero, List.set_cons_succ]
  refine wpAnyH_done (by kernel_rfl) ?_ _
  have hbd : Below x3.heap.size x3 (x3.alloc (.cells cells 73)).drew := below_drews hb8 1
  have hBd : Bd (x3.alloc (.cells cells 73)).drew x3.heap.size (some ⟨tt, 0, none⟩) (some ⟨x, 0, none⟩) cs ((Cls.cnt (Cls.stands l) : Int) + 1) (.slice none 0 0) := ⟨cells, heap_alloc_new x3 _, HCL.out⟩
  have HT3 := Lib.hid ((HT1.out.keep HB3.out).keep B3.out)
  have HBB : Hid (Below w.heap.size w x3) := Lib.hid (HB1.out.trans ((HB3.out.trans (B3.out.mono HB3.out.size)).mono HB1.out.size))
  obtain ⟨wd, hwd⟩ : ∃ wd, wd = Cls.cnt (Cls.stands l) + 1 := ⟨_, rfl⟩
  have ewd : (Cls.cnt (Cls.stands l) : Int) + 1 = (wd : Int) := by omega
  rw [ewd] at hBd
  have hwl : wd ≤ 257 := by have := Cls.cnt_le (Cls.stands l); omega
  have hww := Nat.mul_le_mul hn hwl
  obtain ⟨q0, q1, q2, q3⟩ := hBd.cells
  have HBD := Lib.hid hBd
  have HBE := Lib.hid hbd
  have HWD := Lib.hid hwd
  have htl := hBd.lt
  have hfz := hBd.free 259
  clear hb8 hH3 B3 HLX HLX2 HB1 HB3 HR HLB HTB HLN HBW HL3 hbd hBd hwd ewd HT1 HCL HOF
  go_wp2
  refine wp_region_held_drew (S := fun w' => w'.cell? ⟨x3.heap.size, 258, none⟩ = some (.int .i64 (wd : Int))) (by kernel_rfl) q2 (fun hH0 => ?_)
  generalize (x3.alloc (.cells cells 73)).drew = w6 at *
  have HST : Hid (Calls Try.prog 19 #[.pointer (some ⟨x3.heap.size, 0, none⟩)] w6 fun e w' => e = .returned (.int .i64 ((paths l).length : Int)) ∧ w6 = w') := Lib.hid (states_any w6 _ tt (paths l) l _ (HT3.out.keep HBE.out) q0)
  have emul : IntKind.i64.wrap (((paths l).length : Int) * (wd : Int)) = (((paths l).length * wd : Nat) : Int) := mul_wrap (by omega)
  refine held_take (i := 0) (d := 23) (oi := _) (v := ?_) rfl rfl (by kernel_rfl) (by kernel_rfl) (by kernel_rfl) (fun _ _ _ h => h) (Or.inl ⟨by rfl, ?_⟩) (by assumption) ?_
  rotate_left
  · (intro w hSw; skip; clear hSw; go_simp; (try with_reducible rfl))
  simp only [Act.put, List.setIfInBounds_toArray, List.set_cons_zero, List.set_cons_succ]
  refine held_take (i := 1) (d := 24) (oi := _) (v := ?_) rfl rfl (by kernel_rfl) (by kernel_rfl) (by kernel_rfl) (fun _ _ _ h => h) (Or.inl ⟨by rfl, ?_⟩) (by assumption) ?_
  rotate_left
  · (intro w hSw; skip; clear hSw; go_simp; (try with_reducible rfl))
  simp only [Act.put, List.setIfInBounds_toArray, List.set_cons_zero, List.set_cons_succ]
  refine held_take (i := 3) (d := 26) (oi := _) (v := ?_) rfl rfl (by kernel_rfl) (by kernel_rfl) (by kernel_rfl) (fun _ _ _ h => h) (Or.inl ⟨by rfl, ?_⟩) (by assumption) ?_
  rotate_left
  · (intro w hSw; skip; clear hSw; go_simp; (try with_reducible rfl))
  simp only [Act.put, List.setIfInBounds_toArray, List.set_cons_zero, List.set_cons_succ]
  refine held_take (i := 4) (d := 27) (oi := _) (v := ?_) rfl rfl (by kernel_rfl) (by kernel_rfl) (by kernel_rfl) (fun _ _ _ h => h) (Or.inl ⟨by rfl, ?_⟩) (by assumption) ?_
  rotate_left
  · (intro w hSw; skip; clear hSw; go_simp; (try with_reducible rfl))
  simp only [Act.put, List.setIfInBounds_toArray, List.set_cons_zero, List.set_cons_succ]
  refine held_take (i := 5) (d := 28) (oi := _) (v := ?_) rfl rfl (by kernel_rfl) (by kernel_rfl) (by kernel_rfl) (fun _ _ _ h => h) (Or.inl ⟨by rfl, ?_⟩) (by assumption) ?_
  rotate_left
  · (intro w hSw; skip; clear hSw; go_simp; (try with_reducible rfl))
  simp only [Act.put, List.setIfInBounds_toArray, List.set_cons_zero, List.set_cons_succ]
  refine held_take (i := 6) (d := 29) (oi := _) (v := ?_) rfl rfl (by kernel_rfl) (by kernel_rfl) (by kernel_rfl) (fun _ _ _ h => h) (Or.inl ⟨by rfl, ?_⟩) (by assumption) ?_
  rotate_left
  · (intro w hSw; have hld := hSw; clear hSw; go_simp; (try with_reducible rfl))
  simp only [Act.put, List.setIfInBounds_toArray, List.set_cons_zero, List.set_cons_succ]
  refine wpAnyH_ready (rs := [2]) (by kernel_rfl) (by simp) ?_
  refine AllReadyH.cons rfl (fun K hK => ?_) AllReadyH.nil
  go_simp
  go_wp2_with (go_at_call 19; (with_reducible refine HST.out.mono ?_); rintro e x' ⟨rfl, rfl⟩)
  refine hK.out _ _ hH0 (fun _ => ?_)
  clear hK K
  refine held_take (i := 7) (d := 30) (oi := _) (v := ?_) rfl rfl (by kernel_rfl) (by kernel_rfl) (by kernel_rfl) (fun _ _ _ h => h) (Or.inl ⟨by rfl, ?_⟩) (by assumption) ?_
  rotate_left
  · (intro w hSw; skip; clear hSw; go_simp; (try with_reducible rfl))
  simp only [Act.put, List.setIfInBounds_toArray, List.set_cons_zero, List.set_cons_succ]
  refine wpAnyH_ready (rs := [8]) (by kernel_rfl) (by simp) ?_
  refine AllReadyH.cons rfl (fun K hK => ?_) AllReadyH.nil
  rw [if_pos (by rfl)]
  refine wp_make_ints (.tmp 30) (.tmp 30) rfl ((paths l).length * wd) (by rw [Int.natCast_mul]; rfl) (by rw [Int.natCast_mul]; rfl) (by omega) ?_
  intro w8 hg8 hb8
  have hBd8 := HBD.out.keep hb8
  have HG8 := Lib.hid hg8
  have HB8 := Lib.hid hb8
  have hne8 : x3.heap.size ≠ w6.heap.size := by omega
  obtain ⟨p0, p1, p2, p3⟩ := hBd8.cells
  have pf := hBd8.free 259
  have ptl := hBd8.lt
  have HBD8 := Lib.hid hBd8
  refine hK.out _ _ p2 (fun _ => ?_)
  clear hK K hg8 hb8 hBd8 q0 q1 q2 q3 hfz
  simp only [Act.put, List.setIfInBounds_toArray]
  refine held_take (i := 9) (d := 32) (oi := _) (v := ?_) rfl rfl (by kernel_rfl) (by kernel_rfl) (by kernel_rfl) (fun _ _ _ h => h) (Or.inl ⟨by rfl, ?_⟩) (by assumption) ?_
  rotate_left
  · (intro w hSw; skip; clear hSw; go_simp; (try with_reducible rfl))
  simp only [Act.put]
  refine held_take (i := 10) (d := 33) (oi := _) (v := ?_) rfl rfl (by kernel_rfl) (by kernel_rfl) (by kernel_rfl) (fun _ _ _ h => h) (Or.inl ⟨by rfl, ?_⟩) (by assumption) ?_
  rotate_left
  · (intro w hSw; skip; clear hSw; go_simp; (try with_reducible rfl))
  simp only [Act.put]
  refine wpAnyH_ready (rs := [11]) (by kernel_rfl) (by simp) ?_
  refine AllReadyH.cons rfl (fun K hK => ?_) AllReadyH.nil
  go_simp
  have hBd9 := HBD8.out.put (.slice (some ⟨w6.heap.size, 0, none⟩) ((paths l).length * wd) ((paths l).length * wd))
  refine hK.out _ _ hBd9.cells.2.2.1 (fun _ => ?_)
  clear hK K
  refine wpAnyH_done (by kernel_rfl) ?_ _
  have hb06 := HBE.out.trans (HB8.out.mono HBE.out.size)
  have HF9 : Hid (Fl x3 x3.heap.size w6.heap.size (some ⟨tt, 0, none⟩) (some ⟨x, 0, none⟩) cs (paths l).length wd (part l []) (w8.setCell ⟨x3.heap.size, 259, none⟩ (.slice (some ⟨w6.heap.size, 0, none⟩) ((paths l).length * wd) ((paths l).length * wd)))) := Lib.hid (by
    refine ⟨hb06.setCell (p := ⟨x3.heap.size, 259, none⟩) (Nat.le_refl _) _, HBE.out.size, hBd9, ?_⟩
    rw [part_nil]
    exact (Below.heap_setCell w8 ⟨x3.heap.size, 259, none⟩ _ w6.heap.size (fun e => hne8 e.symm)).trans HG8.out)
  have HFILL := Lib.hid (dfill_any x3 _ w.heap.size tt _ x x3.heap.size w6.heap.size l wd HWD.out hn HT3.out HLX3.out (by rw [HEC.out]; exact HF9.out))
  have htg : w.heap.size ≤ x3.heap.size := HBB.out.size
  clear p0 p1 p2 p3 pf ptl hBd9 hb06 HBD HBD8 HG8 HB8 HBE HST hH0
  generalize w8.setCell ⟨x3.heap.size, 259, none⟩ (.slice (some ⟨w6.heap.size, 0, none⟩) ((paths l).length * wd) ((paths l).length * wd)) = w9 at *
  go_wp2_with (go_at_call 36; (with_reducible refine HFILL.out.mono ?_); rintro e w10 ⟨⟨v, rfl⟩, hf10⟩; have HF10 := Lib.hid hf10; clear hf10)
  refine bodyPost_ret (v := .tuple #[.pointer (some ⟨x3.heap.size, 0, none⟩), .int .i64 0]) (by simp [results, Try.results13, go_sem]) rfl ?_
  have hf := HF10.out
  have e1 := HWD.out
  rw [e1] at hf
  refine ⟨_, rfl, ⟨w.heap.size, tt, _, x, w6.heap.size, HT3.out.keep hf.1, HLX3.out.keep hf.1, htg, hn, HDEEP.out, hf.2.2.1, ?_⟩, HBB.out.trans (hf.1.mono htg)⟩
  rw [← part_all]
  exact hf.2.2.2
end Go.Proofs.Ytnbfdjpmppflmaa.Dfa
