/- The contract of fill. -/
import Derived.Test.YtkooanahgffjgaaLd
import Derived.Test.YtkooanahgffjgaaReg
import Derived.Test.YtkooanahgffjgaaTd
import Derived.WalkMore
namespace Go.Proofs.Ytkooanahgffjgaa.Lnk
open Go.RowKit Go.Maps Go.Proofs.Ytkooanahgffjgaa.Tri Go.Proofs.Ytkooanahgffjgaa.Reg
set_option maxRecDepth 100000

theorem kidsT_at (ps : List Tx) (p : Tx) (j : Nat) (h : j < (rkids ps p).length) : (kidsT ps p)[j]'(by unfold kidsT; simpa using h) = p ++ [(rkids ps p)[j]] := by simp [kidsT]
theorem kidsT_len (ps : List Tx) (p : Tx) : (kidsT ps p).length = (rkids ps p).length := by simp [kidsT]
theorem kidsT_take (ps : List Tx) (p : Tx) (j : Nat) (h : j < (rkids ps p).length) : (kidsT ps p).take (j + 1) = (kidsT ps p).take j ++ [p ++ [(rkids ps p)[j]]] := by
  rw [List.take_succ_eq_append_getElem (by rw [kidsT_len]; exact h), kidsT_at ps p j h]
set_option maxHeartbeats 4000000 in
theorem fill_any (w0 w : World) (st tt s x : Nat) (ps l : List Tx) (htr : Tr w0 st tt ps l) (hb0 : Below w0.heap.size w0 w) (hs : w0.heap.size = s) (h : LiQ w s x ps l [[]]) (hn : ps.length ≤ 1000000) :
    Calls Try.prog 41 #[.pointer (some ⟨x, 0, none⟩), .pointer (some ⟨tt, 0, none⟩)] w fun e w' => (∃ v, e = .returned v) ∧ LiQ w' s x ps l (ord ps) ∧ Below s w0 w' := by
  have HW := Lib.hid htr.2.1
  have HLS := Lib.hid htr.2.2.1
  have HT : Hid (∀ X, Below s w0 X → Tr X st tt ps l) := Lib.hid fun X hX => htr.keep (by rw [hs]; exact hX)
  rw [hs] at hb0
  have HB0 := Lib.hid hb0
  have hsz : s ≤ w.heap.size := by have := hb0.size; omega
  have HI := Lib.hid h
  have HIV := Lib.hid (fun i => inv_bq HW.out i)
  have hsw0 : s ≤ w0.heap.size := by omega
  clear htr hb0 h hs
  go_enter Try.func41, Try.ntmps41
  go_wp2
  have hk2 : Blk1 ((w.alloc (.cells #[.pointer (some ⟨x, 0, none⟩)] 59)).alloc (.cells #[.pointer (some ⟨tt, 0, none⟩)] 57)) w.heap.size 59 (.pointer (some ⟨x, 0, none⟩)) := (Below.heap_alloc _ _ _ (by simp)).trans (heap_alloc_new w _)
  have hk3 : Blk1 ((w.alloc (.cells #[.pointer (some ⟨x, 0, none⟩)] 59)).alloc (.cells #[.pointer (some ⟨tt, 0, none⟩)] 57)) (w.heap.size + 1) 57 (.pointer (some ⟨tt, 0, none⟩)) := by
    have := heap_alloc_new (w.alloc (.cells #[.pointer (some ⟨x, 0, none⟩)] 59)) (.cells #[.pointer (some ⟨tt, 0, none⟩)] 57)
    rwa [World.size_alloc] at this
  have hli := HI.out.keep (((Below.refl _ w).alloc (Nat.le_refl _) (.cells #[.pointer (some ⟨x, 0, none⟩)] 59)).alloc (by simp) (.cells #[.pointer (some ⟨tt, 0, none⟩)] 57))
  have hbl := (HB0.out.alloc hsz (.cells #[.pointer (some ⟨x, 0, none⟩)] 59)).alloc (by simp; omega) (.cells #[.pointer (some ⟨tt, 0, none⟩)] 57)
  clear HI HB0
  generalize (w.alloc (.cells #[.pointer (some ⟨x, 0, none⟩)] 59)).alloc (.cells #[.pointer (some ⟨tt, 0, none⟩)] 57) = w1 at *
  obtain ⟨b3, hb3⟩ : ∃ b3, b3 = w.heap.size + 1 := ⟨_, rfl⟩
  rw [← hb3] at hk3 ⊢
  clear hb3
  generalize w.heap.size = b2 at *
  go_step3
  go_wp2
  go_step3
  go_wp2
  go_loopw [5] (fun i wr => ∃ k : Nat, k ≤ (bq ps k).length ∧ i = .int .i64 k ∧ LiQ wr s x ps l (bq ps k) ∧ Below s w0 wr ∧ Blk1 wr b2 59 (.pointer (some ⟨x, 0, none⟩)) ∧ Blk1 wr b3 57 (.pointer (some ⟨tt, 0, none⟩))) (fun i _ => ps.length - (intOf i).toNat)
  case atStart => exact ⟨0, Nat.zero_le _, rfl, hli, hbl, hk2, hk3⟩
  case round =>
    obtain ⟨k, hk, rfl, hq, hbel, k2, k3⟩ := hrel
    have hql := bq_len HW.out k
    by_cases hlt : k < (bq ps k).length
    · have HI2 := Lib.hid (HIV.out k)
      have HSUCC := Lib.hid (bq_succ hlt)
      have HFULL := Lib.hid (fun q => ord_of_full HW.out (q := q) hlt)
      have HSH : Hid (∀ y ∈ ps, y.length < (bq ps k)[k].length + 1 → y ∈ bq ps k) := Lib.hid fun y hy hle => (HIV.out k).shallow HW.out hlt _ y rfl (by omega) hy
      have hpq := List.getElem_mem hlt
      have hpp := (HIV.out k).sub _ hpq
      generalize hQ : bq ps k = Q at *
      generalize hP : Q[k] = p at *
      have ⟨hs0, g, cap, vo, h1, h2, h3⟩ := hq
      have ⟨a, co, evo, hi, hnil⟩ := own_is h3
      have hz : k < (Q.map (place ps)).length := by simpa using hlt
      obtain ⟨bo, oo, rfl, hbo, hco⟩ := hi (by omega)
      have hck := hco k hz
      rw [List.getElem_map, hP] at hck
      subst evo
      obtain ⟨c0, c1⟩ := h1.cells
      have hx := h1.lt
      have d2 := k2.cell
      have d3 := k3.cell
      have hkl : (k : Int) < ((Q.map (place ps)).length : Int) := by omega
      have HKC : Hid (Calls Try.prog 42 #[.pointer (some ⟨tt, 0, none⟩), .int .i64 (place ps p)] wr (GivesText wr (rkids ps p))) := Lib.hid (by
        have := kids_any wr st tt ps l (HT.out _ hbel) (place ps p) (wf_nat (place_ge _ _) (by have := place_lt ps p; omega))
        rwa [kids_eq hpp] at this)
      obtain ⟨i, hip, ei, ei2, _⟩ := place_mem hpp
      rw [ei] at hck HKC
      have HEI := Lib.hid ei
      have HEI2 := Lib.hid ei2
      have HPP := Lib.hid hpp
      have HPQ := Lib.hid hpq
      have HKL := Lib.hid (kidsT_len ps p)
      have HKT := Lib.hid (kidsT_take ps p)
      have HMK := Lib.hid (mem_rkids ps p)
      have HLQ := Lib.hid hq
      have HBE := Lib.hid hbel
      have HK2 := Lib.hid k2
      have HK3 := Lib.hid k3
      have HLT := Lib.hid hlt
      clear h1 h2 h3 hi hco hbel k2 k3 ei ei2 hpp hpq hq hlt hQ hP
      generalize hks : rkids ps p = ks at *
      clear hks
      go_wp2_with (go_at_call 42; (with_reducible refine HKC.out.mono ?_); rintro e w2 ⟨ak, ck, rfl, htx, hkc, hkn, hb2⟩)
      have HTX := Lib.hid htx
      have hq2 := HLQ.out.keep hb2
      have hbe2 := HBE.out.trans (hb2.mono (by have := HBE.out.size; omega))
      have HB2K := Lib.hid (Kp.of_below hb2)
      clear htx hb2 hck c0 c1 d2 d3 hbo hx HKC HLQ HBE
      go_loopw [31] (fun v wr => ∃ j : Nat, j ≤ ks.length ∧ v = .int .i64 (j : Int) ∧ LiQ wr s x ps l (Q ++ (kidsT ps p).take j) ∧ Below s w0 wr ∧ Kp w2 wr) (fun v _ => ks.length - (intOf v).toNat)
      case atStart => exact ⟨0, Nat.zero_le _, rfl, by rw [List.take_zero, List.append_nil]; exact hq2, hbe2, Kp.refl _⟩
      case round =>
        obtain ⟨j, hj, rfl, hq, hbel, hkp⟩ := hrel
        by_cases hjl : j < ks.length
        · obtain ⟨bk, ok, rfl, hbk, hcc⟩ := (hkp.txt HTX.out).bs (by omega)
          have hck := hcc j hjl
          have HTK := Lib.hid (HKT.out j hjl)
          have hqp : p ++ [ks[j]] ∈ ps := (HMK.out ks[j]).1 (List.getElem_mem hjl)
          obtain ⟨m, hm, em, em2, _⟩ := place_mem hqp
          obtain ⟨g, cap, vo, hs0, h1, h2, h3, hg, hr⟩ := hq.rows
          have hpQ : ps[i] ∈ Q ++ (kidsT ps p).take j := List.mem_append_left _ (by rw [HEI2.out]; exact HPQ.out)
          obtain ⟨r0, _, _⟩ := hr i hip hpQ
          rw [HEI2.out] at r0
          have k2 := HB2K.out.blk1 HK2.out
          have k3 := HB2K.out.blk1 HK3.out
          have k2 := hkp.blk1 k2
          have k3 := hkp.blk1 k3
          have d2 := k2.cell
          have d3 := k3.cell
          obtain ⟨c0, c1⟩ := h1.cells
          have hx := h1.lt
          have hbd := below_drews (Below.refl wr.heap.size wr) 1
          have htr := HT.out _ (below_drews hbel 1)
          have hqd := hq.keep hbd
          have hsd : s ≤ wr.drew.heap.size := by have := hbel.size; show s ≤ wr.heap.size; omega
          have HSTEP : Hid (Calls Try.prog 43 #[.pointer (some ⟨tt, 0, none⟩), .int .i64 (i : Int), .int .u8 (ks[j].toNat : Int)] wr fun e w' => e = .returned (.int .i64 (m : Int)) ∧ wr = w') := Lib.hid (by
            have := step_any wr st tt ps l (HT.out _ hbel) (i : Int) (wf_nat (by omega) (by omega)) ks[j]
            rwa [← HEI.out, step_eq HPP.out, em, HEI.out] at this)
          obtain ⟨u, z, ez, hu, hzp, hzl, ef, _, eo, _⟩ := fail_step HW.out (p ++ [ks[j]]) (by simp)
          have hzQ : z ∈ Q ++ (kidsT ps p).take j := List.mem_append_left _ (HSH.out z hzp (by simp at hzl; omega))
          have eo := eo l HLS.out
          have HLAND : Hid (Calls Try.prog 56 #[.int .i64 (failOf ps p), .int .u8 (ks[j].toNat : Int), .pointer (some ⟨b2, 0, none⟩), .pointer (some ⟨b3, 0, none⟩)] wr.drew fun e w' => e = .returned (.int .i64 (failOf ps (p ++ [ks[j]]))) ∧ wr.drew = w') := Lib.hid (land_any wr.drew st tt s x ps l _ htr hqd b2 b3 d2 d3 p (fun y hy hyl => List.mem_append_left _ (HSH.out y hy (by omega))) ks[j])
          have HOWN : Hid (∀ X, Below wr.drew.heap.size wr.drew X → Calls Try.prog 58 #[.pointer (some ⟨tt, 0, none⟩), .int .i64 (m : Int)] X fun e w' => e = .returned (.int .i64 (own l (p ++ [ks[j]]) : Int)) ∧ Below X.heap.size X w') := Lib.hid fun X hX => by
            have := owntext_any X st tt ps l (htr.keep hX) (p ++ [ks[j]]) hqp
            rwa [em] at this
          have HLINK : Hid (∀ X, Below wr.drew.heap.size wr.drew X → Calls Try.prog 57 #[.pointer (some ⟨x, 0, none⟩), .int .i64 (failOf ps (p ++ [ks[j]])), .int .i64 (own l (p ++ [ks[j]]) : Int)] X fun e w' => e = .returned (.agg #[.int .i64 (failOf ps (p ++ [ks[j]])), .int .i64 (outOf ps l (p ++ [ks[j]])), .int .i64 (own l (p ++ [ks[j]]) : Int)]) ∧ Below X.heap.size X w') := Lib.hid fun X hX => by
            have := linked_any X s x ps l _ (hqd.keep hX) z hzp hzQ (own l (p ++ [ks[j]]))
            rwa [← ef, ← (show outOf ps l (p ++ [ks[j]]) = if 0 < own l z then failOf ps (p ++ [ks[j]]) else outOf ps l z by rw [ef]; exact eo)] at this
          have hfr : ∀ X, Below wr.drew.heap.size wr.drew X → (∃ a, X.cell? ⟨g, m * 3, none⟩ = some a) ∧ (∃ a, X.cell? ⟨g, m * 3 + 1, none⟩ = some a) ∧ (∃ a, X.cell? ⟨g, m * 3 + 2, none⟩ = some a) ∧ X.frozen? ⟨g, m * 3, none⟩ = false ∧ X.frozen? ⟨g, m * 3 + 1, none⟩ = false ∧ X.frozen? ⟨g, m * 3 + 2, none⟩ = false ∧ g < X.heap.size := fun X hX => by
            have h2' := own_keep (own_keep h2 hbd) hX
            obtain ⟨c0, c1, c2⟩ := own_row3 h2' (lks_length ps l _) (i := m) (by rw [lks_length]; exact hm)
            exact ⟨⟨_, c0⟩, ⟨_, c1⟩, ⟨_, c2⟩, h2'.frozenAt _, h2'.frozenAt _, h2'.frozenAt _, (own_block_lt h2' rfl).2.1⟩
          have hend : ∀ X, Below wr.drew.heap.size wr.drew X → Blk2 (putL X g m ⟨failOf ps (p ++ [ks[j]]), outOf ps l (p ++ [ks[j]]), own l (p ++ [ks[j]])⟩) x 84 (.slice (some ⟨g, 0, none⟩) ps.length cap) vo ∧ (putL X g m ⟨failOf ps (p ++ [ks[j]]), outOf ps l (p ++ [ks[j]]), own l (p ++ [ks[j]])⟩).ownsRow s 86 3 (.slice (some ⟨g, 0, none⟩) ps.length cap) ps.length (lvals (lks ps l ((Q ++ (kidsT ps p).take j) ++ [p ++ [ks[j]]]))) ∧
              (putL X g m ⟨failOf ps (p ++ [ks[j]]), outOf ps l (p ++ [ks[j]]), own l (p ++ [ks[j]])⟩).ownsRow s 3 1 vo (Q ++ (kidsT ps p).take j).length (ivals ((Q ++ (kidsT ps p).take j).map (place ps))) ∧ Kp wr (putL X g m ⟨failOf ps (p ++ [ks[j]]), outOf ps l (p ++ [ks[j]]), own l (p ++ [ks[j]])⟩) ∧ Below s w0 (putL X g m ⟨failOf ps (p ++ [ks[j]]), outOf ps l (p ++ [ks[j]]), own l (p ++ [ks[j]])⟩) ∧
              (putL X g m ⟨failOf ps (p ++ [ks[j]]), outOf ps l (p ++ [ks[j]]), own l (p ++ [ks[j]])⟩).cell? ⟨g, i * 3, none⟩ = some (.int .i64 (failOf ps p)) := fun X hX => by
            have ht := tab_store HW.out (h1.same ((hX.block x hx).trans rfl)) (own_keep (own_keep h2 hbd) hX) (own_keep (own_keep h3 hbd) hX) (l := l) hm
            have el : lkOf ps l ps[m] = ⟨failOf ps (p ++ [ks[j]]), outOf ps l (p ++ [ks[j]]), own l (p ++ [ks[j]])⟩ := by rw [em2]; rfl
            rw [el, em2] at ht
            obtain ⟨t1, t2, t3, t4, t5, t6⟩ := ht
            refine ⟨t1, t2, t3, ((Kp.of_below hbd).trans (Kp.of_below hX)).trans t4, below_putL ((below_drews hbel 1).trans (hX.mono hsd)) t5 _ _, ?_⟩
            obtain ⟨e0, _, _⟩ := own_row3 t2 (lks_length ps l _) (i := i) (by rw [lks_length]; exact hip)
            rw [lks_at ps l _ i hip, if_pos (List.mem_append_left _ hpQ), HEI2.out] at e0
            exact e0
          have HSX : Hid (wr.drew.cell? ⟨b2, 0, none⟩ = some (.pointer (some ⟨x, 0, none⟩)) ∧ wr.drew.cell? ⟨b3, 0, none⟩ = some (.pointer (some ⟨tt, 0, none⟩)) ∧ wr.drew.cell? ⟨x, 0, none⟩ = some (.slice (some ⟨g, 0, none⟩) ps.length cap) ∧ wr.drew.cell? ⟨g, i * 3, none⟩ = some (.int .i64 (failOf ps p))) := Lib.hid ⟨d2, d3, c0, r0⟩
          have HKS : Hid (∀ X, Below wr.drew.heap.size wr.drew X → X.cell? ⟨b2, 0, none⟩ = some (.pointer (some ⟨x, 0, none⟩)) ∧ X.cell? ⟨b3, 0, none⟩ = some (.pointer (some ⟨tt, 0, none⟩)) ∧ X.cell? ⟨x, 0, none⟩ = some (.slice (some ⟨g, 0, none⟩) ps.length cap) ∧ X.cell? ⟨g, i * 3, none⟩ = some (.int .i64 (failOf ps p))) := Lib.hid fun X hX => ⟨(hX.cell (p := ⟨b2, 0, none⟩) k2.lt).trans d2, (hX.cell (p := ⟨b3, 0, none⟩) k3.lt).trans d3, (hX.cell (p := ⟨x, 0, none⟩) hx).trans c0, (hX.cell (p := ⟨g, i * 3, none⟩) hg).trans r0⟩
          have hfull : Q.length + ks.length ≤ ps.length := by have := bq_len HW.out (k + 1); rw [HSUCC.out, List.length_append, HKL.out] at this; exact this
          have hqjl : (Q ++ (kidsT ps p).take j).length + 1 ≤ ps.length := by rw [List.length_append, List.length_take, HKL.out]; omega
          have HST := Lib.hid hfr
          have HEND := Lib.hid hend
          have HB0 := Lib.hid hbel
          have HKP := Lib.hid hkp
          have HWK2 := Lib.hid k2
          have HWK3 := Lib.hid k3
          have HEM := Lib.hid em
          have hil : (i : Int) < (ps.length : Int) := by omega
          have hml : (m : Int) < (ps.length : Int) := by omega
          have hjk : (j : Int) < (ks.length : Int) := by omega
          clear hfr hend hr h1 h2 h3 r0 d2 c0 c1 htr hqd hbd hbel hkp k2 k3 em em2 hqp ez hu hzp hzl ef eo hzQ hpQ hcc hq
          generalize failOf ps (p ++ [ks[j]]) = F at *
          generalize outOf ps l (p ++ [ks[j]]) = O at *
          generalize own l (p ++ [ks[j]]) = N at *
          generalize failOf ps p = F0 at *
          generalize hqq : p ++ [ks[j]] = q at *
          clear hqq
          generalize ks[j] = c at *
          generalize hQj : Q ++ (kidsT ps p).take j = Qj at *
          have HQJ := Lib.hid hQj
          clear hQj
          go_wp2_with (go_at_call 43; (with_reducible refine HSTEP.out.mono ?_); rintro e w1 ⟨rfl, rfl⟩)
          clear HSTEP hck d3
          refine wp_region_held_drew (S := fun w' => w'.cell? ⟨b2, 0, none⟩ = some (.pointer (some ⟨x, 0, none⟩)) ∧ w'.cell? ⟨b3, 0, none⟩ = some (.pointer (some ⟨tt, 0, none⟩)) ∧ w'.cell? ⟨x, 0, none⟩ = some (.slice (some ⟨g, 0, none⟩) ps.length cap) ∧ w'.cell? ⟨g, i * 3, none⟩ = some (.int .i64 F0)) (by kernel_rfl) HSX.out (fun hH0 => ?_)
          generalize wr.drew = x0 at *
          refine held_take (i := 0) (d := 39) (oi := _) (v := ?_) rfl rfl (by kernel_rfl) (by kernel_rfl) (by kernel_rfl) (fun _ _ _ h => h) (Or.inl ⟨by rfl, ?_⟩) (by assumption) ?_
          rotate_left
          · (intro w hSw; obtain ⟨s1, s2, s3, s4⟩ := hSw; go_simp; (try with_reducible rfl))
          simp only [Act.put, List.setIfInBounds_toArray, List.set_cons_zero, List.set_cons_succ]
          refine held_take (i := 1) (d := 40) (oi := _) (v := ?_) rfl rfl (by kernel_rfl) (by kernel_rfl) (by kernel_rfl) (fun _ _ _ h => h) (Or.inl ⟨by rfl, ?_⟩) (by assumption) ?_
          rotate_left
          · (intro w hSw; obtain ⟨s1, s2, s3, s4⟩ := hSw; go_simp; (try with_reducible rfl))
          simp only [Act.put, List.setIfInBounds_toArray, List.set_cons_zero, List.set_cons_succ]
          refine held_take (i := 2) (d := 41) (oi := _) (v := ?_) rfl rfl (by kernel_rfl) (by kernel_rfl) (by kernel_rfl) (fun _ _ _ h => h) (Or.inl ⟨by rfl, ?_⟩) (by assumption) ?_
          rotate_left
          · (intro w hSw; obtain ⟨s1, s2, s3, s4⟩ := hSw; go_simp; (try with_reducible rfl))
          simp only [Act.put, List.setIfInBounds_toArray, List.set_cons_zero, List.set_cons_succ]
          refine held_take (i := 3) (d := 42) (oi := _) (v := ?_) rfl rfl (by kernel_rfl) (by kernel_rfl) (by kernel_rfl) (fun _ _ _ h => h) (Or.inl ⟨by rfl, ?_⟩) (by assumption) ?_
          rotate_left
          · (intro w hSw; obtain ⟨s1, s2, s3, s4⟩ := hSw; go_simp; (try with_reducible rfl))
          simp only [Act.put, List.setIfInBounds_toArray, List.set_cons_zero, List.set_cons_succ]
          refine held_take (i := 4) (d := 43) (oi := _) (v := ?_) rfl rfl (by kernel_rfl) (by kernel_rfl) (by kernel_rfl) (fun _ _ _ h => h) (Or.inl ⟨by rfl, ?_⟩) (by assumption) ?_
          rotate_left
          · (intro w hSw; obtain ⟨s1, s2, s3, s4⟩ := hSw; go_simp; (try with_reducible rfl))
          simp only [Act.put, List.setIfInBounds_toArray, List.set_cons_zero, List.set_cons_succ]
          refine held_take (i := 5) (d := 44) (oi := _) (v := ?_) rfl rfl (by kernel_rfl) (by kernel_rfl) (by kernel_rfl) (fun _ _ _ h => h) (Or.inl ⟨by rfl, ?_⟩) (by assumption) ?_
          rotate_left
          · (intro w hSw; obtain ⟨s1, s2, s3, s4⟩ := hSw; go_simp; (try with_reducible rfl))
          simp only [Act.put, List.setIfInBounds_toArray, List.set_cons_zero, List.set_cons_succ]
          refine held_take (i := 6) (d := 45) (oi := _) (v := ?_) rfl rfl (by kernel_rfl) (by kernel_rfl) (by kernel_rfl) (fun _ _ _ h => h) (Or.inl ⟨by rfl, ?_⟩) (by assumption) ?_
          rotate_left
          · (intro w hSw; obtain ⟨s1, s2, s3, s4⟩ := hSw; go_simp; (try with_reducible rfl))
          simp only [Act.put, List.setIfInBounds_toArray, List.set_cons_zero, List.set_cons_succ]
          refine held_take (i := 7) (d := 46) (oi := _) (v := ?_) rfl rfl (by kernel_rfl) (by kernel_rfl) (by kernel_rfl) (fun _ _ _ h => h) (Or.inl ⟨by rfl, ?_⟩) (by assumption) ?_
          rotate_left
          · (intro w hSw; obtain ⟨s1, s2, s3, s4⟩ := hSw; go_simp; (try with_reducible rfl))
          simp only [Act.put, List.setIfInBounds_toArray, List.set_cons_zero, List.set_cons_succ]
          refine held_take (i := 8) (d := 47) (oi := _) (v := ?_) rfl rfl (by kernel_rfl) (by kernel_rfl) (by kernel_rfl) (fun _ _ _ h => h) (Or.inl ⟨by rfl, ?_⟩) (by assumption) ?_
          rotate_left
          · (intro w hSw; obtain ⟨s1, s2, s3, s4⟩ := hSw; go_simp; (try with_reducible rfl))
          simp only [Act.put, List.setIfInBounds_toArray, List.set_cons_zero, List.set_cons_succ]
          refine held_take (i := 9) (d := 48) (oi := _) (v := ?_) rfl rfl (by kernel_rfl) (by kernel_rfl) (by kernel_rfl) (fun _ _ _ h => h) (Or.inl ⟨by rfl, ?_⟩) (by assumption) ?_
          rotate_left
          · (intro w hSw; obtain ⟨s1, s2, s3, s4⟩ := hSw; go_simp; (try with_reducible rfl))
          simp only [Act.put, List.setIfInBounds_toArray, List.set_cons_zero, List.set_cons_succ]
          refine held_take (i := 10) (d := 49) (oi := _) (v := ?_) rfl rfl (by kernel_rfl) (by kernel_rfl) (by kernel_rfl) (fun _ _ _ h => h) (Or.inl ⟨by rfl, ?_⟩) (by assumption) ?_
          rotate_left
          · (intro w hSw; obtain ⟨s1, s2, s3, s4⟩ := hSw; go_simp; (try with_reducible rfl))
          simp only [Act.put, List.setIfInBounds_toArray, List.set_cons_zero, List.set_cons_succ]
          refine held_take (i := 11) (d := 50) (oi := _) (v := ?_) rfl rfl (by kernel_rfl) (by kernel_rfl) (by kernel_rfl) (fun _ _ _ h => h) (Or.inl ⟨by rfl, ?_⟩) (by assumption) ?_
          rotate_left
          · (intro w hSw; obtain ⟨s1, s2, s3, s4⟩ := hSw; go_simp; (try with_reducible rfl))
          simp only [Act.put, List.setIfInBounds_toArray, List.set_cons_zero, List.set_cons_succ]
          refine held_take (i := 12) (d := 51) (oi := _) (v := ?_) rfl rfl (by kernel_rfl) (by kernel_rfl) (by kernel_rfl) (fun _ _ _ h => h) (Or.inl ⟨by rfl, ?_⟩) (by assumption) ?_
          rotate_left
          · (intro w hSw; obtain ⟨s1, s2, s3, s4⟩ := hSw; go_simp; (try with_reducible rfl))
          simp only [Act.put, List.setIfInBounds_toArray, List.set_cons_zero, List.set_cons_succ]
          refine held_take (i := 13) (d := 52) (oi := _) (v := ?_) rfl rfl (by kernel_rfl) (by kernel_rfl) (by kernel_rfl) (fun _ _ _ h => h) (Or.inl ⟨by rfl, ?_⟩) (by assumption) ?_
          rotate_left
          · (intro w hSw; obtain ⟨s1, s2, s3, s4⟩ := hSw; go_simp; (try with_reducible rfl))
          simp only [Act.put, List.setIfInBounds_toArray, List.set_cons_zero, List.set_cons_succ]
          refine held_take (i := 14) (d := 53) (oi := _) (v := ?_) rfl rfl (by kernel_rfl) (by kernel_rfl) (by kernel_rfl) (fun _ _ _ h => h) (Or.inl ⟨by rfl, ?_⟩) (by assumption) ?_
          rotate_left
          · (intro w hSw; obtain ⟨s1, s2, s3, s4⟩ := hSw; go_simp; (try with_reducible rfl))
          simp only [Act.put, List.setIfInBounds_toArray, List.set_cons_zero, List.set_cons_succ]
          refine held_take (i := 15) (d := 54) (oi := _) (v := ?_) rfl rfl (by kernel_rfl) (by kernel_rfl) (by kernel_rfl) (fun _ _ _ h => h) (Or.inl ⟨by rfl, ?_⟩) (by assumption) ?_
          rotate_left
          · (intro w hSw; obtain ⟨s1, s2, s3, s4⟩ := hSw; go_simp; (try with_reducible rfl))
          simp only [Act.put, List.setIfInBounds_toArray, List.set_cons_zero, List.set_cons_succ]
          refine held_take (i := 17) (d := 56) (oi := _) (v := ?_) rfl rfl (by kernel_rfl) (by kernel_rfl) (by kernel_rfl) (fun _ _ _ h => h) (Or.inl ⟨by rfl, ?_⟩) (by assumption) ?_
          rotate_left
          · (intro w hSw; obtain ⟨s1, s2, s3, s4⟩ := hSw; go_simp; (try with_reducible rfl))
          simp only [Act.put, List.setIfInBounds_toArray, List.set_cons_zero, List.set_cons_succ]
          refine held_take (i := 18) (d := 57) (oi := _) (v := ?_) rfl rfl (by kernel_rfl) (by kernel_rfl) (by kernel_rfl) (fun _ _ _ h => h) (Or.inl ⟨by rfl, ?_⟩) (by assumption) ?_
          rotate_left
          · (intro w hSw; obtain ⟨s1, s2, s3, s4⟩ := hSw; go_simp; (try with_reducible rfl))
          simp only [Act.put, List.setIfInBounds_toArray, List.set_cons_zero, List.set_cons_succ]
          refine wpAnyH_ready (rs := [16]) (by kernel_rfl) (by simp) ?_
          refine AllReadyH.cons rfl (fun K hK => ?_) AllReadyH.nil
          go_simp
          go_wp2_with (go_at_call 56; (with_reducible refine HLAND.out.mono ?_); rintro e x' ⟨rfl, rfl⟩)
          refine hK.out _ _ hH0 (fun _ => ?_)
          clear hK K
          refine wpAnyH_ready (rs := [19]) (by kernel_rfl) (by simp) ?_
          refine AllReadyH.cons rfl (fun K hK => ?_) AllReadyH.nil
          go_simp
          go_wp2_with (go_at_call 58; (with_reducible refine (HOWN.out _ (Below.refl _ _)).mono ?_); rintro e x1 ⟨rfl, hb1⟩)
          have hH1 := HKS.out x1 hb1
          have HX1 := Lib.hid hb1
          clear hb1
          refine hK.out _ _ hH1 (fun _ => ?_)
          clear hK K
          refine wpAnyH_ready (rs := [20]) (by kernel_rfl) (by simp) ?_
          refine AllReadyH.cons rfl (fun K hK => ?_) AllReadyH.nil
          go_simp
          go_wp2_with (go_at_call 57; (with_reducible refine (HLINK.out _ HX1.out).mono ?_); rintro e x3 ⟨rfl, hb3⟩)
          have HX3 := Lib.hid (HX1.out.trans (hb3.mono HX1.out.size))
          clear hb3
          have hH3 := HKS.out x3 HX3.out
          refine hK.out _ _ hH3 (fun _ => ?_)
          clear hK K
          refine held_take (i := 21) (d := 60) (oi := _) (v := ?_) rfl rfl (by kernel_rfl) (by kernel_rfl) (by kernel_rfl) (fun _ _ _ h => h) (Or.inl ⟨by rfl, ?_⟩) (by assumption) ?_
          rotate_left
          · (intro w hSw; obtain ⟨s1, s2, s3, s4⟩ := hSw; go_simp; (try with_reducible rfl))
          simp only [Act.put, List.setIfInBounds_toArray, List.set_cons_zero, List.set_cons_succ]
          obtain ⟨⟨v0, y1⟩, ⟨v1, y2⟩, ⟨v2, y3⟩, y4, y5, y6, y7⟩ := HST.out x3 HX3.out
          obtain ⟨t1, t2, t3, t4, t5, t6⟩ := HEND.out x3 HX3.out
          have q2 := t4.blk1 HWK2.out
          have q3 := t4.blk1 HWK3.out
          refine wpAnyH_ready (rs := [22]) (by kernel_rfl) (by simp) ?_
          refine AllReadyH.cons rfl (fun K hK => ?_) AllReadyH.nil
          go_simp
          refine hK.out _ _ ⟨q2.cell, q3.cell, t1.cells.1, t6⟩ (fun _ => ?_)
          clear hK K
          refine wpAnyH_done (by kernel_rfl) ?_ _
          change Exit.then _ _ _ _ (putL x3 g m ⟨F, O, N⟩)
          clear y1 y2 y3 y4 y5 y6 y7 v0 v1 v2 t6 hH3 hH1 hH0 HST HEND HX1 HX3 HSX HKS HLAND HOWN HLINK
          have HKP2 := Lib.hid (HKP.out.trans t4)
          clear HKP t4
          generalize putL x3 g m ⟨F, O, N⟩ = w5 at *
          have hln : (Qj.map (place ps)).length = Qj.length := by simp
          obtain ⟨ao, co2, evo, _, _⟩ := own_is t3
          rw [hln] at evo
          subst evo
          have bd : Below w5.heap.size w5 w5.drew := below_drews (Below.refl w5.heap.size w5) 1
          have t1 := t1.same (bd.block x t1.lt)
          have t2 := own_keep t2 bd
          have t3 := own_keep t3 bd
          have q2 := (Kp.of_below bd).blk1 q2
          have HKP3 := Lib.hid (HKP2.out.trans (Kp.of_below bd))
          have t5 : Below s w0 w5.drew := below_drews t5 1
          have d2 := q2.cell
          clear bd HKP2
          have HT1 := Lib.hid t1
          have HO3 := Lib.hid t3
          have HSTO : Hid (∀ (w4 : World) (v4 : Value), w5.drew.heap.size ≤ w4.heap.size → (∀ b : Nat, b < w5.drew.heap.size → some b ≠ (Value.slice ao Qj.length co2).ownBlock → w4.heap[b]? = w5.drew.heap[b]?) → w4.ownsRow s 3 1 v4 (Qj.length + 1) (ivals (Qj.map (place ps) ++ [place ps q])) → LiQ (w4.setCell ⟨x, 1, none⟩ v4) s x ps l (Qj ++ [q]) ∧ Kp w5.drew (w4.setCell ⟨x, 1, none⟩ v4)) := Lib.hid fun w4 v4 h1 h2 h3 => ord_store hs0 t1 t2 t3 h1 h2 h3
          have hs5 : s ≤ w5.drew.heap.size := by have := t5.size; omega
          have hx5 := t1.lt
          have hb25 := q2.lt
          obtain ⟨c0, c1⟩ := t1.cells
          have hne : some x ≠ (Value.slice ao Qj.length co2).ownBlock := fun e => by
            obtain ⟨_, _, cs, hh⟩ := own_block_lt t3 e.symm
            have := hh.symm.trans t1
            simp at this
          have hne2 : some b2 ≠ (Value.slice ao Qj.length co2).ownBlock := fun e => by
            obtain ⟨_, _, cs, hh⟩ := own_block_lt t3 e.symm
            have := hh.symm.trans q2
            simp at this
          have HNE := Lib.hid hne
          have HNE2 := Lib.hid hne2
          have HB5 := Lib.hid t5
          have HQ2 := Lib.hid q2
          clear hne hne2 t1 t2 t3 t5 q2 q3
          go_wp2
          refine wp_region_held_drew (S := fun w' => w'.cell? ⟨b2, 0, none⟩ = some (.pointer (some ⟨x, 0, none⟩))) (by kernel_rfl) d2 (fun hH0 => ?_)
          generalize w5.drew = w6 at *
          have hHa : (w6.alloc (.cells #[.int .i64 (m : Int)] 3)).cell? ⟨b2, 0, none⟩ = some (.pointer (some ⟨x, 0, none⟩)) := Lib.cell?_alloc_some _ d2
          refine held_take (i := 0) (d := 61) (oi := _) (v := ?_) rfl rfl (by kernel_rfl) (by kernel_rfl) (by kernel_rfl) (fun _ _ _ h => h) (Or.inl ⟨by rfl, ?_⟩) (by assumption) ?_
          rotate_left
          · (intro w hSw; go_simp; (try with_reducible rfl))
          simp only [Act.put, List.setIfInBounds_toArray, List.set_cons_zero, List.set_cons_succ]
          refine held_take (i := 1) (d := 62) (oi := _) (v := ?_) rfl rfl (by kernel_rfl) (by kernel_rfl) (by kernel_rfl) (fun _ _ _ h => h) (Or.inl ⟨by rfl, ?_⟩) (by assumption) ?_
          rotate_left
          · (intro w hSw; go_simp; (try with_reducible rfl))
          simp only [Act.put, List.setIfInBounds_toArray, List.set_cons_zero, List.set_cons_succ]
          refine held_take (i := 2) (d := 63) (oi := _) (v := ?_) rfl rfl (by kernel_rfl) (by kernel_rfl) (by kernel_rfl) (fun _ _ _ h => h) (Or.inl ⟨by rfl, ?_⟩) (by assumption) ?_
          rotate_left
          · (intro w hSw; go_simp; (try with_reducible rfl))
          simp only [Act.put, List.setIfInBounds_toArray, List.set_cons_zero, List.set_cons_succ]
          refine held_take (i := 3) (d := 64) (oi := _) (v := ?_) rfl rfl (by kernel_rfl) (by kernel_rfl) (by kernel_rfl) (fun _ _ _ h => h) (Or.inl ⟨by rfl, ?_⟩) (by assumption) ?_
          rotate_left
          · (intro w hSw; go_simp; (try with_reducible rfl))
          simp only [Act.put, List.setIfInBounds_toArray, List.set_cons_zero, List.set_cons_succ]
          refine held_take (i := 5) (d := 66) (oi := _) (v := ?_) rfl rfl (by kernel_rfl) (by kernel_rfl) (by kernel_rfl) (fun _ _ _ h => h) (Or.inl ⟨by rfl, ?_⟩) (by assumption) ?_
          rotate_left
          · (intro w hSw; go_simp; (try with_reducible rfl))
          simp only [Act.put, List.setIfInBounds_toArray, List.set_cons_zero, List.set_cons_succ]
          refine wpAnyH_ready (rs := [4, 6]) (by kernel_rfl) (by simp) ?_
          refine AllReadyH.cons rfl (fun K hK => ?_) (AllReadyH.cons rfl (fun K hK => ?_) AllReadyH.nil)
          · go_simp
            refine hK.out _ _ hH0 (fun _ => ?_)
            clear hK K
            refine wpAnyH_ready (rs := [6]) (by kernel_rfl) (by simp) ?_
            refine AllReadyH.cons rfl (fun K hK => ?_) AllReadyH.nil
            go_simp
            refine hK.out _ _ hHa (fun _ => ?_)
            clear hK K
            refine wpAnyH_ready (rs := [7]) (by kernel_rfl) (by simp) ?_
            refine AllReadyH.cons rfl (fun K hK => ?_) AllReadyH.nil
            rw [if_pos (by rfl)]
            refine wp_app_is (.tmp 65) (.tmp 67) rfl s (.slice ao Qj.length co2) Qj.length (Qj.map (place ps)) (m : Int) rfl (HO3.out.alloc _) ⟨w6.heap.size, 0, none⟩ rfl (cell_new_at _ _ rfl) (by omega) (by simp; omega) ?_
            intro v4 w4 hown4 hg4
            obtain ⟨g4, cap4, rfl⟩ := own_succ hown4
            have hgb : ∀ b : Nat, b < w6.heap.size → some b ≠ (Value.slice ao Qj.length co2).ownBlock → w4.heap[b]? = w6.heap[b]? := fun b h1 h2 => (hg4.block b (by simp; omega) h2).trans (Below.heap_alloc w6 _ b h1)
            have hz4 : w6.heap.size ≤ w4.heap.size := by have := hg4.size; simp at this; omega
            have hbk4 := HT1.out.same (hgb x hx5 HNE.out)
            obtain ⟨c40, c41⟩ := hbk4.cells
            obtain ⟨f40, f41⟩ := hbk4.free
            have hx4 := hbk4.lt
            have hHb : w4.cell? ⟨b2, 0, none⟩ = some (.pointer (some ⟨x, 0, none⟩)) := (cell_same (hgb b2 hb25 HNE2.out)).trans d2
            obtain ⟨hLQ, hKQ⟩ := HSTO.out w4 _ hz4 hgb (by rw [HEM.out]; exact hown4)
            have hHc := (hKQ.blk1 HQ2.out).cell
            have hBq : Below s w0 (w4.setCell ⟨x, 1, none⟩ (.slice (some ⟨g4, 0, none⟩) (Qj.length + 1) cap4)) := ((HB5.out.alloc hs5 _).grown hg4 (by simp; omega) (fun q hq => own_ge HO3.out hq)).setCell (p := ⟨x, 1, none⟩) hs0 _
            refine hK.out _ _ hHb (fun _ => ?_)
            clear hK K hg4 hgb hbk4 hown4 hz4
            simp only [Act.put, List.setIfInBounds_toArray]
            refine held_take (i := 8) (d := 69) (oi := _) (v := ?_) rfl rfl (by kernel_rfl) (by kernel_rfl) (by kernel_rfl) (fun _ _ _ h => h) (Or.inl ⟨by rfl, ?_⟩) (by assumption) ?_
            rotate_left
            · (intro w hSw; go_simp; (try with_reducible rfl))
            simp only [Act.put]
            refine held_take (i := 9) (d := 70) (oi := _) (v := ?_) rfl rfl (by kernel_rfl) (by kernel_rfl) (by kernel_rfl) (fun _ _ _ h => h) (Or.inl ⟨by rfl, ?_⟩) (by assumption) ?_
            rotate_left
            · (intro w hSw; go_simp; (try with_reducible rfl))
            simp only [Act.put]
            refine wpAnyH_ready (rs := [10]) (by kernel_rfl) (by simp) ?_
            refine AllReadyH.cons rfl (fun K hK => ?_) AllReadyH.nil
            go_simp
            refine hK.out _ _ hHc (fun _ => ?_)
            clear hK K
            refine wpAnyH_done (by kernel_rfl) ?_ _
            have HLQ5 := Lib.hid hLQ
            have HKP5 := Lib.hid (HKP3.out.trans hKQ)
            have HB5q := Lib.hid hBq
            clear hLQ hKQ hBq hHb hHc c40 c41 f40 f41 hx4 hHa hH0 d2 c0 c1
            generalize w4.setCell ⟨x, 1, none⟩ (.slice (some ⟨g4, 0, none⟩) (Qj.length + 1) cap4) = w7 at *
            have q2 := HKP5.out.blk1 (HB2K.out.blk1 HK2.out)
            have d2 := q2.cell
            have hlq := HLQ5.out
            obtain ⟨hs7, g7, cap7, vo7, k1, k5, k6⟩ := hlq
            obtain ⟨a7, c7, rfl, _, _⟩ := own_is k6
            have hln7 : ((Qj ++ [q]).map (place ps)).length = Qj.length + 1 := by simp
            rw [hln7] at k1
            obtain ⟨c0, c1⟩ := k1.cells
            have hx7 := k1.lt
            have hb27 := q2.lt
            have HQE : Hid (Qj ++ [q] = Q ++ (kidsT ps p).take (j + 1)) := Lib.hid (by rw [HTK.out, ← HQJ.out, List.append_assoc])
            clear q2 k1 k5 k6 hln7
            by_cases hfl : Qj.length + 1 = ps.length
            · have hbq : (((Qj.length + 1 : Nat) : Int) == (ps.length : Int)) = true := beq_iff_eq.2 (by omega)
              have HOE : Hid (Qj ++ [q] = ord ps) := Lib.hid (by
                rw [HQE.out]
                exact HFULL.out (j + 1) (by rw [← HQE.out]; simp; omega))
              clear hfl
              go_wp2
              go_quiet (fail)
              go_wp2
              rw [Exit.noGoto_normal]
              go_end0
              have hl7 := HLQ5.out.keep (below_drews (Below.refl _ _) nq)
              rw [HOE.out] at hl7
              exact ⟨⟨_, rfl⟩, hl7, below_drews HB5q.out nq⟩
            · have hbq : (((Qj.length + 1 : Nat) : Int) == (ps.length : Int)) = false := beq_eq_false_iff_ne.2 (by omega)
              clear hfl
              go_wp2
              go_quiet (fail)
              go_wp2
              have hl7 := HLQ5.out.keep (below_drews (Below.refl _ _) nq)
              rw [HQE.out] at hl7
              exact ⟨⟨j + 1, by omega, by go_num, hl7, below_drews HB5q.out nq, HKP5.out.trans (Kp.of_below (below_drews (Below.refl _ _) nq))⟩, by simp [intOf]; omega⟩
          · go_simp
            refine hK.out _ _ hHa (fun _ => ?_)
            clear hK K
            have c1a : (w6.alloc (.cells #[.int .i64 (m : Int)] 3)).cell? ⟨x, 1, none⟩ = some (.slice ao Qj.length co2) := Lib.cell?_alloc_some _ c1
            refine wpAnyH_ready (rs := [4]) (by kernel_rfl) (by simp) ?_
            refine AllReadyH.cons rfl (fun K hK => ?_) AllReadyH.nil
            go_simp
            refine hK.out _ _ hHa (fun _ => ?_)
            clear hK K c1a
            refine wpAnyH_ready (rs := [7]) (by kernel_rfl) (by simp) ?_
            refine AllReadyH.cons rfl (fun K hK => ?_) AllReadyH.nil
            rw [if_pos (by rfl)]
            refine wp_app_is (.tmp 65) (.tmp 67) rfl s (.slice ao Qj.length co2) Qj.length (Qj.map (place ps)) (m : Int) rfl (HO3.out.alloc _) ⟨w6.heap.size, 0, none⟩ rfl (cell_new_at _ _ rfl) (by omega) (by simp; omega) ?_
            intro v4 w4 hown4 hg4
            obtain ⟨g4, cap4, rfl⟩ := own_succ hown4
            have hgb : ∀ b : Nat, b < w6.heap.size → some b ≠ (Value.slice ao Qj.length co2).ownBlock → w4.heap[b]? = w6.heap[b]? := fun b h1 h2 => (hg4.block b (by simp; omega) h2).trans (Below.heap_alloc w6 _ b h1)
            have hz4 : w6.heap.size ≤ w4.heap.size := by have := hg4.size; simp at this; omega
            have hbk4 := HT1.out.same (hgb x hx5 HNE.out)
            obtain ⟨c40, c41⟩ := hbk4.cells
            obtain ⟨f40, f41⟩ := hbk4.free
            have hx4 := hbk4.lt
            have hHb : w4.cell? ⟨b2, 0, none⟩ = some (.pointer (some ⟨x, 0, none⟩)) := (cell_same (hgb b2 hb25 HNE2.out)).trans d2
            obtain ⟨hLQ, hKQ⟩ := HSTO.out w4 _ hz4 hgb (by rw [HEM.out]; exact hown4)
            have hHc := (hKQ.blk1 HQ2.out).cell
            have hBq : Below s w0 (w4.setCell ⟨x, 1, none⟩ (.slice (some ⟨g4, 0, none⟩) (Qj.length + 1) cap4)) := ((HB5.out.alloc hs5 _).grown hg4 (by simp; omega) (fun q hq => own_ge HO3.out hq)).setCell (p := ⟨x, 1, none⟩) hs0 _
            refine hK.out _ _ hHb (fun _ => ?_)
            clear hK K hg4 hgb hbk4 hown4 hz4
            simp only [Act.put, List.setIfInBounds_toArray]
            refine held_take (i := 8) (d := 69) (oi := _) (v := ?_) rfl rfl (by kernel_rfl) (by kernel_rfl) (by kernel_rfl) (fun _ _ _ h => h) (Or.inl ⟨by rfl, ?_⟩) (by assumption) ?_
            rotate_left
            · (intro w hSw; go_simp; (try with_reducible rfl))
            simp only [Act.put]
            refine held_take (i := 9) (d := 70) (oi := _) (v := ?_) rfl rfl (by kernel_rfl) (by kernel_rfl) (by kernel_rfl) (fun _ _ _ h => h) (Or.inl ⟨by rfl, ?_⟩) (by assumption) ?_
            rotate_left
            · (intro w hSw; go_simp; (try with_reducible rfl))
            simp only [Act.put]
            refine wpAnyH_ready (rs := [10]) (by kernel_rfl) (by simp) ?_
            refine AllReadyH.cons rfl (fun K hK => ?_) AllReadyH.nil
            go_simp
            refine hK.out _ _ hHc (fun _ => ?_)
            clear hK K
            refine wpAnyH_done (by kernel_rfl) ?_ _
            have HLQ5 := Lib.hid hLQ
            have HKP5 := Lib.hid (HKP3.out.trans hKQ)
            have HB5q := Lib.hid hBq
            clear hLQ hKQ hBq hHb hHc c40 c41 f40 f41 hx4 hHa hH0 d2 c0 c1
            generalize w4.setCell ⟨x, 1, none⟩ (.slice (some ⟨g4, 0, none⟩) (Qj.length + 1) cap4) = w7 at *
            have q2 := HKP5.out.blk1 (HB2K.out.blk1 HK2.out)
            have d2 := q2.cell
            have hlq := HLQ5.out
            obtain ⟨hs7, g7, cap7, vo7, k1, k5, k6⟩ := hlq
            obtain ⟨a7, c7, rfl, _, _⟩ := own_is k6
            have hln7 : ((Qj ++ [q]).map (place ps)).length = Qj.length + 1 := by simp
            rw [hln7] at k1
            obtain ⟨c0, c1⟩ := k1.cells
            have hx7 := k1.lt
            have hb27 := q2.lt
            have HQE : Hid (Qj ++ [q] = Q ++ (kidsT ps p).take (j + 1)) := Lib.hid (by rw [HTK.out, ← HQJ.out, List.append_assoc])
            clear q2 k1 k5 k6 hln7
            by_cases hfl : Qj.length + 1 = ps.length
            · have hbq : (((Qj.length + 1 : Nat) : Int) == (ps.length : Int)) = true := beq_iff_eq.2 (by omega)
              have HOE : Hid (Qj ++ [q] = ord ps) := Lib.hid (by
                rw [HQE.out]
                exact HFULL.out (j + 1) (by rw [← HQE.out]; simp; omega))
              clear hfl
              go_wp2
              go_quiet (fail)
              go_wp2
              rw [Exit.noGoto_normal]
              go_end0
              have hl7 := HLQ5.out.keep (below_drews (Below.refl _ _) nq)
              rw [HOE.out] at hl7
              exact ⟨⟨_, rfl⟩, hl7, below_drews HB5q.out nq⟩
            · have hbq : (((Qj.length + 1 : Nat) : Int) == (ps.length : Int)) = false := beq_eq_false_iff_ne.2 (by omega)
              clear hfl
              go_wp2
              go_quiet (fail)
              go_wp2
              have hl7 := HLQ5.out.keep (below_drews (Below.refl _ _) nq)
              rw [HQE.out] at hl7
              exact ⟨⟨j + 1, by omega, by go_num, hl7, below_drews HB5q.out nq, HKP5.out.trans (Kp.of_below (below_drews (Below.refl _ _) nq))⟩, by simp [intOf]; omega⟩
        · obtain rfl : j = ks.length := by omega
          have HQE : Hid (Q ++ (kidsT ps p).take ks.length = bq ps (k + 1)) := Lib.hid (by rw [HSUCC.out, List.take_of_length_le (by rw [HKL.out]; exact Nat.le_refl _)])
          rw [HQE.out] at hq
          have HLQ5 := Lib.hid hq
          have HB5 := Lib.hid hbel
          have k2 := hkp.blk1 (HB2K.out.blk1 HK2.out)
          have k3 := hkp.blk1 (HB2K.out.blk1 HK3.out)
          have HR2 := Lib.hid k2
          have HR3 := Lib.hid k3
          have hkq : k + 1 ≤ (bq ps (k + 1)).length := by rw [HSUCC.out, List.length_append]; have := HLT.out; omega
          have HLT2 := HLT.out
          clear hq hbel hkp k2 k3
          go_wp2
          exact ⟨⟨k + 1, hkq, by go_num, HLQ5.out, HB5.out, HR2.out, HR3.out⟩, by simp [intOf]; omega⟩
    · have hke : bq ps k = ord ps := ord_of_end (by omega) (by omega)
      have hle : (bq ps k).length = k := by omega
      obtain ⟨hs0, g, cap, vo, h1, h2, h3⟩ := hq
      obtain ⟨a, co, rfl, _, _⟩ := own_is h3
      have hln : ((bq ps k).map (place ps)).length = k := by rw [List.length_map, hle]
      obtain ⟨c0, c1⟩ := h1.cells
      rw [hln] at c1
      have hx := h1.lt
      have d2 := k2.cell
      have HLQ : Hid (LiQ wr s x ps l (ord ps)) := Lib.hid (by rw [← hke]; exact ⟨hs0, g, cap, _, h1, h2, h3⟩)
      have HBE := Lib.hid hbel
      clear h1 h2 h3 hbel k2 k3 hke hle hln hk hql hlt
      go_wp2
      rw [Exit.noGoto_normal]
      go_end0
      exact ⟨⟨_, rfl⟩, HLQ.out, HBE.out⟩
end Go.Proofs.Ytkooanahgffjgaa.Lnk
