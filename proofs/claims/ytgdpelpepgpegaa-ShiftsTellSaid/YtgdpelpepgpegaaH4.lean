/- falls: its contract. -/
import Derived.Test.YtgdpelpepgpegaaH3
namespace Go.Proofs.Ytgdpelpepgpegaa.Shf
open Go.RowKit Go.Maps Go.Proofs.Ytgdpelpepgpegaa.Tri Go.Proofs.Ytgdpelpepgpegaa.Lnk Go.Proofs.Ytgdpelpepgpegaa.Cwl Go.Proofs.Ytgdpelpepgpegaa.Bck Go.Proofs.Ytgdpelpepgpegaa.Reg
set_option maxRecDepth 100000
set_option linter.unusedVariables false

theorem kidsT_at (ps : List Tx) (p : Tx) (j : Nat) (h : j < (rkids ps p).length) : (kidsT ps p)[j]'(by unfold kidsT; simpa using h) = p ++ [(rkids ps p)[j]] := by simp [kidsT]
theorem kidsT_len (ps : List Tx) (p : Tx) : (kidsT ps p).length = (rkids ps p).length := by simp [kidsT]
theorem kidsT_take (ps : List Tx) (p : Tx) (j : Nat) (h : j < (rkids ps p).length) : (kidsT ps p).take (j + 1) = (kidsT ps p).take j ++ [p ++ [(rkids ps p)[j]]] := by
  rw [List.take_succ_eq_append_getElem (by rw [kidsT_len]; exact h), kidsT_at ps p j h]
/-- While falls goes on: the row of falls, the order, and the two variables that the closure has. -/
def Fq (w : World) (s g n b1 gf x : Nat) (ps Qf Qo : List Tx) (vo : Value) : Prop :=
  w.ownsRow s 3 1 (.slice (some ⟨g, 0, none⟩) n n) n (ivals (fls ps Qf)) ∧ w.ownsRow (g + 1) 3 1 vo Qo.length (ivals (Qo.map (place ps))) ∧
    Blk1 w b1 29 (.pointer (some ⟨x, 0, none⟩)) ∧ Blk1 w gf 61 (.slice (some ⟨g, 0, none⟩) n n)
theorem Fq.keep {w w' : World} {s g n b1 gf x : Nat} {ps Qf Qo : List Tx} {vo : Value} (h : Fq w s g n b1 gf x ps Qf Qo vo) (hb : Below w.heap.size w w') : Fq w' s g n b1 gf x ps Qf Qo vo := by
  obtain ⟨h1, h2, h4, h5⟩ := h
  exact ⟨own_keep h1 hb, own_keep h2 hb, (hb.block _ h4.lt).trans h4, (hb.block _ h5.lt).trans h5⟩
/-- One fall more. -/
theorem Fq.store {w : World} {s g n b1 gf x : Nat} {ps Q Qo : List Tx} {vo : Value} (h : Fq w s g n b1 gf x ps Q Qo vo) (hw : Wf ps) {m : Nat} (hm : m < ps.length) :
    Fq (w.setCell ⟨g, m, none⟩ (.int .i64 (failOf ps ps[m]))) s g n b1 gf x ps (Q ++ [ps[m]]) Qo vo ∧ s ≤ g := by
  obtain ⟨h1, h2, h4, h5⟩ := h
  obtain ⟨hsg, hgz, cs, hh⟩ := own_block_lt h1 (g := g) rfl
  have ne1 : b1 ≠ g := fun e => by subst e; have := hh.symm.trans h4; simp at this
  have ne2 : gf ≠ g := fun e => by subst e; have := hh.symm.trans h5; simp at this
  refine ⟨⟨?_, own_far_block h2 fun k hk => Below.heap_setCell _ _ _ _ fun e => ?_, (Below.heap_setCell _ _ _ _ ne1).trans h4, (Below.heap_setCell _ _ _ _ ne2).trans h5⟩, hsg⟩
  · rw [fls_snoc hw.nodup Q hm]
    have := (h1.stored m (.int .i64 (failOf ps ps[m]))).1
    have e : (ivals (fls ps Q)).set m (.int .i64 (failOf ps ps[m])) = ivals ((fls ps Q).set m (failOf ps ps[m])) := by simp [ivals]
    rwa [e] at this
  · have := own_ge h2 hk
    have e2 : k = g := e
    omega
/-- The order, one number more. -/
theorem Fq.more {w w4 : World} {s g n b1 gf x : Nat} {ps Q Qo : List Tx} {vo v4 : Value} {q : Tx} (h : Fq w s g n b1 gf x ps Q Qo vo)
    (hg : w.grownBy w4 vo.ownBlock) (h4 : w4.ownsRow (g + 1) 3 1 v4 (Qo.length + 1) (ivals (Qo.map (place ps) ++ [place ps q]))) : Fq w4 s g n b1 gf x ps Q (Qo ++ [q]) v4 := by
  obtain ⟨h1, h2, h5, h6⟩ := h
  have far : ∀ k, k < w.heap.size → vo.ownBlock ≠ some k → w4.heap[k]? = w.heap[k]? := fun k hk hne => hg.block k hk fun e => hne e.symm
  have nk : ∀ {k t : Nat} {u : Value}, Blk1 w k t u → t ≠ 3 → vo.ownBlock ≠ some k := fun hb ht e => by
    obtain ⟨_, _, cs', hh'⟩ := own_block_lt h2 e
    have := hh'.symm.trans hb
    simp at this
    exact ht this.2.symm
  refine ⟨own_far_block h1 fun k hk => ?_, ?_, (far _ h5.lt (nk h5 (by decide))).trans h5, (far _ h6.lt (nk h6 (by decide))).trans h6⟩
  · have e : g = k := by simpa [Value.ownBlock] using hk
    subst e
    exact far _ (own_block_lt h1 rfl).2.1 fun e => by have := own_ge h2 e; omega
  · rw [List.length_append, List.length_singleton, List.map_append]
    exact h4
theorem made_list (n : Nat) : (madeCells (Value.int .i64 0).cells (n * 1)).toList = ivals (List.replicate n 0) := by
  apply List.ext_getElem?
  intro j
  by_cases hj : j < n
  · simp only [madeCells, ivals, List.map_replicate, List.getElem?_replicate, if_pos hj, Array.getElem?_toList, Array.getElem?_map]
    rw [Array.getElem?_range]
    have : j % 1 = 0 := Nat.mod_one j
    simp [Value.cells, hj, this]
  · simp [madeCells, ivals, hj]
set_option maxHeartbeats 4000000 in
theorem falls_any (w : World) (s0 x : Nat) (l : List Tx) (hbk : Bk w s0 x l) (ps : List Tx) (hps : paths (turned l) = ps) (hn : ps.length ≤ 1000000) :
    Calls Try.prog 29 #[.pointer (some ⟨x, 0, none⟩)] w fun e w' => ∃ g, e = .returned (.slice (some ⟨g, 0, none⟩) ps.length ps.length) ∧ w'.ownsRow w.heap.size 3 1 (.slice (some ⟨g, 0, none⟩) ps.length ps.length) ps.length (ivals (ps.map (failOf ps))) ∧ Below w.heap.size w w' := by
  obtain ⟨tt, hx, htr⟩ := hbk.tree
  rw [hps] at htr
  have HW : Hid (Wf ps) := Lib.hid (hps ▸ paths_wf (turned l))
  have HIV := Lib.hid (fun i => inv_bq HW.out i)
  have HT : Hid (∀ X, Below w.heap.size w X → Tr X s0 tt ps (turned l)) := Lib.hid fun X hX => htr.keep hX
  have HN : Hid (∀ X, Below w.heap.size w X → _) := Lib.hid fun X hX => nodes_any X s0 tt ps _ (htr.keep hX)
  have HX : Hid (∀ X, Below w.heap.size w X → X.cell? ⟨x, 0, none⟩ = some (.pointer (some ⟨tt, 0, none⟩))) := Lib.hid fun X hX => (hX.cell (p := ⟨x, 0, none⟩) (cell_lt0 hx)).trans hx
  have HLAND := Lib.hid (fun X (hX : Below w.heap.size w X) => land_any X s0 x l (hbk.keep hX))
  rw [hps] at HLAND
  have hxl := cell_lt0 hx
  have hpos := HW.out.pos
  obtain ⟨i0, hi, hz0, hz1, hz2⟩ := info_parts Lnk.info3
  clear htr hbk hps
  have hmf : ∀ (fn : Fn) (first cap : Array Value) (w : World), (Instr.makeFunc fn first cap).run Try.prog w = .ok (.func fn first cap) w := fun _ _ _ _ => rfl
  go_enter Try.func29, Try.ntmps29
  have hxa : (w.alloc (.cells #[.pointer (some ⟨x, 0, none⟩)] 29)).cell? ⟨x, 0, none⟩ = some (.pointer (some ⟨tt, 0, none⟩)) := HX.out _ ((Below.refl _ w).alloc (Nat.le_refl _) _)
  go_wp2_with (first
    | (go_at_call 21; (with_reducible refine (HN.out _ ((Below.refl _ w).alloc (Nat.le_refl _) _)).mono ?_); rintro e w0 ⟨rfl, rfl⟩)
    | (at_make; refine wpList_make_full _ rfl _ _ 61 rfl (w.heap.size + 1) 3 i0 (.int .i64 0) 1 Lnk.und32 hi hz0 hz1 .i64 .i64 _ _ ps.length rfl rfl (by simp) (by simp) (by rw [hz2]; omega) (by unfold maxLen; omega) (by simp) ?_; intro w1 hown hg1; rw [made_list, World.size_alloc] at hown; have HGL := Lib.hid (own_block_lt hown (g := w.heap.size + 1) rfl).2.1; have hb1 := ((Below.refl _ w).alloc (Nat.le_refl _) (.cells #[.pointer (some ⟨x, 0, none⟩)] 29)).grown hg1 (by simp) (fun k hk => by cases hk); have hk1 : Blk1 w1 w.heap.size 29 (.pointer (some ⟨x, 0, none⟩)) := ((hg1.block w.heap.size (by simp) (by simp)).trans (heap_alloc_new w _)); have how2 := hown.alloc (.cells #[.slice (some ⟨w.heap.size + 1, 0, none⟩) ps.length ps.length] 61); have hcg := how2.cellAt 0 (by omega); have hfg := how2.frozenAt 0; rw [ivals_at _ _ (by simp; omega)] at hcg; have HB1 := Lib.hid hb1; have HK1 := Lib.hid hk1; have HO2 := Lib.hid how2; clear hown hg1 hb1 hk1 how2))
  have hgl := HGL.out
  clear HGL
  have hF0 : Fq (((w1.alloc (.cells #[.slice (some ⟨w.heap.size + 1, 0, none⟩) ps.length ps.length] 61)).setCell ⟨w.heap.size + 1, 0, none⟩ (.int .i64 (-1))).alloc (.cells #[.int .i64 0] 3)) w.heap.size (w.heap.size + 1) ps.length w.heap.size w1.heap.size x ps [[]] [[]] (.slice (some ⟨w1.heap.size + 1, 0, none⟩) 1 1) := by
    have h2 := (HO2.out.stored 0 (.int .i64 (-1))).1.alloc (.cells #[.int .i64 0] 3)
    have e : (ivals (List.replicate ps.length 0)).set 0 (.int .i64 (-1)) = ivals (fls ps [[]]) := by rw [fls_root HW.out]; simp [ivals]
    rw [e] at h2
    have h3 := World.ownsRow_lit (base := w.heap.size + 1 + 1) (e := 3) (size := 1) ((w1.alloc (.cells #[.slice (some ⟨w.heap.size + 1, 0, none⟩) ps.length ps.length] 61)).setCell ⟨w.heap.size + 1, 0, none⟩ (.int .i64 (-1))) #[.int .i64 0] 1 (by simp; omega) (by unfold maxLen; omega) rfl
    rw [show ((w1.alloc (.cells #[.slice (some ⟨w.heap.size + 1, 0, none⟩) ps.length ps.length] 61)).setCell ⟨w.heap.size + 1, 0, none⟩ (.int .i64 (-1))).heap.size = w1.heap.size + 1 by simp] at h3
    refine ⟨own_base h2 (by omega), ?_, ?_, ?_⟩
    · have e2 : ivals ([([] : Tx)].map (place ps)) = [.int .i64 0] := by simp [ivals, place_nil HW.out]
      rw [e2]
      exact h3
    · refine (Below.heap_alloc _ _ _ (by simp; omega)).trans ((Below.heap_setCell _ _ _ _ (by simp)).trans ((Below.heap_alloc _ _ _ (by omega)).trans HK1.out))
    · refine (Below.heap_alloc _ _ _ (by simp)).trans ((Below.heap_setCell _ _ _ _ (by simp; omega)).trans (heap_alloc_new w1 _))
  have hbl : Below w.heap.size w (((w1.alloc (.cells #[.slice (some ⟨w.heap.size + 1, 0, none⟩) ps.length ps.length] 61)).setCell ⟨w.heap.size + 1, 0, none⟩ (.int .i64 (-1))).alloc (.cells #[.int .i64 0] 3)) :=
    ((HB1.out.alloc (by omega) _).setCell (p := ⟨w.heap.size + 1, 0, none⟩) (by simp) _).alloc (by simp; omega) _
  clear hcg hfg HB1 HK1 HO2 hxa HN
  generalize ((w1.alloc (.cells #[.slice (some ⟨w.heap.size + 1, 0, none⟩) ps.length ps.length] 61)).setCell ⟨w.heap.size + 1, 0, none⟩ (.int .i64 (-1))).alloc (.cells #[.int .i64 0] 3) = w2 at *
  obtain ⟨g, hg⟩ : ∃ g, g = w.heap.size + 1 := ⟨_, rfl⟩
  rw [← hg] at hF0 ⊢ hgl
  obtain ⟨og, hog⟩ : ∃ og, og = w1.heap.size + 1 := ⟨_, rfl⟩
  rw [← hog] at hF0 ⊢
  generalize hgf : w1.heap.size = gf at *
  obtain ⟨b1, hb1⟩ : ∃ b1, b1 = w.heap.size := ⟨_, rfl⟩
  have hF1 : Fq w2 w.heap.size g ps.length b1 gf x ps [[]] [[]] (.slice (some ⟨og, 0, none⟩) 1 1) := by rw [hb1]; exact hF0
  generalize hs : w.heap.size = s at *
  rw [← hb1]
  clear hF0 hg hog hgf hb1 hgl
  go_loopw [5, 6] (fun vo i wr => ∃ k : Nat, k ≤ (bq ps k).length ∧ i = .int .i64 k ∧ Fq wr s g ps.length b1 gf x ps (bq ps k) (bq ps k) vo ∧ Below s w wr) (fun _ i _ => ps.length - (intOf i).toNat)
  case atStart => exact ⟨0, Nat.zero_le _, rfl, hF1, hbl⟩
  case round =>
    obtain ⟨k, hk, rfl, hq, hbel⟩ := hrel
    have hql := bq_len HW.out k
    by_cases hlt : k < (bq ps k).length
    · have HI2 := Lib.hid (HIV.out k)
      have HSUCC := Lib.hid (bq_succ hlt)
      have HSH : Hid (∀ y ∈ ps, y.length < (bq ps k)[k].length + 1 → y ∈ bq ps k) := Lib.hid fun y hy hle => (HIV.out k).shallow HW.out hlt _ y rfl (by omega) hy
      have hpq := List.getElem_mem hlt
      have hpp := (HIV.out k).sub _ hpq
      generalize hQ : bq ps k = Q at *
      generalize hP : Q[k] = p at *
      have ⟨h1, h2, k1, k2⟩ := hq
      obtain ⟨a, co, evo, hi2, hnil⟩ := own_is h2
      have hz : k < (Q.map (place ps)).length := by simpa using hlt
      obtain ⟨bo, oo, rfl, hbo, hco⟩ := hi2 (by omega)
      have hck := hco k hz
      rw [List.getElem_map, hP] at hck
      subst evo
      have d1 := k1.cell
      have hkl : (k : Int) < ((Q.map (place ps)).length : Int) := by omega
      have htc := HX.out _ hbel
      have HKC : Hid (Calls Try.prog 45 #[.pointer (some ⟨tt, 0, none⟩), .int .i64 (place ps p)] wr (GivesText wr (rkids ps p))) := Lib.hid (by
        have := kids_any wr s0 tt ps _ (HT.out _ hbel) (place ps p) (wf_nat (place_ge _ _) (by have := place_lt ps p; omega))
        rwa [kids_eq hpp] at this)
      obtain ⟨i, hip, ei, ei2, _⟩ := place_mem hpp
      rw [ei] at hck HKC
      have HEI := Lib.hid ei
      have HEI2 := Lib.hid ei2
      have HPP := Lib.hid hpp
      have HPQ := Lib.hid hpq
      have HKL := Lib.hid (kidsT_len ps p)
      have HKT := Lib.hid (kidsT_take ps p)
      have HMK := Lib.hid (mem_rkids ps p)
      have HFQ := Lib.hid hq
      have HBE := Lib.hid hbel
      have HLT := Lib.hid hlt
      clear h1 h2 hi2 hco hbel k1 k2 ei ei2 hpp hpq hq hlt hQ hP
      generalize hks : rkids ps p = ks at *
      clear hks
      go_wp2_with (go_at_call 45; (with_reducible refine HKC.out.mono ?_); rintro e w3 ⟨ak, ck, rfl, htx, hkc, hkn, hb2⟩)
      have HTX := Lib.hid (show Txt w3 (g + 1) ak ks from htx.less (by have := (own_block_lt HFQ.out.1 (g := g) rfl).2.1; omega))
      have hq2 := HFQ.out.keep hb2
      have hbe2 := HBE.out.trans (hb2.mono (by have := HBE.out.size; omega))
      clear htx hb2 hck d1 htc hbo HKC HFQ HBE
      go_loopw [5, 38] (fun vo v wr => ∃ j : Nat, j ≤ ks.length ∧ v = .int .i64 (j : Int) ∧ Fq wr s g ps.length b1 gf x ps (Q ++ (kidsT ps p).take j) (Q ++ (kidsT ps p).take j) vo ∧ Below s w wr ∧ Txt wr (g + 1) ak ks) (fun _ v _ => ks.length - (intOf v).toNat)
      case atStart => exact ⟨0, Nat.zero_le _, rfl, by rw [List.take_zero, List.append_nil]; rw [List.length_map] at hq2; exact hq2, hbe2, HTX.out⟩
      case round =>
        obtain ⟨j, hj, rfl, hq, hbel, htx⟩ := hrel
        by_cases hjl : j < ks.length
        · obtain ⟨bk, ok, rfl, hbk, hcc⟩ := htx.bs (by omega)
          have hck := hcc j hjl
          have HTK := Lib.hid (HKT.out j hjl)
          have hqp : p ++ [ks[j]] ∈ ps := (HMK.out ks[j]).1 (List.getElem_mem hjl)
          obtain ⟨m, hm, em, em2, _⟩ := place_mem hqp
          have hpQ : ps[i] ∈ Q ++ (kidsT ps p).take j := List.mem_append_left _ (by rw [HEI2.out]; exact HPQ.out)
          have hfr : Fr wr g ps.length ps (Q ++ (kidsT ps p).take j) := own_fr hq.1 rfl
          obtain ⟨_, hgl, hfr2⟩ := hfr
          obtain ⟨i', e1, _, _, r0⟩ := hfr2 ps[i] (List.getElem_mem hip) hpQ
          rw [HEI2.out, HEI.out] at e1
          obtain rfl : i = i' := by omega
          rw [HEI2.out] at r0
          have d1 := hq.2.2.1.cell
          have d2 := hq.2.2.2.cell
          have htc := HX.out _ hbel
          have hfull : Q.length + ks.length ≤ ps.length := by have := bq_len HW.out (k + 1); rw [HSUCC.out, List.length_append, HKL.out] at this; exact this
          have HSTEP : Hid (Calls Try.prog 23 #[.pointer (some ⟨tt, 0, none⟩), .int .i64 (i : Int), .int .u8 (ks[j].toNat : Int)] wr fun e w' => e = .returned (.int .i64 (m : Int)) ∧ wr = w') := Lib.hid (by
            have := step_any wr s0 tt ps _ (HT.out _ hbel) (i : Int) (wf_nat (by omega) (by omega)) ks[j]
            rwa [← HEI.out, step_eq HPP.out, em, HEI.out] at this)
          have hqd : Fq wr.drew s g ps.length b1 gf x ps (Q ++ (kidsT ps p).take j) (Q ++ (kidsT ps p).take j) _ := hq.keep (below_drews (Below.refl wr.heap.size wr) 1)
          have hbd : Below s w wr.drew := below_drews hbel 1
          have hLAND : Calls Try.prog 44 #[.int .i64 (failOf ps p), .int .u8 (ks[j].toNat : Int), .pointer (some ⟨gf, 0, none⟩), .pointer (some ⟨b1, 0, none⟩)] wr.drew fun e w' => e = .returned (.int .i64 (failOf ps (p ++ [ks[j]]))) ∧ wr.drew = w' :=
            HLAND.out wr.drew hbd gf b1 g ps.length (Q ++ (kidsT ps p).take j) hqd.2.2.2.cell hqd.2.2.1.cell (own_fr hqd.1 rfl) hn p (fun y hy hyl => List.mem_append_left _ (HSH.out y hy (by omega))) ks[j]
          have HL2 := Lib.hid hLAND
          have hst := hqd.store HW.out hm
          rw [em2] at hst
          have hcm := hqd.1.cellAt m (by omega)
          rw [ivals_at _ _ (by rw [fls_len]; exact hm)] at hcm
          have HCM := Lib.hid hcm
          have hfm := hqd.1.frozenAt m
          have HFM := Lib.hid hfm
          have htx2 : Txt wr.drew (g + 1) (some ⟨bk, ok, none⟩) ks := htx.keep (below_drews (Below.refl wr.heap.size wr) 1)
          have hgt : Txt (wr.drew.setCell ⟨g, m, none⟩ (.int .i64 (failOf ps (p ++ [ks[j]])))) (g + 1) (some ⟨bk, ok, none⟩) ks := txt_grown htx2 (grown_set _ g m _) fun r cs fr e he => by
            obtain rfl := Option.some.inj e
            obtain ⟨_, _, cs', hh⟩ := own_block_lt hqd.1 (g := g) rfl
            rw [hh] at he
            simp at he
          have HSI : Hid ((wr.drew.setCell ⟨g, m, none⟩ (.int .i64 (failOf ps (p ++ [ks[j]])))).cell? ⟨g, i, none⟩ = some (.int .i64 (failOf ps p))) := Lib.hid (by
            rw [hst.1.1.cellAt i (by omega), ivals_at _ _ (by rw [fls_len]; exact hip), fls_at _ _ i hip, if_pos (List.mem_append_left _ hpQ), HEI2.out])
          have HST := Lib.hid hst
          have HBD := Lib.hid (hbd.setCell (p := ⟨g, m, none⟩) (show s ≤ g from hst.2) (.int .i64 (failOf ps (p ++ [ks[j]]))))
          have HGT := Lib.hid hgt
          have HSX : Hid (wr.drew.cell? ⟨gf, 0, none⟩ = some (.slice (some ⟨g, 0, none⟩) ps.length ps.length) ∧ wr.drew.cell? ⟨g, i, none⟩ = some (.int .i64 (failOf ps p))) := Lib.hid ⟨d2, r0⟩
          have HEM := Lib.hid em
          have hil : (i : Int) < (ps.length : Int) := by omega
          have hml : (m : Int) < (ps.length : Int) := by omega
          have hjk : (j : Int) < (ks.length : Int) := by omega
          have hs5 : s ≤ wr.heap.size := by have := hbel.size; omega
          clear hfr2 r0 hqd hbd hLAND hst hcm hfm htx2 hgt e1 hcc htx hbel hq em hqp em2 hpQ d2
          generalize failOf ps (p ++ [ks[j]]) = F at *
          generalize failOf ps p = F0 at *
          generalize hqq : p ++ [ks[j]] = q at *
          generalize ks[j] = c at *
          generalize hQj : Q ++ (kidsT ps p).take j = Qj at *
          have HQJ := Lib.hid hQj
          clear hQj hqq
          go_wp2_with (go_at_call 23; (with_reducible refine HSTEP.out.mono ?_); rintro e w1 ⟨rfl, rfl⟩)
          clear HSTEP hck d1 htc
          refine wp_region_held_drew (S := fun w' => w'.cell? ⟨gf, 0, none⟩ = some (.slice (some ⟨g, 0, none⟩) ps.length ps.length) ∧ w'.cell? ⟨g, i, none⟩ = some (.int .i64 F0)) (by kernel_rfl) HSX.out (fun hH0 => ?_)
          clear HSX
          generalize wr.drew = x0 at *
          refine held_take (i := 0) (d := 49) (oi := _) (v := ?_) rfl rfl (by kernel_rfl) (by kernel_rfl) (by kernel_rfl) (fun _ _ _ h => h) (Or.inl ⟨by rfl, ?_⟩) (by assumption) ?_
          rotate_left
          · (intro w hSw; obtain ⟨s1, s2⟩ := hSw; go_simp; (try with_reducible rfl))
          simp only [Act.put, List.setIfInBounds_toArray, List.set_cons_zero, List.set_cons_succ]
          refine held_take (i := 1) (d := 50) (oi := _) (v := ?_) rfl rfl (by kernel_rfl) (by kernel_rfl) (by kernel_rfl) (fun _ _ _ h => h) (Or.inl ⟨by rfl, ?_⟩) (by assumption) ?_
          rotate_left
          · (intro w hSw; obtain ⟨s1, s2⟩ := hSw; go_simp; (try with_reducible rfl))
          simp only [Act.put, List.setIfInBounds_toArray, List.set_cons_zero, List.set_cons_succ]
          refine held_take (i := 2) (d := 51) (oi := _) (v := ?_) rfl rfl (by kernel_rfl) (by kernel_rfl) (by kernel_rfl) (fun _ _ _ h => h) (Or.inl ⟨by rfl, ?_⟩) (by assumption) ?_
          rotate_left
          · (intro w hSw; obtain ⟨s1, s2⟩ := hSw; go_simp; (try with_reducible rfl))
          simp only [Act.put, List.setIfInBounds_toArray, List.set_cons_zero, List.set_cons_succ]
          refine held_take (i := 3) (d := 52) (oi := _) (v := ?_) rfl rfl (by kernel_rfl) (by kernel_rfl) (by kernel_rfl) (fun _ _ _ h => h) (Or.inl ⟨by rfl, ?_⟩) (by assumption) ?_
          rotate_left
          · (intro w hSw; obtain ⟨s1, s2⟩ := hSw; go_simp; (try with_reducible rfl))
          simp only [Act.put, List.setIfInBounds_toArray, List.set_cons_zero, List.set_cons_succ]
          refine held_take (i := 4) (d := 53) (oi := _) (v := ?_) rfl rfl (by kernel_rfl) (by kernel_rfl) (by kernel_rfl) (fun _ _ _ h => h) (Or.inl ⟨by rfl, ?_⟩) (by assumption) ?_
          rotate_left
          · (intro w hSw; obtain ⟨s1, s2⟩ := hSw; go_simp; (try with_reducible rfl))
          simp only [Act.put, List.setIfInBounds_toArray, List.set_cons_zero, List.set_cons_succ]
          refine held_take (i := 5) (d := 54) (oi := _) (v := ?_) rfl rfl (by kernel_rfl) (by kernel_rfl) (by kernel_rfl) (fun _ _ _ h => h) (Or.inl ⟨by rfl, ?_⟩) (by assumption) ?_
          rotate_left
          · (intro w hSw; obtain ⟨s1, s2⟩ := hSw; go_simp; (try with_reducible rfl))
          simp only [Act.put, List.setIfInBounds_toArray, List.set_cons_zero, List.set_cons_succ]
          refine held_take (i := 6) (d := 55) (oi := _) (v := ?_) rfl rfl (by kernel_rfl) (by kernel_rfl) (by kernel_rfl) (fun _ _ _ h => h) (Or.inl ⟨by rfl, ?_⟩) (by assumption) ?_
          rotate_left
          · (intro w hSw; obtain ⟨s1, s2⟩ := hSw; go_simp; (try with_reducible rfl))
          simp only [Act.put, List.setIfInBounds_toArray, List.set_cons_zero, List.set_cons_succ]
          refine held_take (i := 7) (d := 56) (oi := _) (v := ?_) rfl rfl (by kernel_rfl) (by kernel_rfl) (by kernel_rfl) (fun _ _ _ h => h) (Or.inl ⟨by rfl, ?_⟩) (by assumption) ?_
          rotate_left
          · (intro w hSw; obtain ⟨s1, s2⟩ := hSw; go_simp; (try with_reducible rfl))
          simp only [Act.put, List.setIfInBounds_toArray, List.set_cons_zero, List.set_cons_succ]
          refine wpAnyH_ready (rs := [8]) (by kernel_rfl) (by simp) ?_
          refine AllReadyH.cons rfl (fun K hK => ?_) AllReadyH.nil
          go_simp
          go_wp2_with (go_at_call 44; (with_reducible refine HL2.out.mono ?_); rintro e x' ⟨rfl, rfl⟩)
          refine hK.out _ _ hH0 (fun _ => ?_)
          clear hK K HL2
          refine held_take (i := 9) (d := 58) (oi := _) (v := ?_) rfl rfl (by kernel_rfl) (by kernel_rfl) (by kernel_rfl) (fun _ _ _ h => h) (Or.inl ⟨by rfl, ?_⟩) (by assumption) ?_
          rotate_left
          · (intro w hSw; obtain ⟨s1, s2⟩ := hSw; go_simp; (try with_reducible rfl))
          simp only [Act.put, List.setIfInBounds_toArray, List.set_cons_zero, List.set_cons_succ]
          obtain ⟨⟨t1, t2, t3, t4⟩, hsg⟩ := HST.out
          have hcm := HCM.out
          have hfm := HFM.out
          refine wpAnyH_ready (rs := [10]) (by kernel_rfl) (by simp) ?_
          refine AllReadyH.cons rfl (fun K hK => ?_) AllReadyH.nil
          go_simp
          refine hK.out _ _ ⟨t4.cell, HSI.out⟩ (fun _ => ?_)
          clear hK K hH0
          refine wpAnyH_done (by kernel_rfl) ?_ _
          have HF5 := Lib.hid (show Fq (x0.setCell ⟨g, m, none⟩ (.int .i64 F)) s g ps.length b1 gf x ps (Qj ++ [q]) Qj u5 from ⟨t1, t2, t3, t4⟩)
          clear hcm hfm HCM HFM HSI HST t1 t2 t3 t4
          have hz5 : s ≤ (x0.setCell ⟨g, m, none⟩ (.int .i64 F)).heap.size := by have := HBD.out.size; omega
          generalize x0.setCell ⟨g, m, none⟩ (.int .i64 F) = w5 at *
          have hF5 := HF5.out
          obtain ⟨ao, co2, rfl, _, _⟩ := own_is hF5.2.1
          have hln : (Qj.map (place ps)).length = Qj.length := by simp
          rw [hln] at HF5 hF5 ⊢
          have hql2 : Qj.length ≤ 1000000 := by
            have h1 : (Q ++ kidsT ps p).length ≤ ps.length := by rw [← HSUCC.out]; exact bq_len HW.out _
            rw [← HQJ.out, List.length_append, List.length_take, HKL.out]
            rw [List.length_append, HKL.out] at h1
            omega
          have HO5 := Lib.hid hF5.2.1
          clear hF5
          go_wp2_with (at_builtin; refine app_is rfl _ _ rfl (g + 1) _ _ (Qj.map (place ps)) (m : Int) rfl (HO5.out.alloc _) ⟨w5.heap.size, 0, none⟩ rfl (cell_new1 _ _ _) (by omega) (by have := (own_block_lt HF5.out.1 (g := g) rfl).2.1; simp; omega) ?_; intro v2 w6 hown2 hg2)
          have hF6 := ((HF5.out.keep ((Below.refl _ w5).alloc (Nat.le_refl _) (.cells #[.int .i64 (m : Int)] 3))).more (q := q) hg2 (by rw [HEM.out]; exact hown2))
          have hT6 : Txt w6 (g + 1) (some ⟨bk, ok, none⟩) ks := txt_grown (HGT.out.keep ((Below.refl _ w5).alloc (Nat.le_refl _) (.cells #[.int .i64 (m : Int)] 3))) hg2 fun r cs fr e he => by
            obtain ⟨_, _, cs', hh⟩ := own_block_lt (HO5.out.alloc (.cells #[.int .i64 (m : Int)] 3)) e
            rw [hh] at he
            simp at he
          have hB6 : Below s w w6 := (HBD.out.alloc hz5 (.cells #[.int .i64 (m : Int)] 3)).grown hg2 (by simp; omega) (fun k hk => by have := own_ge HO5.out hk; omega)
          rw [← HQJ.out, List.append_assoc, ← HTK.out] at hF6
          exact ⟨⟨j + 1, by omega, by go_num, hF6, hB6, hT6⟩, by simp [intOf]; omega⟩
        · obtain rfl : j = ks.length := by omega
          have HQE : Hid (Q ++ (kidsT ps p).take ks.length = bq ps (k + 1)) := Lib.hid (by rw [HSUCC.out, List.take_of_length_le (by rw [HKL.out]; exact Nat.le_refl _)])
          rw [HQE.out] at hq
          have HLQ5 := Lib.hid hq
          have HB5 := Lib.hid hbel
          have hkq : k + 1 ≤ (bq ps (k + 1)).length := by rw [HSUCC.out, List.length_append]; have := HLT.out; omega
          have HLT2 := HLT.out
          clear hq hbel htx
          go_wp2
          exact ⟨⟨k + 1, hkq, by go_num, HLQ5.out, HB5.out⟩, by simp [intOf]; omega⟩
    · have hke : bq ps k = ord ps := ord_of_end (by omega) (by omega)
      rw [hke] at hq
      obtain ⟨h1, h3, _, k2⟩ := hq
      obtain ⟨a, co, rfl, _, _⟩ := own_is h3
      have hln : ((ord ps).map (place ps)).length = (ord ps).length := by simp
      rw [hln]
      rw [hke] at hlt
      have d2 := k2.cell
      have HR : Hid (wr.ownsRow s 3 1 (.slice (some ⟨g, 0, none⟩) ps.length ps.length) ps.length (ivals (ps.map (failOf ps)))) := Lib.hid (by
        rw [← fls_all (ord_all HW.out)]; exact h1)
      have HBE := Lib.hid hbel
      have hle : ¬ (k : Int) < ((ord ps).length : Int) := by omega
      clear h1 h3 hln hbel k2 hke hk hql hlt
      go_wp2
      go_ret
      exact ⟨g, rfl, HR.out, HBE.out⟩
end Go.Proofs.Ytgdpelpepgpegaa.Shf
