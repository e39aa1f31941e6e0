/- Scan. -/
import Derived.Test.YtnbfdjpmppflmaaDg
namespace Go.Proofs.Ytnbfdjpmppflmaa.Dfa
open Go.RowKit Go.Maps Go.Proofs.Ytnbfdjpmppflmaa.Tri Go.Proofs.Ytnbfdjpmppflmaa.Lnk Go.Proofs.Ytnbfdjpmppflmaa.Reg Go.Proofs.Ytnbfdjpmppflmaa.Prs
set_option maxRecDepth 100000
/-- A handle on a table keeps. -/
theorem td_far {w w' : World} {r : Option Nat} {t : Nat} {p : Option Addr} {cl nx : List Int} {wd : Int} (h : Met.Td w t p cl wd nx) (hg : w.grownBy w' r) (hr : ∀ g, r = some g → ∃ cs fr, w.heap[g]? = some (.cells cs 65 fr)) : Met.Td w' t p cl wd nx := by
  obtain ⟨g1, g2, g3, a, cap, h1, h2, h3, h4, h5⟩ := h
  refine ⟨g1, g2, g3, a, cap, h1.same (hg.block t h1.lt (Spa.ne52 hr h1 (by decide))), (hg.block g1 (txt_lt h2) (Spa.ne52 hr h2 (by decide))).trans h2, (hg.block g2 (txt_lt h3) (Spa.ne52 hr h3 (by decide))).trans h3, (hg.block g3 (txt_lt h4) (Spa.ne52 hr h4 (by decide))).trans h4, fun h0 => ?_⟩
  obtain ⟨b, cs, e, hh, hc⟩ := h5 h0
  exact ⟨b, cs, e, (hg.block b (txt_lt hh) (Spa.ne52 hr hh (by decide))).trans hh, hc⟩
/-- Two handles of one meter, and what it has counted. -/
def Sn (w : World) (p : Option Addr) (cl : List Int) (wd : Int) (nx : List Int) (line : Tx) (s1 tx tb : Nat) (a b e d : Int) (wr : World) : Prop :=
  Met.Tx wr s1 tx p line ∧ Met.Td wr tb p cl wd nx ∧ Met.Mt wr p a b e d ∧ w.grownBy wr (Met.blk p)
theorem Sn.keep {w wr w' : World} {p : Option Addr} {cl nx : List Int} {wd : Int} {line : Tx} {s1 tx tb : Nat} {a b e d : Int} (h : Sn w p cl wd nx line s1 tx tb a b e d wr) (hb : Below wr.heap.size wr w') : Sn w p cl wd nx line s1 tx tb a b e d w' :=
  ⟨h.1.keep hb, h.2.1.keep hb, h.2.2.1.keep hb, h.2.2.2.trans ((grown_of_below hb).but _)⟩
theorem Sn.adds {w wr w' : World} {p : Option Addr} {cl nx : List Int} {wd : Int} {line : Tx} {s1 tx tb : Nat} {a b e d a' b' e' d' : Int} (h : Sn w p cl wd nx line s1 tx tb a b e d wr) (hg : wr.grownBy w' (Met.blk p)) (hM : Met.Mt w' p a' b' e' d') : Sn w p cl wd nx line s1 tx tb a' b' e' d' w' :=
  ⟨h.1.adds hg h.2.2.1, h.2.1.adds hg h.2.2.1, hM, h.2.2.2.trans hg⟩
theorem Sn.far {w wr w' : World} {p : Option Addr} {cl nx : List Int} {wd : Int} {line : Tx} {s1 tx tb : Nat} {a b e d : Int} {v : Value} {n : Nat} {xs : List Value} (h : Sn w p cl wd nx line s1 tx tb a b e d wr) (ho : wr.ownsRow w.heap.size 65 2 v n xs) (hg : wr.grownBy w' v.ownBlock) : Sn w p cl wd nx line s1 tx tb a b e d w' := by
  have hr : ∀ g, v.ownBlock = some g → ∃ cs fr, wr.heap[g]? = some (.cells cs 65 fr) := fun g hg => by
    obtain ⟨_, _, cs, hh⟩ := own_block_lt ho hg
    exact ⟨cs, _, hh⟩
  exact ⟨Spa.tx_far h.1 hg hr, td_far h.2.1 hg hr, Spa.mt_far h.2.2.1 hg hr, h.2.2.2.andThen hg fun j hj => .inl (own_ge ho hj)⟩
set_option maxHeartbeats 8000000 in
theorem dscan_any (w : World) (s t : Nat) (l : List Tx) (hD : Dt w s t l) (p : Option Addr) (line : Tx) (al : Option Addr) (cl : Nat) (hb : Bs w w.heap.size al line) (hl : line.length ≤ 1000) (a b e d : Int) (hM : Met.Mt w p a b e d)
    (ha : 0 ≤ a ∧ a ≤ 1000000000) (hb' : 0 ≤ b ∧ b ≤ 1000000000) (hc : 0 ≤ e ∧ e ≤ 1000000000000) (hd : 0 ≤ d ∧ d ≤ 1000000000000) :
    Calls Try.prog 15 #[.pointer (some ⟨t, 0, none⟩), .pointer p, .slice al line.length cl] w (Spa.Scans w p (Spa.scanOf l line) (a + (line.length : Int)) (b + (line.length : Int)) e d) := by
  have HS := Lib.hid (dstates_at w s t l hD)
  have HD := Lib.hid hD
  have HM := Lib.hid hM
  have HW := Lib.hid (paths_wf l)
  have hpos := HW.out.pos
  have hz : (((paths l).length : Int) == 0) = false := by rw [beq_eq_false_iff_ne]; omega
  obtain ⟨st, tt, sx, x, g, h1, h2, h3, h4, h0, h5, h6⟩ := hD
  have HLP : Hid (∀ y ∈ l, y ∈ paths l) := Lib.hid h1.2.2.1
  have HDEEP := Lib.hid h0
  obtain ⟨c0, c1, c2, c3⟩ := h5.cells
  have HB5 := Lib.hid h5
  have HG6 := Lib.hid h6
  have hwl := Cls.cnt_le (Cls.stands l)
  have HNX : Hid (∀ i (hi : i < (paths l).length) (c : UInt8), Met.dk (Cls.cls (Cls.stands l) c : Int) ((Cls.cnt (Cls.stands l) + 1 : Nat) : Int) (whole l (paths l).length (Cls.cnt (Cls.stands l) + 1)) (i : Int) = place (paths l) (Spa.stepT (paths l) c (paths l)[i])) := Lib.hid fun i hi c => by
    obtain ⟨q1, q2⟩ := List.getElem?_eq_some_iff.1 (whole_at l hi c)
    have hk := Cls.cls_le (Cls.stands l) c
    rw [Met.dk_in _ _ _ _ (by omega) (by omega) (by omega) _ q1 (by rw [Int.natCast_add (i * (Cls.cnt (Cls.stands l) + 1)), Int.natCast_mul]), q2, next_at hi]
  have hnl : (whole l (paths l).length (Cls.cnt (Cls.stands l) + 1)).length = (paths l).length * (Cls.cnt (Cls.stands l) + 1) := tabF_len _ _ _
  have hww := Nat.mul_le_mul h4 (show Cls.cnt (Cls.stands l) + 1 ≤ 257 by omega)
  rw [← hnl] at c3 hww
  have HNL : Hid ((whole l (paths l).length (Cls.cnt (Cls.stands l) + 1)).length ≤ 1000000) := Lib.hid (by omega)
  have HIS : Hid (Met.Is w w.heap.size (some ⟨g, 0, none⟩) (whole l (paths l).length (Cls.cnt (Cls.stands l) + 1))) := Lib.hid fun _ => ⟨g, 0, rfl, txt_lt h6, fun i hi => by rw [Nat.zero_add, cell_of_row w g _ _ _ _ h6, Cls.icells_at _ _ hi]⟩
  generalize whole l (paths l).length (Cls.cnt (Cls.stands l) + 1) = nx at *
  generalize hwd : Cls.cnt (Cls.stands l) + 1 = wd at *
  have HTX : Hid (∀ X, Below w.heap.size w X → Calls Try.prog 38 #[.pointer p, .slice al line.length cl] X (Met.GivesTx X p line)) := Lib.hid fun X hX => Met.text_any X p line al cl (by omega) ((hb.keep hX).more hX.size)
  have HTD : Hid (∀ X, Below w.heap.size w X → Calls Try.prog 39 #[.pointer p, .agg (Cls.cc (Cls.stands l)), .int .i64 (wd : Int), .slice (some ⟨g, 0, none⟩) nx.length nx.length] X (Met.GivesTd X p (Cls.tab (Cls.stands l)) (wd : Int) nx)) := Lib.hid fun X hX => Met.dense_any X p (Cls.tab (Cls.stands l)) (wd : Int) nx _ _ HNL.out (fun h0 => by obtain ⟨b, off, e, hlt, hc⟩ := HIS.out.keep hX h0; exact ⟨b, off, e, Nat.lt_of_lt_of_le hlt hX.size, hc⟩)
  have HR : Hid (∀ X, Below w.heap.size w X → (loadVar 58 ⟨t, 2, none⟩).run Try.prog X = .ok (.agg (Cls.cc (Cls.stands l))) X) := Lib.hid fun X hX => (HB5.out.keep hX).load (Cls.cc_size _)
  have HLDW : Hid (∀ X, Below w.heap.size w X → X.cell? ⟨t, 258, none⟩ = some (.int .i64 (wd : Int))) := Lib.hid fun X hX => (HB5.out.keep hX).cells.2.2.1
  have HLDN : Hid (∀ X, Below w.heap.size w X → X.cell? ⟨t, 259, none⟩ = some (.slice (some ⟨g, 0, none⟩) nx.length nx.length)) := Lib.hid fun X hX => by rw [hnl]; exact (HB5.out.keep hX).cells.2.2.2
  have HBW : Hid (Below w.heap.size w w) := Lib.hid (Below.refl _ _)
  clear h1 h2 h3 h4 h0 h5 h6 c0 c1 c2 c3 hM hnl hww
  go_enter Try.func15, Try.ntmps15
  go_wp2_with (go_at_call 19; (with_reducible refine HS.out.mono ?_); rintro e w2 ⟨rfl, rfl⟩)
  refine wp_region_held_drew (S := fun w' => Below w.drew.heap.size w.drew w') (by kernel_rfl) (Below.refl _ _) (fun hH0 => ?_)
  have B0 := Lib.hid (below_drews HBW.out 1)
  change Hid (Below _ _ w.drew) at B0
  generalize w.drew = x0 at *
  refine held_take (i := 0) (d := 17) (oi := _) (v := ?_) rfl rfl (by kernel_rfl) (by kernel_rfl) (by kernel_rfl) (fun _ _ _ h => h) (Or.inl ⟨by rfl, ?_⟩) (by assumption) ?_
  rotate_left
  · (intro w hSw; clear hSw; go_simp; (try with_reducible rfl))
  simp only [Act.put, List.setIfInBounds_toArray, List.set_cons_zero, List.set_cons_succ]
  refine held_take (i := 1) (d := 18) (oi := _) (v := ?_) rfl rfl (by kernel_rfl) (by kernel_rfl) (by kernel_rfl) (fun _ _ _ h => h) (Or.inl ⟨by rfl, ?_⟩) (by assumption) ?_
  rotate_left
  · (intro w hSw; clear hSw; go_simp; (try with_reducible rfl))
  simp only [Act.put, List.setIfInBounds_toArray, List.set_cons_zero, List.set_cons_succ]
  refine held_take (i := 3) (d := 20) (oi := _) (v := ?_) rfl rfl (by kernel_rfl) (by kernel_rfl) (by kernel_rfl) (fun _ _ _ h => h) (Or.inl ⟨by rfl, ?_⟩) (by assumption) ?_
  rotate_left
  · (intro w hSw; clear hSw; go_simp; (try with_reducible rfl))
  simp only [Act.put, List.setIfInBounds_toArray, List.set_cons_zero, List.set_cons_succ]
  refine held_take (i := 4) (d := 21) (oi := _) (v := ?_) rfl rfl (by kernel_rfl) (by kernel_rfl) (by kernel_rfl) (fun _ _ _ h => h) (Or.inl ⟨by rfl, ?_⟩) (by assumption) ?_
  rotate_left
  · (intro w hSw; clear hSw; go_simp; (try with_reducible rfl))
  simp only [Act.put, List.setIfInBounds_toArray, List.set_cons_zero, List.set_cons_succ]
  refine held_take (i := 5) (d := 22) (oi := _) (v := ?_) rfl rfl (by kernel_rfl) (by kernel_rfl) (by kernel_rfl) (fun _ _ _ h => h) (Or.inl ⟨by rfl, ?_⟩) (by assumption) ?_
  rotate_left
  · (intro w hSw; clear hSw; go_simp; (try with_reducible rfl))
  simp only [Act.put, List.setIfInBounds_toArray, List.set_cons_zero, List.set_cons_succ]
  refine held_take (i := 6) (d := 23) (oi := _) (v := ?_) rfl rfl (by kernel_rfl) (by kernel_rfl) (by kernel_rfl) (fun _ _ _ h => h) (Or.inl ⟨by rfl, ?_⟩) (by assumption) ?_
  rotate_left
  · (intro w hSw; clear hSw; go_simp; (try with_reducible rfl))
  simp only [Act.put, List.setIfInBounds_toArray, List.set_cons_zero, List.set_cons_succ]
  refine held_take (i := 7) (d := 24) (oi := _) (v := _) rfl rfl (by kernel_rfl) (by kernel_rfl) (by kernel_rfl) (fun _ _ _ h => h) (Or.inl ⟨by rfl, fun w hSw => Cls.exec_load rfl rfl (HR.out w (B0.out.trans (hSw.mono B0.out.size)))⟩) (by assumption) ?_
  simp only [Act.put, List.setIfInBounds_toArray, List.set_cons_zero, List.set_cons_succ]
  refine held_take (i := 8) (d := 25) (oi := _) (v := ?_) rfl rfl (by kernel_rfl) (by kernel_rfl) (by kernel_rfl) (fun _ _ _ h => h) (Or.inl ⟨by rfl, ?_⟩) (by assumption) ?_
  rotate_left
  · (intro w hSw; clear hSw; go_simp; (try with_reducible rfl))
  simp only [Act.put, List.setIfInBounds_toArray, List.set_cons_zero, List.set_cons_succ]
  refine held_take (i := 9) (d := 26) (oi := _) (v := ?_) rfl rfl (by kernel_rfl) (by kernel_rfl) (by kernel_rfl) (fun _ _ _ h => h) (Or.inl ⟨by rfl, ?_⟩) (by assumption) ?_
  rotate_left
  · (intro w hSw; clear hSw; go_simp; (try with_reducible rfl))
  simp only [Act.put, List.setIfInBounds_toArray, List.set_cons_zero, List.set_cons_succ]
  refine held_take (i := 10) (d := 27) (oi := _) (v := ?_) rfl rfl (by kernel_rfl) (by kernel_rfl) (by kernel_rfl) (fun _ _ _ h => h) (Or.inl ⟨by rfl, ?_⟩) (by assumption) ?_
  rotate_left
  · (intro w hSw; clear hSw; go_simp; (try with_reducible rfl))
  simp only [Act.put, List.setIfInBounds_toArray, List.set_cons_zero, List.set_cons_succ]
  refine held_take (i := 11) (d := 28) (oi := _) (v := ?_) rfl rfl (by kernel_rfl) (by kernel_rfl) (by kernel_rfl) (fun _ _ _ h => h) (Or.inl ⟨by rfl, ?_⟩) (by assumption) ?_
  rotate_left
  · (intro w hSw; have hld := HLDW.out w (B0.out.trans (hSw.mono B0.out.size)); clear hSw; go_simp; (try with_reducible rfl))
  simp only [Act.put, List.setIfInBounds_toArray, List.set_cons_zero, List.set_cons_succ]
  refine held_take (i := 12) (d := 29) (oi := _) (v := ?_) rfl rfl (by kernel_rfl) (by kernel_rfl) (by kernel_rfl) (fun _ _ _ h => h) (Or.inl ⟨by rfl, ?_⟩) (by assumption) ?_
  rotate_left
  · (intro w hSw; clear hSw; go_simp; (try with_reducible rfl))
  simp only [Act.put, List.setIfInBounds_toArray, List.set_cons_zero, List.set_cons_succ]
  refine held_take (i := 13) (d := 30) (oi := _) (v := ?_) rfl rfl (by kernel_rfl) (by kernel_rfl) (by kernel_rfl) (fun _ _ _ h => h) (Or.inl ⟨by rfl, ?_⟩) (by assumption) ?_
  rotate_left
  · (intro w hSw; clear hSw; go_simp; (try with_reducible rfl))
  simp only [Act.put, List.setIfInBounds_toArray, List.set_cons_zero, List.set_cons_succ]
  refine held_take (i := 14) (d := 31) (oi := _) (v := ?_) rfl rfl (by kernel_rfl) (by kernel_rfl) (by kernel_rfl) (fun _ _ _ h => h) (Or.inl ⟨by rfl, ?_⟩) (by assumption) ?_
  rotate_left
  · (intro w hSw; clear hSw; go_simp; (try with_reducible rfl))
  simp only [Act.put, List.setIfInBounds_toArray, List.set_cons_zero, List.set_cons_succ]
  refine held_take (i := 15) (d := 32) (oi := _) (v := ?_) rfl rfl (by kernel_rfl) (by kernel_rfl) (by kernel_rfl) (fun _ _ _ h => h) (Or.inl ⟨by rfl, ?_⟩) (by assumption) ?_
  rotate_left
  · (intro w hSw; have hld := HLDN.out w (B0.out.trans (hSw.mono B0.out.size)); clear hSw; go_simp; (try with_reducible rfl))
  simp only [Act.put, List.setIfInBounds_toArray, List.set_cons_zero, List.set_cons_succ]
  refine wpAnyH_ready (rs := [2]) (by kernel_rfl) (by simp) ?_
  refine AllReadyH.cons rfl (fun K hK => ?_) AllReadyH.nil
  go_simp
  go_wp2_with (go_at_call 38; (with_reducible refine (HTX.out _ B0.out).mono ?_); rintro e x1 ⟨tx, rfl, htx, hb⟩)
  refine hK.out _ _ hb (fun _ => ?_)
  have B1 := Lib.hid (B0.out.trans (hb.mono B0.out.size))
  refine wpAnyH_more (S' := fun w' => Below x1.heap.size x1 w') (fun w' h => hb.trans (h.mono hb.size)) _ _ _ _ ?_
  have hH1 : Below x1.heap.size x1 x1 := Below.refl _ _
  clear hK K hH0 hb B0
  have X1 := Lib.hid htx
  clear htx
  refine wpAnyH_ready (rs := [16]) (by kernel_rfl) (by simp) ?_
  refine AllReadyH.cons rfl (fun K hK => ?_) AllReadyH.nil
  go_simp
  go_wp2_with (go_at_call 39; (with_reducible refine (HTD.out _ B1.out).mono ?_); rintro e x2 ⟨tb, rfl, htd, hb⟩)
  have X3 := Lib.hid (X1.out.keep hb)
  refine hK.out _ _ hb (fun _ => ?_)
  have B2 := Lib.hid (B1.out.trans (hb.mono B1.out.size))
  refine wpAnyH_more (S' := fun w' => Below x2.heap.size x2 w') (fun w' h => hb.trans (h.mono hb.size)) _ _ _ _ ?_
  have hH2 : Below x2.heap.size x2 x2 := Below.refl _ _
  clear hK K hH1 hb B1
  have X2 := Lib.hid htd
  clear htd
  refine held_take (i := 17) (d := 7) (oi := _) (v := ?_) rfl rfl (by kernel_rfl) (by kernel_rfl) (by kernel_rfl) (fun _ _ _ h => h) (Or.inl ⟨by rfl, ?_⟩) (by assumption) ?_
  rotate_left
  · (intro w hSw; clear hSw; go_simp; (try with_reducible rfl))
  simp only [Act.put, List.setIfInBounds_toArray, List.set_cons_zero, List.set_cons_succ]
  refine held_take (i := 18) (d := 8) (oi := _) (v := ?_) rfl rfl (by kernel_rfl) (by kernel_rfl) (by kernel_rfl) (fun _ _ _ h => h) (Or.inl ⟨by rfl, ?_⟩) (by assumption) ?_
  rotate_left
  · (intro w hSw; clear hSw; go_simp; (try with_reducible rfl))
  simp only [Act.put, List.setIfInBounds_toArray, List.set_cons_zero, List.set_cons_succ]
  refine wpAnyH_done (by kernel_rfl) ?_ _
  have HS0 : Hid (Sn w p (Cls.tab (Cls.stands l)) (wd : Int) nx line x0.heap.size tx tb a b e d x2) := Lib.hid ⟨X3.out, X2.out, HM.out.keep B2.out, (grown_of_below B2.out).but _⟩
  have hsz0 := B2.out.size
  clear X1 X2 X3 HTX HTD HLDW HLDN HR HBW HS hH2
  generalize x0.heap.size = s1 at *
  have HLEN := Lib.hid (Met.len_some x2 s1 tx p line HS0.out.1)
  go_wp2_with (go_at_call 40; (with_reducible refine HLEN.out.mono ?_); rintro e w2 ⟨rfl, rfl⟩)
  go_loopw [9, 10, 36] (fun v st i wr => ∃ k : Nat, k ≤ line.length ∧ i = .int .i64 (k : Int) ∧ st = .int .i64 (place (paths l) (Spa.longT (paths l) (line.take k))) ∧ wr.ownsRow w.heap.size 65 2 v (Spa.hitsTo l line k).length (cellsOf (Spa.hitsTo l line k)) ∧ Sn w p (Cls.tab (Cls.stands l)) (wd : Int) nx line s1 tx tb (a + (k : Int)) (b + (k : Int)) e d wr) (fun _ _ i _ => line.length - (intOf i).toNat)
  case atStart => exact ⟨0, by omega, rfl, by rw [List.take_zero, Spa.longT, place_nil HW.out], World.ownsRow_nil _ _ _ _, by simpa using HS0.out⟩
  case round =>
    obtain ⟨k, hk, rfl, rfl, hown, hsc⟩ := hrel
    have HO := Lib.hid hown
    have HSC := Lib.hid hsc
    clear hown hsc
    have hhl := Spa.hits_len l line 1000 hl k
    by_cases hlt : k < line.length
    · have hlt2 : (k : Int) < (line.length : Int) := by omega
      have HST := Lib.hid (Spa.long_take HW.out line k hlt)
      have HQM := Lib.hid (Spa.longT_mem HW.out (line.take k))
      have hwr : IntKind.u8.wrap (line[k].toNat : Int) = (line[k].toNat : Int) := by
        have := line[k].toNat_lt
        simp [IntKind.wrap, IntKind.bits, IntKind.signed]; omega
      have hbk0 : 0 ≤ b + (k : Int) ∧ b + (k : Int) ≤ 1000000000000 := by omega
      have HAT := Lib.hid (Met.at_in wr s1 tx p line HSC.out.1 k hlt (by omega) (a + (k : Int)) (b + (k : Int)) e d HSC.out.2.2.1 (by omega) hbk0 hc hd)
      generalize line[k] = c at *
      generalize hqq : Spa.longT (paths l) (line.take k) = q at *
      have HDK : Hid (Met.dk (Cls.cls (Cls.stands l) c : Int) (wd : Int) nx (place (paths l) q) = place (paths l) (Spa.stepT (paths l) c q)) := Lib.hid (by
        obtain ⟨i, hi, ei, ei2, _⟩ := place_mem HQM.out
        have h := HNX.out i hi c
        rw [ei2] at h
        rw [ei]; exact h)
      have HCK : Hid ((Cls.tab (Cls.stands l))[c.toNat]? = some (Cls.cls (Cls.stands l) c : Int)) := Lib.hid (by
        have h : c.toNat < (Cls.tab (Cls.stands l)).length := by rw [Cls.tab_length]; exact c.toNat_lt
        rw [List.getElem?_eq_getElem h, Cls.tab_at, Cls.ofNat_toNat])
      go_wp2_with (go_at_call 42; (with_reducible refine HAT.out.mono ?_); rintro e w3 ⟨rfl, hM3, hg3⟩; have HG3 := Lib.hid hg3; have HS3 := Lib.hid (HSC.out.adds hg3 hM3); clear hM3 hg3; have HLOOK := Lib.hid (Met.lookd_some w3 tb p (Cls.tab (Cls.stands l)) (wd : Int) nx HNL.out HS3.out.2.1 (place (paths l) q) c _ HCK.out (a + (k : Int) + 1) (b + (k : Int)) e d HS3.out.2.2.1 (by omega) hbk0 hc hd))
      rw [HDK.out] at HLOOK
      go_wp2_with (go_at_call 41; (with_reducible refine HLOOK.out.mono ?_); rintro e w4 ⟨rfl, hM4, hg4⟩; have HG4 := Lib.hid hg4; have HS4 := Lib.hid (HS3.out.adds hg4 hM4); have hA4 := HD.out.adds HS4.out.2.2.2 HM.out; clear hM4 hg4; obtain ⟨st4, tt4, sx4, x4, g4, _, hL4, _, _, hdeep4, hB4, _⟩ := hA4; obtain ⟨c0, c1, c2, c3⟩ := hB4.cells; have HE4 := Lib.hid (Spa.ends_own w4 sx4 x4 (paths l) l hL4 (place (paths l) (Spa.stepT (paths l) c q)) (Spa.pathD_le hdeep4 _)); clear hB4 hL4 hdeep4 c0 c2 c3)
      have HES : Hid (endsOf l (pathD (paths l) (place (paths l) (Spa.stepT (paths l) c q))) = endsOf l (line.take (k + 1))) := Lib.hid (by rw [Spa.pathD_place (Spa.stepT_mem HW.out c q), ← HST.out, Spa.ends_long HLP.out])
      rw [HES.out] at HE4
      have ht1 : (line.take (k + 1)).length = k + 1 := by rw [List.length_take]; omega
      have HRS : Hid (∀ j (h : j < (endsOf l (line.take (k + 1))).length), (Spa.rowOf l (line.take (k + 1))).take (j + 1) = (Spa.rowOf l (line.take (k + 1))).take j ++ [⟨(k : Int) + 1 - (endsOf l (line.take (k + 1)))[j], (k : Int) + 1⟩]) := Lib.hid fun j h => by
        rw [Spa.row_snoc l _ j h, ht1]; rfl
      have HBD : Hid (∀ j (h : j < (endsOf l (line.take (k + 1))).length), 1 ≤ (endsOf l (line.take (k + 1)))[j] ∧ (endsOf l (line.take (k + 1)))[j] ≤ (k : Int) + 1) := Lib.hid fun j h => by
        have := Spa.ends_bound l (line.take (k + 1)) j h
        rw [ht1] at this; exact this
      have HRA := Lib.hid (Spa.row_all l (line.take (k + 1)))
      have hrl := Spa.row_len l (line.take (k + 1))
      have hel := ends_len l (line.take (k + 1))
      rw [ht1] at hrl hel
      have HHK : Hid (Spa.hitsTo l line (k + 1) = Spa.hitsTo l line k ++ Spa.rowOf l (line.take (k + 1))) := Lib.hid rfl
      clear HES ht1
      generalize endsOf l (line.take (k + 1)) = es at *
      generalize Spa.rowOf l (line.take (k + 1)) = R at *
      go_wp2_with (go_at_call 43; (with_reducible refine HE4.out.mono ?_); rintro e w5 ⟨v5, rfl, ho5, hb5⟩; obtain ⟨a5, c5, rfl⟩ := Spa.own_is' ho5; have HI5 := Lib.hid ho5; have HB5' := Lib.hid hb5; clear ho5 hb5)
      have HS5 := Lib.hid (HS4.out.keep HB5'.out)
      have HO5 := Lib.hid (own_keep (Spa.own_adds (Spa.own_adds HO.out HG3.out HSC.out.2.2.1 (by decide)) HG4.out HS3.out.2.2.1 (by decide)) HB5'.out)
      clear HG3 HG4 HS4 HS3 HE4 HLOOK HAT HB5' c1
      go_loopw [9, 53] (fun v i wi => ∃ j : Nat, j ≤ es.length ∧ i = .int .i64 (j : Int) ∧ wi.ownsRow w.heap.size 65 2 v (Spa.hitsTo l line k ++ R.take j).length (cellsOf (Spa.hitsTo l line k ++ R.take j)) ∧ wi.ownsRow w4.heap.size 3 1 (.slice a5 es.length c5) es.length (ivals es) ∧ Sn w p (Cls.tab (Cls.stands l)) (wd : Int) nx line s1 tx tb (a + (k : Int) + 1) (b + (k : Int) + 1) e d wi) (fun _ i _ => es.length - (intOf i).toNat)
      case atStart => exact ⟨0, by omega, rfl, by simpa using HO5.out, HI5.out, HS5.out⟩
      case round =>
        obtain ⟨j, hj, rfl, ho, hi, hs⟩ := hrel
        have HO6 := Lib.hid ho
        have HI6 := Lib.hid hi
        have HS6 := Lib.hid hs
        clear ho hi hs
        have hsz6 := HS6.out.2.2.2.size
        have hrt : (R.take j).length ≤ 1000 := by rw [List.length_take]; omega
        by_cases hj2 : j < es.length
        · have hj3 : (j : Int) < (es.length : Int) := by omega
          obtain ⟨b6, off6, e6, hcell⟩ := Spa.is_cell HI6.out j hj2
          obtain ⟨hx1, hx2⟩ := HBD.out j hj2
          have HN6 := Lib.hid (HRS.out j hj2)
          subst e6
          generalize es[j] = x at *
          go_wp2_with (at_builtin; refine app_ps rfl _ _ rfl w.heap.size _ _ (Spa.hitsTo l line k ++ R.take j) rfl (HO6.out.alloc _) (some ⟨wr.heap.size, 0, none⟩) [⟨(k : Int) + 1 - x, (k : Int) + 1⟩] 1 (wr.heap.size + 1) rfl (by have := Prs.ps_one wr ⟨(k : Int) + 1 - x, (k : Int) + 1⟩ (0, 0); rwa [World.size_alloc] at this) (fun e => by cases e) (by simp only [List.length_append, List.length_cons, List.length_nil]; omega) (by simp; omega) ?_; intro v7 w7 hown7 hg7)
          go_roundw
          case rel =>
            have ba : Below wr.heap.size wr (wr.alloc (.cells #[.int .i64 ((k : Int) + 1 - x), .int .i64 ((k : Int) + 1)] 65)) := (Below.refl _ _).alloc (Nat.le_refl _) _
            refine ⟨j + 1, by omega, by go_num, ?_, Spa.is_far (own_keep HI6.out ba) (HO6.out.alloc _) hg7, (HS6.out.keep ba).far (HO6.out.alloc _) hg7⟩
            rw [HN6.out, ← List.append_assoc, List.length_append (bs := [_])]
            exact hown7
          case measure => simp [intOf]; omega
        · have hje : j = es.length := by omega
          have hj3 : ¬ (j : Int) < (es.length : Int) := by omega
          have HQ : Hid (Spa.hitsTo l line k ++ R.take j = Spa.hitsTo l line (k + 1)) := Lib.hid (by rw [hje, HRA.out, HHK.out])
          clear hje
          go_wp2
          go_roundw
          case rel =>
            refine ⟨k + 1, by omega, by go_num, by rw [HST.out], by rw [← HQ.out]; exact HO6.out, ?_⟩
            have e1 : a + ((k + 1 : Nat) : Int) = a + (k : Int) + 1 := by omega
            have e2 : b + ((k + 1 : Nat) : Int) = b + (k : Int) + 1 := by omega
            rw [e1, e2]; exact HS6.out
          case measure => simp [intOf]; omega
    · have hke : k = line.length := by omega
      have hk3 : ¬ (k : Int) < (line.length : Int) := by omega
      have HQ : Hid (norm (Spa.hitsTo l line k) = Spa.scanOf l line) := Lib.hid (by rw [hke, Spa.scanOf])
      have HQ3 : Hid ((k : Int) = (line.length : Int)) := Lib.hid (by rw [hke])
      clear hke
      obtain ⟨a8, c8, rfl, hc8, hn8, hp8⟩ := own_ps HO.out rfl
      have HSO := Lib.hid (sort_all (Spa.hitsTo l line k) a8 c8 wr (by omega) hp8 hc8 hn8)
      clear hp8 hn8
      go_wp2_with (go_at_call 44; (with_reducible refine HSO.out.mono ?_); rintro e w9 ⟨a9, c9, rfl, hc9, hn9, hp9, hb9⟩; have HB9 := Lib.hid hb9; have HP9 := Lib.hid hp9; clear hb9 hp9)
      go_ret
      have hs := HSC.out.keep HB9.out
      refine ⟨a9, c9, by rw [← HQ.out]; rfl, by rw [← HQ.out]; exact HP9.out, hn9, ?_, hs.2.2.2⟩
      rw [← HQ3.out]; exact hs.2.2.1
end Go.Proofs.Ytnbfdjpmppflmaa.Dfa
