/- fill: its contract. -/
import Derived.Test.YtgdpelpepgpegaaH6
namespace Go.Proofs.Ytgdpelpepgpegaa.Shf
open Go.RowKit Go.Maps Go.Proofs.Ytgdpelpepgpegaa.Tri Go.Proofs.Ytgdpelpepgpegaa.Lnk Go.Proofs.Ytgdpelpepgpegaa.Cwl Go.Proofs.Ytgdpelpepgpegaa.Bck Go.Proofs.Ytgdpelpepgpegaa.Reg
set_option maxRecDepth 100000
set_option linter.unusedVariables false

theorem fst_one {ps : List Tx} (hw : Wf ps) (L : Nat) {p : Tx} (hp : p ∈ ps) : L = fstTo ps L 1 p := by
  rw [fst_step hw L hw.pos hp, if_neg, fst_zero]
  rw [hw.at0, fail_nil]
  have := (place_nonneg ps p).2 hp
  omega
theorem snd_one {ps l : List Tx} (hw : Wf ps) (hl : ([] : Tx) ∉ l) (L : Nat) (p : Tx) : L = sndUp ps l L 1 p := by
  rw [snd_skip L hw.pos (by rw [hw.at0]; exact hl), snd_zero]
set_option maxHeartbeats 4000000 in
theorem fill_any (w0 w : World) (s0 x : Nat) (l : List Tx) (hbk : Bk w0 s0 x l) (ps lt : List Tx) (hlt : turned l = lt) (hps : paths lt = ps) (s t g n cap gf : Nat) (nr : Nat → Nat) (hs : w0.heap.size = s) (hb0 : Below s w0 w)
    (h1 : Sd w t (.slice (some ⟨g, 0, none⟩) n cap) nr) (h2 : w.ownsRow s 59 3 (.slice (some ⟨g, 0, none⟩) n cap) n (rvals (tab ps (fun _ => Cwl.leastOf lt) fun _ => Cwl.leastOf lt)))
    (h3 : w.ownsRow s 3 1 (.slice (some ⟨gf, 0, none⟩) n n) n (ivals (ps.map (failOf ps)))) (hn : ps.length = n) (hm : n ≤ 1000000) (hd : ∀ p ∈ ps, p.length ≤ 1000000) :
    Calls Try.prog 28 #[.pointer (some ⟨t, 0, none⟩), .pointer (some ⟨x, 0, none⟩), .slice (some ⟨gf, 0, none⟩) n n] w fun e w' => (∃ v, e = .returned v) ∧ Sd w' t (.slice (some ⟨g, 0, none⟩) n cap) nr ∧
      w'.ownsRow s 59 3 (.slice (some ⟨g, 0, none⟩) n cap) n (rvals (tab ps (firstOf lt ps) (secondOf lt))) ∧ Below s w0 w' := by
  have HW : Hid (Wf ps) := Lib.hid (hps ▸ paths_wf lt)
  have HSUB : Hid (∀ y ∈ lt, y ∈ ps) := Lib.hid fun y hy => hps ▸ paths_sub lt y hy
  have HNE : Hid (([] : Tx) ∉ lt) := Lib.hid fun h => by have := turned_ne (hlt ▸ h); simp at this
  have HBK : Hid (∀ X, Below s w0 X → Bk X s0 x l) := Lib.hid fun X hX => hbk.keep (by rw [hs]; exact hX)
  have HD := Lib.hid hd
  obtain ⟨tt, hx, htr⟩ := hbk.tree
  rw [hlt, hps] at htr
  have HX : Hid (∀ X, Below s w0 X → X.cell? ⟨x, 0, none⟩ = some (.pointer (some ⟨tt, 0, none⟩))) := Lib.hid fun X hX => (hX.cell (p := ⟨x, 0, none⟩) (by rw [← hs]; exact cell_lt0 hx)).trans hx
  have HTR : Hid (∀ X, Below s w0 X → Tr X s0 tt ps lt) := Lib.hid fun X hX => htr.keep (by rw [hs]; exact hX)
  clear hx htr
  have hsw : s ≤ w.heap.size := by have := hb0.size; omega
  have hmf : ∀ (fn : Fn) (first cap : Array Value) (w : World), (Instr.makeFunc fn first cap).run Try.prog w = .ok (.func fn first cap) w := fun _ _ _ _ => rfl
  have hs0 : s ≤ w0.heap.size := by omega
  have H1 := Lib.hid h1
  have H2 := Lib.hid h2
  have H3 := Lib.hid h3
  have HB0 := Lib.hid hb0
  have hxl : x < s := by
    obtain ⟨_, t', hh, _⟩ := hbk
    rw [← hs]; exact txt_lt hh
  clear h1 h2 h3 hb0 hd hbk hs
  obtain ⟨L, hL⟩ : ∃ L, L = Cwl.leastOf lt := ⟨_, rfl⟩
  have HL := Lib.hid hL
  rw [← hL] at H2
  clear hL
  go_enter Try.func28, Try.ntmps28
  go_wp2
  have hbk2 : Below w.heap.size w (w.alloc (.cells #[.pointer (some ⟨t, 0, none⟩)] 27)) := (Below.refl _ w).alloc (Nat.le_refl _) _
  have hF0 : Fi (w.alloc (.cells #[.pointer (some ⟨t, 0, none⟩)] 27)) s t g n cap w.heap.size gf nr ps (fstTo ps L 1) (sndUp ps lt L 1) := by
    refine ⟨H1.out.keep hbk2, ?_, heap_alloc_new w _, own_keep H3.out hbk2⟩
    rw [← tab_congr (fun p hp => fst_one HW.out L hp) (fun p _ => snd_one HW.out HNE.out L p)]
    exact own_keep H2.out hbk2
  have hbl : Below s w0 (w.alloc (.cells #[.pointer (some ⟨t, 0, none⟩)] 27)) := HB0.out.trans (hbk2.mono hsw)
  clear hbk2 H1 H2 H3 HB0
  generalize w.alloc (.cells #[.pointer (some ⟨t, 0, none⟩)] 27) = w1 at *
  generalize w.heap.size = b0 at *
  have hpos := HW.out.pos
  go_loopw [8] (fun v wr => ∃ k : Nat, 1 ≤ k ∧ k ≤ n ∧ v = .int .i64 k ∧ Fi wr s t g n cap b0 gf nr ps (fstTo ps L k) (sndUp ps lt L k) ∧ Below s w0 wr) (fun v _ => n - (intOf v).toNat)
  case atStart => exact ⟨1, Nat.le_refl _, by omega, rfl, hF0, hbl⟩
  case round =>
    obtain ⟨k, hk1, hk, rfl, hf, hbel⟩ := hrel
    by_cases hkn : k < n
    · have hkl : k < ps.length := by omega
      have hq0 : ps[k] ≠ [] := fun e => by have := (HW.out.nil_iff hkl).1 e; omega
      obtain ⟨u, z, ez, hu, hz, hzl, ef, _, _, _⟩ := fail_step HW.out ps[k] hq0
      obtain ⟨j, hj, e1, rfl, _⟩ := place_mem hz
      have hcf := hf.fall hn hkl
      rw [ef, e1] at hcf
      have HSX : Hid (wr.drew.cell? ⟨gf, k, none⟩ = some (.int .i64 (j : Int))) := Lib.hid hcf
      have hgfl := cell_lt0 hcf
      have hfd : Fi wr.drew s t g n cap b0 gf nr ps (fstTo ps L k) (sndUp ps lt L k) := hf.keep (below_drews (Below.refl _ _) 1)
      have hbd : Below s w0 wr.drew := below_drews hbel 1
      have HAH := Lib.hid (hfd.ahead hn hkl hj HD.out)
      have HKE : Hid (∀ X : World, Fi X s t g n cap b0 gf nr ps (fstTo ps L k) (sndUp ps lt L k) → _) := Lib.hid fun X hX => hX.first (F' := fstTo ps L (k + 1)) hn HW.out.nodup hj ((ps[k].length : Int) - ps[j].length) (fun p hp hne => by
          rw [fst_step HW.out L hkl hp, if_neg fun e => hne ?_]
          rw [ef, e1] at e
          obtain ⟨i', hi', e3, e4, _⟩ := place_mem hp
          have : j = i' := by omega
          subst this
          exact e4.symm) (by
          rw [fst_step HW.out L hkl (List.getElem_mem hj), if_pos (by rw [ef])]
          omega)
      have HF := Lib.hid hfd
      have HFE : Hid (failOf ps ps[k] = (j : Int)) := Lib.hid (by rw [ef, e1])
      have HWH : Hid (∀ X, Below s w0 X → Calls Try.prog 40 #[.pointer (some ⟨x, 0, none⟩), .int .i64 (k : Int)] X fun e w' => e = .returned (.bool (decide (ps[k] ∈ lt))) ∧ Below X.heap.size X w') := Lib.hid fun X hX => by
        have := bwhole_any X x l (HBK.out X hX) (k : Int) (wf_nat (by omega) (by omega))
        rw [hlt, hps, pathD_at hkl] at this
        exact this
      have HBD := Lib.hid hbd
      have hkn2 : (k : Int) < (n : Int) := by omega
      clear hcf hf hbel hfd hbd ez hu ef e1
      go_wp2
      refine wp_region_held_drew (S := fun w' => w'.cell? ⟨gf, k, none⟩ = some (.int .i64 (j : Int))) (by kernel_rfl) HSX.out (fun hH0 => ?_)
      clear HSX
      generalize wr.drew = x0 at *
      refine held_take (i := 0) (d := 19) (oi := _) (v := ?_) rfl rfl (by kernel_rfl) (by kernel_rfl) (by kernel_rfl) (fun _ _ _ h => h) (Or.inl ⟨by rfl, ?_⟩) (by assumption) ?_
      rotate_left
      · (intro w hSw; go_simp; (try with_reducible rfl))
      simp only [Act.put, List.setIfInBounds_toArray, List.set_cons_zero, List.set_cons_succ]
      refine held_take (i := 1) (d := 20) (oi := _) (v := ?_) rfl rfl (by kernel_rfl) (by kernel_rfl) (by kernel_rfl) (fun _ _ _ h => h) (Or.inl ⟨by rfl, ?_⟩) (by assumption) ?_
      rotate_left
      · (intro w hSw; go_simp; (try with_reducible rfl))
      simp only [Act.put, List.setIfInBounds_toArray, List.set_cons_zero, List.set_cons_succ]
      refine held_take (i := 2) (d := 21) (oi := _) (v := ?_) rfl rfl (by kernel_rfl) (by kernel_rfl) (by kernel_rfl) (fun _ _ _ h => h) (Or.inl ⟨by rfl, ?_⟩) (by assumption) ?_
      rotate_left
      · (intro w hSw; go_simp; (try with_reducible rfl))
      simp only [Act.put, List.setIfInBounds_toArray, List.set_cons_zero, List.set_cons_succ]
      refine held_take (i := 3) (d := 22) (oi := _) (v := ?_) rfl rfl (by kernel_rfl) (by kernel_rfl) (by kernel_rfl) (fun _ _ _ h => h) (Or.inl ⟨by rfl, ?_⟩) (by assumption) ?_
      rotate_left
      · (intro w hSw; go_simp; (try with_reducible rfl))
      simp only [Act.put, List.setIfInBounds_toArray, List.set_cons_zero, List.set_cons_succ]
      refine held_take (i := 4) (d := 23) (oi := _) (v := ?_) rfl rfl (by kernel_rfl) (by kernel_rfl) (by kernel_rfl) (fun _ _ _ h => h) (Or.inl ⟨by rfl, ?_⟩) (by assumption) ?_
      rotate_left
      · (intro w hSw; go_simp; (try with_reducible rfl))
      simp only [Act.put, List.setIfInBounds_toArray, List.set_cons_zero, List.set_cons_succ]
      refine held_take (i := 5) (d := 24) (oi := _) (v := ?_) rfl rfl (by kernel_rfl) (by kernel_rfl) (by kernel_rfl) (fun _ _ _ h => h) (Or.inl ⟨by rfl, ?_⟩) (by assumption) ?_
      rotate_left
      · (intro w hSw; go_simp; (try with_reducible rfl))
      simp only [Act.put, List.setIfInBounds_toArray, List.set_cons_zero, List.set_cons_succ]
      refine held_take (i := 6) (d := 25) (oi := _) (v := ?_) rfl rfl (by kernel_rfl) (by kernel_rfl) (by kernel_rfl) (fun _ _ _ h => h) (Or.inl ⟨by rfl, ?_⟩) (by assumption) ?_
      rotate_left
      · (intro w hSw; go_simp; (try with_reducible rfl))
      simp only [Act.put, List.setIfInBounds_toArray, List.set_cons_zero, List.set_cons_succ]
      refine held_take (i := 7) (d := 26) (oi := _) (v := ?_) rfl rfl (by kernel_rfl) (by kernel_rfl) (by kernel_rfl) (fun _ _ _ h => h) (Or.inl ⟨by rfl, ?_⟩) (by assumption) ?_
      rotate_left
      · (intro w hSw; go_simp; (try with_reducible rfl))
      simp only [Act.put, List.setIfInBounds_toArray, List.set_cons_zero, List.set_cons_succ]
      refine held_take (i := 8) (d := 27) (oi := _) (v := ?_) rfl rfl (by kernel_rfl) (by kernel_rfl) (by kernel_rfl) (fun _ _ _ h => h) (Or.inl ⟨by rfl, ?_⟩) (by assumption) ?_
      rotate_left
      · (intro w hSw; go_simp; (try with_reducible rfl))
      simp only [Act.put, List.setIfInBounds_toArray, List.set_cons_zero, List.set_cons_succ]
      refine held_take (i := 9) (d := 28) (oi := _) (v := ?_) rfl rfl (by kernel_rfl) (by kernel_rfl) (by kernel_rfl) (fun _ _ _ h => h) (Or.inl ⟨by rfl, ?_⟩) (by assumption) ?_
      rotate_left
      · (intro w hSw; go_simp; (try with_reducible rfl))
      simp only [Act.put, List.setIfInBounds_toArray, List.set_cons_zero, List.set_cons_succ]
      refine held_take (i := 10) (d := 29) (oi := _) (v := ?_) rfl rfl (by kernel_rfl) (by kernel_rfl) (by kernel_rfl) (fun _ _ _ h => h) (Or.inl ⟨by rfl, ?_⟩) (by assumption) ?_
      rotate_left
      · (intro w hSw; go_simp; (try with_reducible rfl))
      simp only [Act.put, List.setIfInBounds_toArray, List.set_cons_zero, List.set_cons_succ]
      refine wpAnyH_ready (rs := [11]) (by kernel_rfl) (by simp) ?_
      refine AllReadyH.cons rfl (fun K hK => ?_) AllReadyH.nil
      go_simp
      go_wp2_with (go_at_call 43; (with_reducible refine HAH.out.mono ?_); rintro e x' ⟨rfl, q, rfl⟩)
      refine hK.out _ _ hH0 (fun _ => ?_)
      clear hK K HAH
      refine wpAnyH_ready (rs := [12]) (by kernel_rfl) (by simp) ?_
      refine AllReadyH.cons rfl (fun K hK => ?_) AllReadyH.nil
      go_simp
      go_wp2_with (go_at_call 42; (with_reducible refine (HKE.out _ (HF.out.keep (below_drews (Below.refl _ _) q))).mono ?_); rintro e x2 ⟨⟨v, rfl⟩, hfi, hbb⟩)
      refine hK.out _ _ (by have := hfi.fall hn hkl; rw [HFE.out] at this; exact this) (fun _ => ?_)
      clear hK K
      refine wpAnyH_done (by kernel_rfl) ?_ _
      have hb2 := hbb s w0 (below_drews HBD.out q) (Nat.le_refl _)
      have HF2 := Lib.hid hfi
      have HB2 := Lib.hid hb2
      clear hfi hbb hb2 HKE HF HBD hH0
      by_cases hwl : ps[k] ∈ lt
      · have hdw : decide (ps[k] ∈ lt) = true := decide_eq_true hwl
        rw [hdw] at HWH
        have HWL := Lib.hid hwl
        have hq1 : ps[k] ∈ ps := List.getElem_mem hkl
        clear hwl hdw hz hzl hq0
        go_wp2_with (go_at_call 40; (with_reducible refine (HWH.out _ HB2.out).mono ?_); rintro e x3 ⟨rfl, hb3⟩; have hf3 := HF2.out.keep hb3; have HF3 := Lib.hid hf3; have hcf := hf3.fall hn hkl; rw [HFE.out] at hcf; have HB4 := Lib.hid (HB2.out.trans (hb3.mono (show s ≤ x2.heap.size by have := HB2.out.size; omega))); clear hf3 hb3)
        rw [← HFE.out]
        clear HFE HF2 HB2 hcf HWH
        go_loopw [9] (fun v wr => ∃ y : Tx, (y = ps[k] ∨ (y ∈ ps ∧ Tail ps[k] y)) ∧ v = .int .i64 (failOf ps y) ∧ Fi wr s t g n cap b0 gf nr ps (fstTo ps L (k + 1)) (sndIn ps lt L k ps[k] y.length) ∧ Below s w0 wr) (fun v _ => mz ps (intOf v))
        case atStart => exact ⟨ps[k], .inl rfl, rfl, HF3.out.congr (fun p _ => rfl) (fun p _ => (sndIn_start ps lt L k ps[k] _ (Nat.le_refl _) p).symm), HB4.out⟩
        case round =>
          obtain ⟨y, hy, rfl, hf, hbel⟩ := hrel
          by_cases hy0 : y = []
          · subst hy0
            have hf5 := hf.congr (fun p _ => rfl) (fun p _ => sndIn_end L hkl HWL.out p)
            have HF5 := Lib.hid hf5
            have HB5 := Lib.hid hbel
            clear hf hf5 hbel hy
            rw [fail_nil]
            go_wp2
            exact ⟨⟨k + 1, by omega, by omega, by go_num, HF5.out, HB5.out⟩, by simp [intOf]; omega⟩
          · obtain ⟨u, z, ez, hu, hz, hzl, ef, _, _, _⟩ := fail_step HW.out y hy0
            obtain ⟨i, hi, e1, rfl, _⟩ := place_mem hz
            have hyz : Tail y ps[i] := by rw [ez]; exact tail_of hu
            have hqz : Tail ps[k] ps[i] := by
              rcases hy with rfl | ⟨_, h⟩
              · exact hyz
              · exact tail_trans h hyz
            have hno : ∀ v ∈ ps, Tail ps[k] v → v.length < y.length → v.length ≤ ps[i].length := fun v hv ht hl => by
              rcases hy with rfl | ⟨_, h⟩
              · exact fall_between HW.out ef hz hv ht
              · exact fall_between HW.out ef hz hv (tail_cut h ht hl)
            have HM : Hid (mz ps (failOf ps ps[i]) < mz ps (failOf ps y)) := Lib.hid (by
              have := mz_fail HW.out ps[i]
              rw [ef, mz_place hz]; omega)
            have HAH := Lib.hid (hf.ahead hn hkl hi HD.out)
            have HKE : Hid (∀ X : World, Fi X s t g n cap b0 gf nr ps (fstTo ps L (k + 1)) (sndIn ps lt L k ps[k] y.length) → _) := Lib.hid fun X hX => hX.second (G' := sndIn ps lt L k ps[k] ps[i].length) hn HW.out.nodup hi ((ps[k].length : Int) - ps[i].length) (fun p hp hne => by
              rw [sndIn_step lt L k hz hqz hzl hno hp, if_neg hne]) (by
              rw [sndIn_step lt L k hz hqz hzl hno hz, if_pos rfl]
              have := hqz.1
              omega)
            have HFA : Hid (∀ X : World, Fi X s t g n cap b0 gf nr ps (fstTo ps L (k + 1)) (sndIn ps lt L k ps[k] ps[i].length) → _) := Lib.hid fun X hX => hX.fall hn hi
            have HQZ := Lib.hid hqz
            have HF := Lib.hid hf
            have HBE := Lib.hid hbel
            have HEF := Lib.hid ef
            rw [ef, e1] at HM ⊢
            have hin : (i : Int) < (n : Int) := by omega
            clear hf hbel ez hu ef hno hqz hyz hy hy0 e1 hzl
            go_wp2_with (first
              | (go_at_call 43; (with_reducible refine HAH.out.mono ?_); rintro e x' ⟨rfl, q, rfl⟩)
              | (go_at_call 42; (with_reducible refine (HKE.out _ (HF.out.keep (below_drews (Below.refl _ _) q))).mono ?_); rintro e x5 ⟨⟨v, rfl⟩, hfi, hbb⟩; have hcf := HFA.out _ hfi; have HFI := Lib.hid hfi; have HBB := Lib.hid (hbb s w0 (below_drews HBE.out q) (Nat.le_refl _)); clear hfi hbb))
            refine ⟨⟨ps[i], .inr ⟨hz, HQZ.out⟩, rfl, HFI.out, HBB.out⟩, ?_⟩
            simpa [intOf] using HM.out
      · have hdw : decide (ps[k] ∈ lt) = false := decide_eq_false hwl
        rw [hdw] at HWH
        have HSK := Lib.hid (fun p => snd_skip (ps := ps) (l := lt) L hkl hwl p)
        clear hwl hdw hz hzl hq0
        go_wp2_with (go_at_call 40; (with_reducible refine (HWH.out _ HB2.out).mono ?_); rintro e x3 ⟨rfl, hb3⟩)
        have hf3 := (HF2.out.keep hb3).congr (fun p _ => rfl) (fun p _ => (HSK.out p).symm)
        have hb4 := HB2.out.trans (hb3.mono (by have := HB2.out.size; omega))
        exact ⟨⟨k + 1, by omega, by omega, by go_num, hf3, hb4⟩, by simp [intOf]; omega⟩
    · obtain rfl : k = n := by omega
      have hf2 := hf.congr (fun p hp => by rw [← hn, fst_all HW.out L hp]) (fun p hp => by rw [← hn, snd_base HSUB.out L p, HL.out, way_one HW.out hp])
      have hf3 : Fi wr s t g k cap b0 gf nr ps (firstOf lt ps) (wayTo ps lt L 1) := hf2.congr (fun p _ => by rw [HL.out]; rfl) (fun p _ => by rw [HL.out])
      have HF2 := Lib.hid hf3
      have HB2 := Lib.hid hbel
      clear hf hf2 hf3 hbel
      have hkk : ¬ (k : Int) < (k : Int) := by omega
      go_wp2
      go_loopw [10] (fun v wr => ∃ m : Nat, 1 ≤ m ∧ m ≤ k ∧ v = .int .i64 m ∧ Fi wr s t g k cap b0 gf nr ps (firstOf lt ps) (wayTo ps lt L m) ∧ Below s w0 wr) (fun v _ => k - (intOf v).toNat)
      case atStart => exact ⟨1, Nat.le_refl _, by omega, rfl, HF2.out, HB2.out⟩
      case round =>
        obtain ⟨m, hm1, hm2, rfl, hf, hbel⟩ := hrel
        by_cases hmk : m < k
        · have hml : m < ps.length := by omega
          have hws := way_step (l := lt) HW.out hml hm1
          rw [← HL.out] at hws
          obtain ⟨a1, a2, j, hj, hjm, eu, ej, ew⟩ := hws
          have hfd : Fi wr.drew s t g k cap b0 gf nr ps (firstOf lt ps) (wayTo ps lt L m) := hf.keep (below_drews (Below.refl _ _) 1)
          have hbd : Below s w0 wr.drew := below_drews hbel 1
          have hne : ps[j] ≠ ps[m] := fun e => by have := nd_inj HW.out.nodup e; omega
          obtain ⟨_, _, c2, _⟩ := hfd.row hn hj
          rw [ew] at c2
          have HSX : Hid (wr.drew.cell? ⟨b0, 0, none⟩ = some (.pointer (some ⟨t, 0, none⟩)) ∧ wr.drew.cell? ⟨t, 0, none⟩ = some (.slice (some ⟨g, 0, none⟩) k cap) ∧ wr.drew.cell? ⟨x, 0, none⟩ = some (.pointer (some ⟨tt, 0, none⟩)) ∧ wr.drew.cell? ⟨g, j * 3 + 2, none⟩ = some (.int .i64 (secondOf lt ps[m].dropLast : Int))) := Lib.hid ⟨hfd.2.2.1.cell, hfd.1.row, HX.out _ hbd, c2⟩
          have HSB : Hid (∀ X, Below wr.drew.heap.size wr.drew X → X.cell? ⟨b0, 0, none⟩ = some (.pointer (some ⟨t, 0, none⟩)) ∧ X.cell? ⟨t, 0, none⟩ = some (.slice (some ⟨g, 0, none⟩) k cap) ∧ X.cell? ⟨x, 0, none⟩ = some (.pointer (some ⟨tt, 0, none⟩)) ∧ X.cell? ⟨g, j * 3 + 2, none⟩ = some (.int .i64 (secondOf lt ps[m].dropLast : Int))) := Lib.hid fun X hX =>
            ⟨(hX.cell (p := ⟨b0, 0, none⟩) hfd.2.2.1.lt).trans hfd.2.2.1.cell, (hX.cell (p := ⟨t, 0, none⟩) hfd.1.lt).trans hfd.1.row, (hX.cell (p := ⟨x, 0, none⟩) (cell_lt0 (HX.out _ hbd))).trans (HX.out _ hbd), (hX.cell (p := ⟨g, j * 3 + 2, none⟩) (cell_lt0 c2)).trans c2⟩
          have HPA : Hid (Calls Try.prog 22 #[.pointer (some ⟨tt, 0, none⟩), .int .i64 (m : Int)] wr.drew fun e w' => e = .returned (.int .i64 (j : Int)) ∧ Below wr.drew.heap.size wr.drew w') := Lib.hid (by
            have := parent_any wr.drew s0 tt ps lt (HTR.out _ hbd) (m : Int)
            rwa [eu] at this)
          have HKE : Hid (∀ X : World, Fi X s t g k cap b0 gf nr ps (firstOf lt ps) (wayTo ps lt L m) → _) := Lib.hid fun X hX => hX.second (G' := wayTo ps lt L (m + 1)) hn HW.out.nodup hml (secondOf lt ps[m].dropLast : Int) a1 (by rw [a2]; omega)
          have HFX : Hid (∀ X : World, Fi X s t g k cap b0 gf nr ps (firstOf lt ps) (wayTo ps lt L (m + 1)) → Below s w0 X → X.cell? ⟨b0, 0, none⟩ = some (.pointer (some ⟨t, 0, none⟩)) ∧ X.cell? ⟨t, 0, none⟩ = some (.slice (some ⟨g, 0, none⟩) k cap) ∧ X.cell? ⟨x, 0, none⟩ = some (.pointer (some ⟨tt, 0, none⟩)) ∧ X.cell? ⟨g, j * 3 + 2, none⟩ = some (.int .i64 (secondOf lt ps[m].dropLast : Int))) := Lib.hid fun X hX hb => by
            obtain ⟨_, _, c3, _⟩ := hX.row hn hj
            rw [a1 _ (List.getElem_mem hj) hne, ew] at c3
            exact ⟨hX.2.2.1.cell, hX.1.row, HX.out _ hb, c3⟩
          have HF := Lib.hid hfd
          have HBD := Lib.hid hbd
          have hjl : (j : Int) < (k : Int) := by omega
          have hmi : (m : Int) < (k : Int) := by omega
          clear hf hbel hfd hbd c2 a1 a2 eu ej ew hne hkk HF2 HB2
          generalize secondOf lt ps[m].dropLast = sd at *
          go_wp2
          refine wp_region_held_drew (S := fun w' => w'.cell? ⟨b0, 0, none⟩ = some (.pointer (some ⟨t, 0, none⟩)) ∧ w'.cell? ⟨t, 0, none⟩ = some (.slice (some ⟨g, 0, none⟩) k cap) ∧ w'.cell? ⟨x, 0, none⟩ = some (.pointer (some ⟨tt, 0, none⟩)) ∧ w'.cell? ⟨g, j * 3 + 2, none⟩ = some (.int .i64 (sd : Int))) (by kernel_rfl) HSX.out (fun hH0 => ?_)
          clear HSX
          generalize wr.drew = x0 at *
          refine held_take (i := 0) (d := 59) (oi := _) (v := ?_) rfl rfl (by kernel_rfl) (by kernel_rfl) (by kernel_rfl) (fun _ _ _ h => h) (Or.inl ⟨by rfl, ?_⟩) (by assumption) ?_
          rotate_left
          · (intro w hSw; obtain ⟨s1, s2, s3, s4⟩ := hSw; go_simp; (try with_reducible rfl))
          simp only [Act.put, List.setIfInBounds_toArray, List.set_cons_zero, List.set_cons_succ]
          refine held_take (i := 1) (d := 60) (oi := _) (v := ?_) rfl rfl (by kernel_rfl) (by kernel_rfl) (by kernel_rfl) (fun _ _ _ h => h) (Or.inl ⟨by rfl, ?_⟩) (by assumption) ?_
          rotate_left
          · (intro w hSw; obtain ⟨s1, s2, s3, s4⟩ := hSw; go_simp; (try with_reducible rfl))
          simp only [Act.put, List.setIfInBounds_toArray, List.set_cons_zero, List.set_cons_succ]
          refine held_take (i := 2) (d := 61) (oi := _) (v := ?_) rfl rfl (by kernel_rfl) (by kernel_rfl) (by kernel_rfl) (fun _ _ _ h => h) (Or.inl ⟨by rfl, ?_⟩) (by assumption) ?_
          rotate_left
          · (intro w hSw; obtain ⟨s1, s2, s3, s4⟩ := hSw; go_simp; (try with_reducible rfl))
          simp only [Act.put, List.setIfInBounds_toArray, List.set_cons_zero, List.set_cons_succ]
          refine held_take (i := 3) (d := 62) (oi := _) (v := ?_) rfl rfl (by kernel_rfl) (by kernel_rfl) (by kernel_rfl) (fun _ _ _ h => h) (Or.inl ⟨by rfl, ?_⟩) (by assumption) ?_
          rotate_left
          · (intro w hSw; obtain ⟨s1, s2, s3, s4⟩ := hSw; go_simp; (try with_reducible rfl))
          simp only [Act.put, List.setIfInBounds_toArray, List.set_cons_zero, List.set_cons_succ]
          refine held_take (i := 4) (d := 63) (oi := _) (v := ?_) rfl rfl (by kernel_rfl) (by kernel_rfl) (by kernel_rfl) (fun _ _ _ h => h) (Or.inl ⟨by rfl, ?_⟩) (by assumption) ?_
          rotate_left
          · (intro w hSw; obtain ⟨s1, s2, s3, s4⟩ := hSw; go_simp; (try with_reducible rfl))
          simp only [Act.put, List.setIfInBounds_toArray, List.set_cons_zero, List.set_cons_succ]
          refine held_take (i := 5) (d := 64) (oi := _) (v := ?_) rfl rfl (by kernel_rfl) (by kernel_rfl) (by kernel_rfl) (fun _ _ _ h => h) (Or.inl ⟨by rfl, ?_⟩) (by assumption) ?_
          rotate_left
          · (intro w hSw; obtain ⟨s1, s2, s3, s4⟩ := hSw; go_simp; (try with_reducible rfl))
          simp only [Act.put, List.setIfInBounds_toArray, List.set_cons_zero, List.set_cons_succ]
          refine held_take (i := 6) (d := 65) (oi := _) (v := ?_) rfl rfl (by kernel_rfl) (by kernel_rfl) (by kernel_rfl) (fun _ _ _ h => h) (Or.inl ⟨by rfl, ?_⟩) (by assumption) ?_
          rotate_left
          · (intro w hSw; obtain ⟨s1, s2, s3, s4⟩ := hSw; go_simp; (try with_reducible rfl))
          simp only [Act.put, List.setIfInBounds_toArray, List.set_cons_zero, List.set_cons_succ]
          refine held_take (i := 7) (d := 66) (oi := _) (v := ?_) rfl rfl (by kernel_rfl) (by kernel_rfl) (by kernel_rfl) (fun _ _ _ h => h) (Or.inl ⟨by rfl, ?_⟩) (by assumption) ?_
          rotate_left
          · (intro w hSw; obtain ⟨s1, s2, s3, s4⟩ := hSw; go_simp; (try with_reducible rfl))
          simp only [Act.put, List.setIfInBounds_toArray, List.set_cons_zero, List.set_cons_succ]
          refine held_take (i := 8) (d := 67) (oi := _) (v := ?_) rfl rfl (by kernel_rfl) (by kernel_rfl) (by kernel_rfl) (fun _ _ _ h => h) (Or.inl ⟨by rfl, ?_⟩) (by assumption) ?_
          rotate_left
          · (intro w hSw; obtain ⟨s1, s2, s3, s4⟩ := hSw; go_simp; (try with_reducible rfl))
          simp only [Act.put, List.setIfInBounds_toArray, List.set_cons_zero, List.set_cons_succ]
          refine held_take (i := 9) (d := 68) (oi := _) (v := ?_) rfl rfl (by kernel_rfl) (by kernel_rfl) (by kernel_rfl) (fun _ _ _ h => h) (Or.inl ⟨by rfl, ?_⟩) (by assumption) ?_
          rotate_left
          · (intro w hSw; obtain ⟨s1, s2, s3, s4⟩ := hSw; go_simp; (try with_reducible rfl))
          simp only [Act.put, List.setIfInBounds_toArray, List.set_cons_zero, List.set_cons_succ]
          refine held_take (i := 10) (d := 69) (oi := _) (v := ?_) rfl rfl (by kernel_rfl) (by kernel_rfl) (by kernel_rfl) (fun _ _ _ h => h) (Or.inl ⟨by rfl, ?_⟩) (by assumption) ?_
          rotate_left
          · (intro w hSw; obtain ⟨s1, s2, s3, s4⟩ := hSw; go_simp; (try with_reducible rfl))
          simp only [Act.put, List.setIfInBounds_toArray, List.set_cons_zero, List.set_cons_succ]
          refine wpAnyH_ready (rs := [11]) (by kernel_rfl) (by simp) ?_
          refine AllReadyH.cons rfl (fun K hK => ?_) AllReadyH.nil
          go_simp
          go_wp2_with (go_at_call 22; (with_reducible refine HPA.out.mono ?_); rintro e x1 ⟨rfl, hb1⟩)
          have hH1 := HSB.out x1 hb1
          have HX1 := Lib.hid hb1
          clear hb1
          refine hK.out _ _ hH1 (fun _ => ?_)
          clear hK K HPA hH0 HSB
          refine held_take (i := 12) (d := 71) (oi := _) (v := ?_) rfl rfl (by kernel_rfl) (by kernel_rfl) (by kernel_rfl) (fun _ _ _ h => h) (Or.inl ⟨by rfl, ?_⟩) (by assumption) ?_
          rotate_left
          · (intro w hSw; obtain ⟨s1, s2, s3, s4⟩ := hSw; go_simp; (try with_reducible rfl))
          simp only [Act.put, List.setIfInBounds_toArray, List.set_cons_zero, List.set_cons_succ]
          refine held_take (i := 13) (d := 72) (oi := _) (v := ?_) rfl rfl (by kernel_rfl) (by kernel_rfl) (by kernel_rfl) (fun _ _ _ h => h) (Or.inl ⟨by rfl, ?_⟩) (by assumption) ?_
          rotate_left
          · (intro w hSw; obtain ⟨s1, s2, s3, s4⟩ := hSw; go_simp; (try with_reducible rfl))
          simp only [Act.put, List.setIfInBounds_toArray, List.set_cons_zero, List.set_cons_succ]
          refine held_take (i := 14) (d := 73) (oi := _) (v := ?_) rfl rfl (by kernel_rfl) (by kernel_rfl) (by kernel_rfl) (fun _ _ _ h => h) (Or.inl ⟨by rfl, ?_⟩) (by assumption) ?_
          rotate_left
          · (intro w hSw; obtain ⟨s1, s2, s3, s4⟩ := hSw; go_simp; (try with_reducible rfl))
          simp only [Act.put, List.setIfInBounds_toArray, List.set_cons_zero, List.set_cons_succ]
          refine held_take (i := 15) (d := 74) (oi := _) (v := ?_) rfl rfl (by kernel_rfl) (by kernel_rfl) (by kernel_rfl) (fun _ _ _ h => h) (Or.inl ⟨by rfl, ?_⟩) (by assumption) ?_
          rotate_left
          · (intro w hSw; obtain ⟨s1, s2, s3, s4⟩ := hSw; go_simp; (try with_reducible rfl))
          simp only [Act.put, List.setIfInBounds_toArray, List.set_cons_zero, List.set_cons_succ]
          refine wpAnyH_ready (rs := [16]) (by kernel_rfl) (by simp) ?_
          refine AllReadyH.cons rfl (fun K hK => ?_) AllReadyH.nil
          go_simp
          go_wp2_with (go_at_call 42; (with_reducible refine (HKE.out _ (HF.out.keep HX1.out)).mono ?_); rintro e x2 ⟨⟨v, rfl⟩, hfi, hbb⟩)
          have hb2 := hbb s w0 (HBD.out.trans (HX1.out.mono (by have := HBD.out.size; omega))) (Nat.le_refl _)
          refine hK.out _ _ (HFX.out x2 hfi hb2) (fun _ => ?_)
          clear hK K hbb
          refine wpAnyH_done (by kernel_rfl) ?_ _
          have HF3 := Lib.hid hfi
          have HB3 := Lib.hid hb2
          clear hfi hb2 hH1 HX1 HF HBD HKE HFX
          go_wp2
          exact ⟨⟨m + 1, by omega, by omega, by go_num, HF3.out, HB3.out⟩, by simp [intOf]; omega⟩
        · obtain rfl : m = k := by omega
          have hf5 : Fi wr s t g m cap b0 gf nr ps (firstOf lt ps) (secondOf lt) := hf.congr (fun p _ => rfl) (fun p _ => by rw [← hn]; exact way_all p)
          have HF5 := Lib.hid hf5
          have HB5 := Lib.hid hbel
          clear hf hf5 hbel HF2 HB2
          go_wp2
          go_end0
          exact ⟨⟨_, rfl⟩, HF5.out.1, HF5.out.2.1, HB5.out⟩
end Go.Proofs.Ytgdpelpepgpegaa.Shf
