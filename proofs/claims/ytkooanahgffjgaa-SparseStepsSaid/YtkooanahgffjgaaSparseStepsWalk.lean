/- The walk of SparseSteps. -/
import Derived.Test.YtkooanahgffjgaaSi
namespace Go.Proofs.Ytkooanahgffjgaa.sparseSteps
open Go.Proofs.Ytkooanahgffjgaa.Tri Go.Proofs.Ytkooanahgffjgaa.Lnk Go.Proofs.Ytkooanahgffjgaa.Prs Go.Proofs.Ytkooanahgffjgaa.Spa Go.Proofs.Ytkooanahgffjgaa.Reg Go.RowKit Go.Maps
set_option maxRecDepth 100000
set_option linter.unusedVariables false
attribute [local go_sem ↓] Met.eql_counts
theorem path_short {l : List Tx} {b : Nat} (hx : ∀ x ∈ l, x.length ≤ b) {p : Tx} (hp : p ∈ paths l) : p.length ≤ b := by
  rcases (paths_mem l p).1 hp with rfl | ⟨x, hx', q, rfl⟩
  · simp
  · have := hx _ hx'
    rw [List.length_append] at this
    omega
theorem ss_grown {X Y : World} {a : Option Addr} {l : List Tx} {g : Nat} {c d e f : Int} (h : Ss X a l) (hg : X.grownBy Y (some g)) (hM : Met.Cnt X g c d e f) : Ss Y a l := fun h0 => by
  obtain ⟨b, off, e1, hlt, hc⟩ := h h0
  have hb : b ≠ g := by
    rintro rfl
    have h1 := hc 0 h0
    rw [cell_of_row _ _ _ _ 56 (0, 0) hM] at h1
    rcases Nat.lt_or_ge (off + 0) 4 with ho | ho
    · have : off = 0 ∨ off = 1 ∨ off = 2 ∨ off = 3 := by omega
      rcases this with rfl | rfl | rfl | rfl <;> simp at h1
    · rw [Array.getElem?_eq_none (by simpa using ho)] at h1
      cases h1
  exact ⟨b, off, e1, Nat.lt_of_lt_of_le hlt hg.size, fun i hi => hg.cell (hc i hi) (fun e => hb (Option.some.inj e))⟩

set_option maxHeartbeats 8000000 in
theorem outs (w : World) (xs : List TxV) (a0 : Option Addr) (cap0 : Nat) (hts : Ts w a0 xs) (h0 : xs.length ≤ 12) (hx : ∀ x ∈ xs, x.text.length ≤ 40) (n : Int) (hwf : (Lit.int .i64 n).wf = true) (c : UInt8) (hn : ¬ (0 ≤ n ∧ n < ((paths (xs.map TxV.text)).length : Int))) :
    Calls Try.prog 4 #[.slice a0 xs.length cap0, .int .i64 n, .int .u8 (c.toNat : Int)] w fun e w' => e = .returned (.bool true) ∧ Below w.heap.size w w' := by
  have hx' : ∀ x ∈ xs, x.text.length ≤ maxLen := fun x h => Nat.le_trans (hx x h) (by unfold maxLen; omega)
  have htot := few_tot h0 hx
  have HX := Lib.hid hx
  have HX' := Lib.hid hx'
  have HAW := Lib.hid (awake_any w)
  clear hx hx'
  go_enter Try.func4, Try.ntmps4
  go_wp2_with fail
  refine HAW.out.mono ?_
  rintro e' w1 ⟨rfl, hb2⟩
  have ts1 := hts.keep hb2
  go_wp2_with fail
  refine (ltexts_any xs a0 cap0 w1 ts1 (by omega) HX'.out).mono ?_
  rintro e' w2 ⟨hb3, hcase⟩
  rcases hcase with ⟨hbad, _⟩ | ⟨_, aL, cL, rfl, hsL⟩
  · exact absurd HX.out hbad
  rw [decide_eq_true h0]
  have HTS := Lib.hid (ts1.keep hb3)
  have HB := Lib.hid (hb2.trans (hb3.mono hb2.size))
  have hszw := HB.out.size
  obtain ⟨l, hl⟩ : ∃ l, l = xs.map TxV.text := ⟨_, rfl⟩
  have HNEW : Hid (∀ X, Below w2.heap.size w2 X → Calls Try.prog 13 #[.slice a0 xs.length cap0] X (GivesAu X (paths l) l)) := Lib.hid fun X hX => by
    have := snew_any X xs a0 cap0 (HTS.out.keep hX) (by omega) (by omega)
    rwa [← hl] at this
  have HLN : Hid (xs.length = l.length) := Lib.hid (by rw [hl]; simp)
  have HL40 : Hid (∀ x ∈ l, x.length ≤ 40) := Lib.hid fun x h => by
    rw [hl] at h
    obtain ⟨y, hy, rfl⟩ := List.mem_map.1 h
    exact HX.out y hy
  rw [← hl] at hsL htot hn
  have HSL := Lib.hid hsL
  have HPT : Hid (∀ X, Below w2.heap.size w2 X → Calls Try.prog 19 #[.slice aL xs.length cL] X (GivesSs X (paths l))) := Lib.hid fun X hX => by
    have := paths_any X l aL cL (HSL.out.keep hX) (by rw [← HLN.out]; omega) (by omega)
    rwa [← HLN.out] at this
  have hps : (paths l).length ≤ 481 := by have := paths_len l; omega
  have HW := Lib.hid (paths_wf l)
  have HPM := Lib.hid (paths_mem l)
  have HLS := Lib.hid (paths_sub l)
  clear HX HX' HAW hb2 hb3 ts1 hsL hts hl
  go_wp2_with fail
  refine (HNEW.out w2 (Below.refl _ _)).mono ?_
  rintro e5 w5 ⟨t, rfl, _, hA, b5⟩
  go_wp2_with fail
  refine (HPT.out w5 b5).mono ?_
  rintro e7 w6 ⟨aP, cP, rfl, hsP, b7⟩
  have HST := Lib.hid (states_any w6 t (paths l) l (hA.keep b7))
  have hpp : (((paths l).length : Int) != ((paths l).length : Int)) = false := by simp
  go_wp2_with fail
  refine HST.out.mono ?_
  rintro e8 w8 ⟨rfl, rfl⟩
  go_wp2_with fail
  refine (Met.new_any w6).mono ?_
  rintro e9 w7 ⟨rfl, hw7⟩
  have b8 : Below w6.heap.size w6 w7 := by rw [hw7]; exact below_new _ _
  have c7 : Met.Cnt w7 w6.heap.size 0 0 0 0 := by rw [hw7]; exact cnt_new w6
  have HC7 := Lib.hid c7
  clear hw7 hpp HST
  have B6 : Below w2.heap.size w2 w6 := b5.trans (b7.mono b5.size)
  have HWB : Hid (Below w2.heap.size w2 w7) := Lib.hid (B6.trans (b8.mono B6.size))
  have HA7 := Lib.hid ((hA.keep b7).keep b8)
  have HS7 := Lib.hid (hsP.keep b8)
  have hgw : w.heap.size ≤ w6.heap.size := Nat.le_trans hszw B6.size
  have HBW7 : Hid (Below w.heap.size w w7) := Lib.hid (HB.out.trans (HWB.out.mono hszw))
  have HP40 : Hid (∀ p ∈ paths l, p.length ≤ 40) := Lib.hid fun p hp => path_short HL40.out hp
  clear hA hsP b5 b7 b8 c7 B6 HNEW HTS HSL HPT HWB HB HPM HLS HL40 HLN
  generalize w6.heap.size = g at *
  generalize paths l = ps at *
  have HOUT := Lib.hid (Step_out w7 t ps l HA7.out (some ⟨g, 0, none⟩) n (c.toNat : Int) hn)
  have HCN := Lib.hid (Met.counts_some w7 g 0 0 0 0 HC7.out)
  have hz0 : ((0 : Int) == 0) = true := rfl
  have HPD : Hid (pathD ps n = []) := Lib.hid (pathD_none hn)
  have HPA : Hid (∀ X, Below w7.heap.size w7 X → Calls Try.prog 22 #[.pointer (some ⟨t, 0, none⟩), .int .i64 n] X (GivesText X [])) := Lib.hid fun X h => by
    have := spath_any X t ps l (HA7.out.keep h) n
    rwa [HPD.out] at this
  have HN := Lib.hid hn
  clear hn
  by_cases hn1 : n < 0
  · go_wp2_with fail
    refine HOUT.out.mono ?_
    rintro e10 w10 ⟨rfl, rfl⟩
    go_wp2_with fail
    refine HCN.out.mono ?_
    rintro e11 w11 ⟨rfl, hb11⟩
    have HB11 := Lib.hid hb11
    clear hb11
    go_wp2_with fail
    refine (HPA.out w11 HB11.out).mono ?_
    rintro e12 w12 ⟨aq, cq, rfl, _, _, _, hb12⟩
    have HB12 := Lib.hid (HB11.out.trans (hb12.mono HB11.out.size))
    clear hb12
    go_wp2
    go_ret
    exact ⟨rfl, HBW7.out.trans (HB12.out.mono HBW7.out.size)⟩
  · have hn2 : (ps.length : Int) ≤ n := by have := HN.out; omega
    go_wp2_with fail
    refine HOUT.out.mono ?_
    rintro e10 w10 ⟨rfl, rfl⟩
    go_wp2_with fail
    refine HCN.out.mono ?_
    rintro e11 w11 ⟨rfl, hb11⟩
    have HB11 := Lib.hid hb11
    clear hb11
    go_wp2_with fail
    refine (HPA.out w11 HB11.out).mono ?_
    rintro e12 w12 ⟨aq, cq, rfl, _, _, _, hb12⟩
    have HB12 := Lib.hid (HB11.out.trans (hb12.mono HB11.out.size))
    clear hb12
    go_wp2
    go_ret
    exact ⟨rfl, HBW7.out.trans (HB12.out.mono HBW7.out.size)⟩
set_option maxHeartbeats 8000000 in
theorem small (w : World) (xs : List TxV) (a0 : Option Addr) (cap0 : Nat) (hts : Ts w a0 xs) (h0 : xs.length ≤ 12) (hx : ∀ x ∈ xs, x.text.length ≤ 40) (i : Nat) (hi : i < (paths (xs.map TxV.text)).length) (c : UInt8) :
    Calls Try.prog 4 #[.slice a0 xs.length cap0, .int .i64 (i : Int), .int .u8 (c.toNat : Int)] w fun e w' => e = .returned (.bool true) ∧ Below w.heap.size w w' := by
  have hx' : ∀ x ∈ xs, x.text.length ≤ maxLen := fun x h => Nat.le_trans (hx x h) (by unfold maxLen; omega)
  have htot := few_tot h0 hx
  have HX := Lib.hid hx
  have HX' := Lib.hid hx'
  have HAW := Lib.hid (awake_any w)
  clear hx hx'
  go_enter Try.func4, Try.ntmps4
  go_wp2_with fail
  refine HAW.out.mono ?_
  rintro e' w1 ⟨rfl, hb2⟩
  have ts1 := hts.keep hb2
  go_wp2_with fail
  refine (ltexts_any xs a0 cap0 w1 ts1 (by omega) HX'.out).mono ?_
  rintro e' w2 ⟨hb3, hcase⟩
  rcases hcase with ⟨hbad, _⟩ | ⟨_, aL, cL, rfl, hsL⟩
  · exact absurd HX.out hbad
  rw [decide_eq_true h0]
  have HTS := Lib.hid (ts1.keep hb3)
  have HB := Lib.hid (hb2.trans (hb3.mono hb2.size))
  have hszw := HB.out.size
  obtain ⟨l, hl⟩ : ∃ l, l = xs.map TxV.text := ⟨_, rfl⟩
  have HNEW : Hid (∀ X, Below w2.heap.size w2 X → Calls Try.prog 13 #[.slice a0 xs.length cap0] X (GivesAu X (paths l) l)) := Lib.hid fun X hX => by
    have := snew_any X xs a0 cap0 (HTS.out.keep hX) (by omega) (by omega)
    rwa [← hl] at this
  have HLN : Hid (xs.length = l.length) := Lib.hid (by rw [hl]; simp)
  have HL40 : Hid (∀ x ∈ l, x.length ≤ 40) := Lib.hid fun x h => by
    rw [hl] at h
    obtain ⟨y, hy, rfl⟩ := List.mem_map.1 h
    exact HX.out y hy
  rw [← hl] at hsL htot hi
  have HSL := Lib.hid hsL
  have HPT : Hid (∀ X, Below w2.heap.size w2 X → Calls Try.prog 19 #[.slice aL xs.length cL] X (GivesSs X (paths l))) := Lib.hid fun X hX => by
    have := paths_any X l aL cL (HSL.out.keep hX) (by rw [← HLN.out]; omega) (by omega)
    rwa [← HLN.out] at this
  have hps : (paths l).length ≤ 481 := by have := paths_len l; omega
  have HW := Lib.hid (paths_wf l)
  have HPM := Lib.hid (paths_mem l)
  have HLS := Lib.hid (paths_sub l)
  clear HX HX' HAW hb2 hb3 ts1 hsL hts hl
  go_wp2_with fail
  refine (HNEW.out w2 (Below.refl _ _)).mono ?_
  rintro e5 w5 ⟨t, rfl, _, hA, b5⟩
  go_wp2_with fail
  refine (HPT.out w5 b5).mono ?_
  rintro e7 w6 ⟨aP, cP, rfl, hsP, b7⟩
  have HST := Lib.hid (states_any w6 t (paths l) l (hA.keep b7))
  have hpp : (((paths l).length : Int) != ((paths l).length : Int)) = false := by simp
  go_wp2_with fail
  refine HST.out.mono ?_
  rintro e8 w8 ⟨rfl, rfl⟩
  go_wp2_with fail
  refine (Met.new_any w6).mono ?_
  rintro e9 w7 ⟨rfl, hw7⟩
  have b8 : Below w6.heap.size w6 w7 := by rw [hw7]; exact below_new _ _
  have c7 : Met.Cnt w7 w6.heap.size 0 0 0 0 := by rw [hw7]; exact cnt_new w6
  have HC7 := Lib.hid c7
  clear hw7 hpp HST
  have B6 : Below w2.heap.size w2 w6 := b5.trans (b7.mono b5.size)
  have HWB : Hid (Below w2.heap.size w2 w7) := Lib.hid (B6.trans (b8.mono B6.size))
  have HA7 := Lib.hid ((hA.keep b7).keep b8)
  have HS7 := Lib.hid (hsP.keep b8)
  have hgw : w.heap.size ≤ w6.heap.size := Nat.le_trans hszw B6.size
  have HBW7 : Hid (Below w.heap.size w w7) := Lib.hid (HB.out.trans (HWB.out.mono hszw))
  have HP40 : Hid (∀ p ∈ paths l, p.length ≤ 40) := Lib.hid fun p hp => path_short HL40.out hp
  clear hA hsP b5 b7 b8 c7 B6 HNEW HTS HSL HPT HWB HB HPM HLS HL40 HLN
  generalize w6.heap.size = g at *
  generalize paths l = ps at *
  have hil : (i : Int) < (ps.length : Int) := by omega
  have hni1 : ¬ (i : Int) < 0 := by omega
  have hni2 : ¬ (ps.length : Int) ≤ (i : Int) := by omega
  have HPI := Lib.hid (place_at HW.out.nodup hi)
  have HMI : Hid (ps[i] ∈ ps) := Lib.hid (List.getElem_mem hi)
  have hq40 := HP40.out _ HMI.out
  obtain ⟨bP, oP, eP, hbP, hcP⟩ := HS7.out (by omega)
  have hcell := hcP i hi
  clear hcP
  subst eP
  have HRS := Lib.hid (rstep_any w7 ps HW.out (some ⟨bP, oP, none⟩) cP HS7.out (by omega) ps[i] (by omega) c)
  have hsn : stepN ps c ps[i] ≤ 100 := by have := step_bound HW.out c _ ps[i] (Nat.le_refl _); omega
  go_wp2_with fail
  refine HRS.out.mono ?_
  rintro e10 w10 ⟨rfl, hb10⟩
  have HB10 := Lib.hid hb10
  clear hb10
  have HSI : Hid (Calls Try.prog 21 #[.pointer (some ⟨t, 0, none⟩), .pointer (some ⟨g, 0, none⟩), .int .i64 (i : Int), .int .u8 (c.toNat : Int)] w10 (Met.Adds w10 (some ⟨g, 0, none⟩) 0 (0 + (stepN ps c ps[i] : Int)) 0 0 (.int .i64 (place ps (Spa.stepT ps c ps[i]))))) := Lib.hid (by
    have := Step_in w10 t ps l (HA7.out.keep HB10.out) (some ⟨g, 0, none⟩) ps[i] HMI.out c 0 0 0 0 (.inr ⟨g, rfl, HC7.out.same (HB10.out.block _ HC7.out.lt)⟩) (by omega) (by omega) (by omega) (by omega)
    rwa [HPI.out] at this)
  go_wp2_with fail
  refine HSI.out.mono ?_
  rintro e11 W ⟨rfl, hM, hg⟩
  have hM10 : Met.Mt w10 (some ⟨g, 0, none⟩) 0 0 0 0 := .inr ⟨g, rfl, HC7.out.same (HB10.out.block _ HC7.out.lt)⟩
  have HAW : Hid (∀ X, Below W.heap.size W X → Au X t ps l) := Lib.hid fun X h => ((HA7.out.keep HB10.out).adds hg hM10).keep h
  have hsW : Ss W (some ⟨bP, oP, none⟩) ps := ss_grown (HS7.out.keep HB10.out) hg (Mt.cnt hM10)
  have HSW : Hid (∀ X, Below W.heap.size W X → Ss X (some ⟨bP, oP, none⟩) ps) := Lib.hid fun X h => hsW.keep h
  have hcn := Mt.cnt hM
  rw [Int.zero_add] at hcn
  have HBW := Lib.hid (Below.refl W.heap.size W)
  have HFIN : Hid (∀ X, Below W.heap.size W X → Below w.heap.size w X) := Lib.hid fun X h => by
    have b1 := grown_below (HBW7.out.trans (HB10.out.mono HBW7.out.size)) hg hgw
    exact b1.trans (h.mono b1.size)
  have HCNT : Hid (∀ X, Below W.heap.size W X → Calls Try.prog 17 #[.pointer (some ⟨g, 0, none⟩)] X fun e w' => e = .returned (.agg #[.int .i64 0, .int .i64 (stepN ps c ps[i] : Int), .int .i64 0, .int .i64 0]) ∧ Below X.heap.size X w') := Lib.hid fun X h => Met.counts_some X _ _ _ _ _ (hcn.same (h.block _ hcn.lt))
  have HPATH : Hid (∀ X, Below W.heap.size W X → Calls Try.prog 22 #[.pointer (some ⟨t, 0, none⟩), .int .i64 (i : Int)] X (GivesText X ps[i])) := Lib.hid fun X h => by
    have := spath_any X t ps l (HAW.out X h) (i : Int)
    rwa [pathD_at hi] at this
  have HPLACE : Hid (∀ X, Below W.heap.size W X → Calls Try.prog 24 #[.slice (some ⟨bP, oP, none⟩) ps.length cP, .string (str (Spa.stepT ps c ps[i]))] X fun e w' => e = .returned (.int .i64 (place ps (Spa.stepT ps c ps[i]))) ∧ X = w') := Lib.hid fun X h => place_any X ps _ cP (HSW.out X h) (by omega) _
  have HFREE : Hid (∀ X, Below W.heap.size W X → Calls Try.prog 21 #[.pointer (some ⟨t, 0, none⟩), .pointer none, .int .i64 (i : Int), .int .u8 (c.toNat : Int)] X fun e w' => e = .returned (.int .i64 (place ps (Spa.stepT ps c ps[i]))) ∧ Below X.heap.size X w') := Lib.hid fun X h => by
    have := step_free X t ps l (HAW.out X h) ps[i] HMI.out c
    rwa [HPI.out] at this
  have HLD : Hid (∀ X, Below W.heap.size W X → X.cell? ⟨bP, oP + i, none⟩ = some (.string (str ps[i]))) := Lib.hid fun X h => by
    obtain ⟨b', o', e', _, hc'⟩ := HSW.out X h (by omega)
    cases e'
    exact hc' i hi
  have hne : ((str ps[i]).toList == (str ps[i]).toList) = true := by simp
  clear HRS HSI hM hM10 hg hcn hsW HAW HSW HC7 HA7 HB10 HBW7 HS7 hcell HPI HMI hsn
  generalize stepN ps c ps[i] = sn at *
  generalize place ps (Spa.stepT ps c ps[i]) = z at *
  generalize Spa.stepT ps c ps[i] = y at *
  generalize ps[i] = q at *
  go_wp2
  refine wp_region_held_drew (S := fun w' => Below W.drew.heap.size W.drew w') (by kernel_rfl) (Below.refl _ _) (fun hH0 => ?_)
  have B0 := Lib.hid (below_drews HBW.out 1)
  change Hid (Below _ _ W.drew) at B0
  generalize W.drew = x0 at *
  refine held_take (i := 0) (d := 78) (oi := _) (v := ?_) rfl rfl (by kernel_rfl) (by kernel_rfl) (by kernel_rfl) (fun _ _ _ h => h) (Or.inl ⟨by rfl, ?_⟩) (by assumption) ?_
  rotate_left
  · (intro w hSw; clear hSw; go_simp; (try with_reducible rfl))
  simp only [Act.put, List.setIfInBounds_toArray, List.set_cons_zero, List.set_cons_succ]
  refine held_take (i := 1) (d := 79) (oi := _) (v := ?_) rfl rfl (by kernel_rfl) (by kernel_rfl) (by kernel_rfl) (fun _ _ _ h => h) (Or.inl ⟨by rfl, ?_⟩) (by assumption) ?_
  rotate_left
  · (intro w hSw; clear hSw; go_simp; (try with_reducible rfl))
  simp only [Act.put, List.setIfInBounds_toArray, List.set_cons_zero, List.set_cons_succ]
  refine held_take (i := 4) (d := 82) (oi := _) (v := ?_) rfl rfl (by kernel_rfl) (by kernel_rfl) (by kernel_rfl) (fun _ _ _ h => h) (Or.inl ⟨by rfl, ?_⟩) (by assumption) ?_
  rotate_left
  · (intro w hSw; clear hSw; go_simp; (try with_reducible rfl))
  simp only [Act.put, List.setIfInBounds_toArray, List.set_cons_zero, List.set_cons_succ]
  refine held_take (i := 5) (d := 83) (oi := _) (v := ?_) rfl rfl (by kernel_rfl) (by kernel_rfl) (by kernel_rfl) (fun _ _ _ h => h) (Or.inl ⟨by rfl, ?_⟩) (by assumption) ?_
  rotate_left
  · (intro w hSw; clear hSw; go_simp; (try with_reducible rfl))
  simp only [Act.put, List.setIfInBounds_toArray, List.set_cons_zero, List.set_cons_succ]
  refine held_take (i := 6) (d := 84) (oi := _) (v := ?_) rfl rfl (by kernel_rfl) (by kernel_rfl) (by kernel_rfl) (fun _ _ _ h => h) (Or.inl ⟨by rfl, ?_⟩) (by assumption) ?_
  rotate_left
  · (intro w hSw; clear hSw; go_simp; (try with_reducible rfl))
  simp only [Act.put, List.setIfInBounds_toArray, List.set_cons_zero, List.set_cons_succ]
  refine held_take (i := 7) (d := 85) (oi := _) (v := ?_) rfl rfl (by kernel_rfl) (by kernel_rfl) (by kernel_rfl) (fun _ _ _ h => h) (Or.inl ⟨by rfl, ?_⟩) (by assumption) ?_
  rotate_left
  · (intro w hSw; have hld := HLD.out w (B0.out.trans (hSw.mono B0.out.size)); clear hSw; go_simp; (try with_reducible rfl))
  simp only [Act.put, List.setIfInBounds_toArray, List.set_cons_zero, List.set_cons_succ]
  refine wpAnyH_ready (rs := [2]) (by kernel_rfl) (by simp) ?_
  refine AllReadyH.cons rfl (fun K hK => ?_) AllReadyH.nil
  go_simp
  go_wp2_with (go_at_call 22; (with_reducible refine (HPATH.out _ B0.out).mono ?_); rintro e x1 ⟨aT1, cT1, rfl, htx, _, _, hb⟩)
  have T1 := Lib.hid (fun (w' : World) (h : Below x1.heap.size x1 w') => str_of_bs cT1 (htx.bs.keep h))
  clear htx
  refine hK.out _ _ hb (fun _ => ?_)
  have B1 := Lib.hid (B0.out.trans (hb.mono B0.out.size))
  refine wpAnyH_more (S' := fun w' => Below x1.heap.size x1 w') (fun w' h => hb.trans (h.mono hb.size)) _ _ _ _ ?_
  have hH1 : Below x1.heap.size x1 x1 := Below.refl _ _
  clear hK K hH0 hb B0
  refine held_take (i := 3) (d := 81) (oi := _) (v := ?_) rfl rfl (by kernel_rfl) (by kernel_rfl) (by kernel_rfl) (fun _ _ _ h => h) (Or.inl ⟨by rfl, ?_⟩) (by assumption) ?_
  rotate_left
  · (intro w hSw; have hcvw := T1.out w hSw; clear hSw; go_simp; (try with_reducible rfl))
  simp only [Act.put, List.setIfInBounds_toArray, List.set_cons_zero, List.set_cons_succ]
  clear T1
  refine held_take (i := 8) (d := 86) (oi := _) (v := ?_) rfl rfl (by kernel_rfl) (by kernel_rfl) (by kernel_rfl) (fun _ _ _ h => h) (Or.inl ⟨by rfl, ?_⟩) (by assumption) ?_
  rotate_left
  · (intro w hSw; clear hSw; go_simp; (try with_reducible rfl))
  simp only [Act.put, List.setIfInBounds_toArray, List.set_cons_zero, List.set_cons_succ]
  refine held_take (i := 9) (d := 87) (oi := _) (v := ?_) rfl rfl (by kernel_rfl) (by kernel_rfl) (by kernel_rfl) (fun _ _ _ h => h) (Or.inl ⟨by rfl, ?_⟩) (by assumption) ?_
  rotate_left
  · (intro w hSw; clear hSw; go_simp; (try with_reducible rfl))
  simp only [Act.put, List.setIfInBounds_toArray, List.set_cons_zero, List.set_cons_succ]
  refine held_take (i := 10) (d := 88) (oi := _) (v := ?_) rfl rfl (by kernel_rfl) (by kernel_rfl) (by kernel_rfl) (fun _ _ _ h => h) (Or.inl ⟨by rfl, ?_⟩) (by assumption) ?_
  rotate_left
  · (intro w hSw; clear hSw; go_simp; (try with_reducible rfl))
  simp only [Act.put, List.setIfInBounds_toArray, List.set_cons_zero, List.set_cons_succ]
  refine held_take (i := 11) (d := 89) (oi := _) (v := ?_) rfl rfl (by kernel_rfl) (by kernel_rfl) (by kernel_rfl) (fun _ _ _ h => h) (Or.inl ⟨by rfl, ?_⟩) (by assumption) ?_
  rotate_left
  · (intro w hSw; clear hSw; go_simp; (try with_reducible rfl))
  simp only [Act.put, List.setIfInBounds_toArray, List.set_cons_zero, List.set_cons_succ]
  refine held_take (i := 12) (d := 90) (oi := _) (v := ?_) rfl rfl (by kernel_rfl) (by kernel_rfl) (by kernel_rfl) (fun _ _ _ h => h) (Or.inl ⟨by rfl, ?_⟩) (by assumption) ?_
  rotate_left
  · (intro w hSw; clear hSw; go_simp; (try with_reducible rfl))
  simp only [Act.put, List.setIfInBounds_toArray, List.set_cons_zero, List.set_cons_succ]
  refine wpAnyH_ready (rs := [13]) (by kernel_rfl) (by simp) ?_
  refine AllReadyH.cons rfl (fun K hK => ?_) AllReadyH.nil
  go_simp
  go_wp2_with (go_at_call 24; (with_reducible refine (HPLACE.out _ B1.out).mono ?_); rintro e x' ⟨rfl, rfl⟩)
  refine hK.out _ _ hH1 (fun _ => ?_)
  clear hK K
  refine held_take (i := 14) (d := 92) (oi := _) (v := ?_) rfl rfl (by kernel_rfl) (by kernel_rfl) (by kernel_rfl) (fun _ _ _ h => h) (Or.inl ⟨by rfl, ?_⟩) (by assumption) ?_
  rotate_left
  · (intro w hSw; clear hSw; go_simp; (try with_reducible rfl))
  simp only [Act.put, List.setIfInBounds_toArray, List.set_cons_zero, List.set_cons_succ]
  refine held_take (i := 15) (d := 93) (oi := _) (v := ?_) rfl rfl (by kernel_rfl) (by kernel_rfl) (by kernel_rfl) (fun _ _ _ h => h) (Or.inl ⟨by rfl, ?_⟩) (by assumption) ?_
  rotate_left
  · (intro w hSw; clear hSw; go_simp; (try with_reducible rfl))
  simp only [Act.put, List.setIfInBounds_toArray, List.set_cons_zero, List.set_cons_succ]
  refine held_take (i := 16) (d := 94) (oi := _) (v := ?_) rfl rfl (by kernel_rfl) (by kernel_rfl) (by kernel_rfl) (fun _ _ _ h => h) (Or.inl ⟨by rfl, ?_⟩) (by assumption) ?_
  rotate_left
  · (intro w hSw; clear hSw; go_simp; (try with_reducible rfl))
  simp only [Act.put, List.setIfInBounds_toArray, List.set_cons_zero, List.set_cons_succ]
  refine held_take (i := 17) (d := 95) (oi := _) (v := ?_) rfl rfl (by kernel_rfl) (by kernel_rfl) (by kernel_rfl) (fun _ _ _ h => h) (Or.inl ⟨by rfl, ?_⟩) (by assumption) ?_
  rotate_left
  · (intro w hSw; clear hSw; go_simp; (try with_reducible rfl))
  simp only [Act.put, List.setIfInBounds_toArray, List.set_cons_zero, List.set_cons_succ]
  refine held_take (i := 19) (d := 97) (oi := _) (v := ?_) rfl rfl (by kernel_rfl) (by kernel_rfl) (by kernel_rfl) (fun _ _ _ h => h) (Or.inl ⟨by rfl, ?_⟩) (by assumption) ?_
  rotate_left
  · (intro w hSw; clear hSw; go_simp; (try with_reducible rfl))
  simp only [Act.put, List.setIfInBounds_toArray, List.set_cons_zero, List.set_cons_succ]
  refine held_take (i := 20) (d := 98) (oi := _) (v := ?_) rfl rfl (by kernel_rfl) (by kernel_rfl) (by kernel_rfl) (fun _ _ _ h => h) (Or.inl ⟨by rfl, ?_⟩) (by assumption) ?_
  rotate_left
  · (intro w hSw; clear hSw; go_simp; (try with_reducible rfl))
  simp only [Act.put, List.setIfInBounds_toArray, List.set_cons_zero, List.set_cons_succ]
  refine wpAnyH_ready (rs := [18]) (by kernel_rfl) (by simp) ?_
  refine AllReadyH.cons rfl (fun K hK => ?_) AllReadyH.nil
  go_simp
  go_wp2_with (go_at_call 17; (with_reducible refine (HCNT.out _ B1.out).mono ?_); rintro e x2 ⟨rfl, hb⟩)
  refine hK.out _ _ hb (fun _ => ?_)
  have B2 := Lib.hid (B1.out.trans (hb.mono B1.out.size))
  refine wpAnyH_more (S' := fun w' => Below x2.heap.size x2 w') (fun w' h => hb.trans (h.mono hb.size)) _ _ _ _ ?_
  have hH2 : Below x2.heap.size x2 x2 := Below.refl _ _
  clear hK K hH1 hb B1
  refine held_take (i := 21) (d := 99) (oi := _) (v := ?_) rfl rfl (by kernel_rfl) (by kernel_rfl) (by kernel_rfl) (fun _ _ _ h => h) (Or.inl ⟨by rfl, ?_⟩) (by assumption) ?_
  rotate_left
  · (intro w hSw; clear hSw; go_simp; (try with_reducible rfl))
  simp only [Act.put, List.setIfInBounds_toArray, List.set_cons_zero, List.set_cons_succ]
  refine held_take (i := 22) (d := 100) (oi := _) (v := ?_) rfl rfl (by kernel_rfl) (by kernel_rfl) (by kernel_rfl) (fun _ _ _ h => h) (Or.inl ⟨by rfl, ?_⟩) (by assumption) ?_
  rotate_left
  · (intro w hSw; clear hSw; go_simp; (try with_reducible rfl))
  simp only [Act.put, List.setIfInBounds_toArray, List.set_cons_zero, List.set_cons_succ]
  refine held_take (i := 23) (d := 101) (oi := _) (v := ?_) rfl rfl (by kernel_rfl) (by kernel_rfl) (by kernel_rfl) (fun _ _ _ h => h) (Or.inl ⟨by rfl, ?_⟩) (by assumption) ?_
  rotate_left
  · (intro w hSw; clear hSw; go_simp; (try with_reducible rfl))
  simp only [Act.put, List.setIfInBounds_toArray, List.set_cons_zero, List.set_cons_succ]
  refine held_take (i := 24) (d := 102) (oi := _) (v := ?_) rfl rfl (by kernel_rfl) (by kernel_rfl) (by kernel_rfl) (fun _ _ _ h => h) (Or.inl ⟨by rfl, ?_⟩) (by assumption) ?_
  rotate_left
  · (intro w hSw; clear hSw; go_simp; (try with_reducible rfl))
  simp only [Act.put, List.setIfInBounds_toArray, List.set_cons_zero, List.set_cons_succ]
  refine held_take (i := 25) (d := 103) (oi := _) (v := ?_) rfl rfl (by kernel_rfl) (by kernel_rfl) (by kernel_rfl) (fun _ _ _ h => h) (Or.inl ⟨by rfl, ?_⟩) (by assumption) ?_
  rotate_left
  · (intro w hSw; clear hSw; go_simp; (try with_reducible rfl))
  simp only [Act.put, List.setIfInBounds_toArray, List.set_cons_zero, List.set_cons_succ]
  refine held_take (i := 26) (d := 104) (oi := _) (v := ?_) rfl rfl (by kernel_rfl) (by kernel_rfl) (by kernel_rfl) (fun _ _ _ h => h) (Or.inl ⟨by rfl, ?_⟩) (by assumption) ?_
  rotate_left
  · (intro w hSw; clear hSw; go_simp; (try with_reducible rfl))
  simp only [Act.put, List.setIfInBounds_toArray, List.set_cons_zero, List.set_cons_succ]
  refine held_take (i := 28) (d := 106) (oi := _) (v := ?_) rfl rfl (by kernel_rfl) (by kernel_rfl) (by kernel_rfl) (fun _ _ _ h => h) (Or.inl ⟨by rfl, ?_⟩) (by assumption) ?_
  rotate_left
  · (intro w hSw; clear hSw; go_simp; (try with_reducible rfl))
  simp only [Act.put, List.setIfInBounds_toArray, List.set_cons_zero, List.set_cons_succ]
  refine wpAnyH_ready (rs := [27]) (by kernel_rfl) (by simp) ?_
  refine AllReadyH.cons rfl (fun K hK => ?_) AllReadyH.nil
  go_simp
  go_wp2_with (go_at_call 21; (with_reducible refine (HFREE.out _ B2.out).mono ?_); rintro e x3 ⟨rfl, hb⟩)
  refine hK.out _ _ hb (fun _ => ?_)
  have B3 := Lib.hid (B2.out.trans (hb.mono B2.out.size))
  refine wpAnyH_more (S' := fun w' => Below x3.heap.size x3 w') (fun w' h => hb.trans (h.mono hb.size)) _ _ _ _ ?_
  have hH3 : Below x3.heap.size x3 x3 := Below.refl _ _
  clear hK K hH2 hb B2
  refine held_take (i := 29) (d := 107) (oi := _) (v := ?_) rfl rfl (by kernel_rfl) (by kernel_rfl) (by kernel_rfl) (fun _ _ _ h => h) (Or.inl ⟨by rfl, ?_⟩) (by assumption) ?_
  rotate_left
  · (intro w hSw; clear hSw; go_simp; (try with_reducible rfl))
  simp only [Act.put, List.setIfInBounds_toArray, List.set_cons_zero, List.set_cons_succ]
  refine held_take (i := 30) (d := 108) (oi := _) (v := ?_) rfl rfl (by kernel_rfl) (by kernel_rfl) (by kernel_rfl) (fun _ _ _ h => h) (Or.inl ⟨by rfl, ?_⟩) (by assumption) ?_
  rotate_left
  · (intro w hSw; clear hSw; go_simp; (try with_reducible rfl))
  simp only [Act.put, List.setIfInBounds_toArray, List.set_cons_zero, List.set_cons_succ]
  refine held_take (i := 31) (d := 6) (oi := _) (v := ?_) rfl rfl (by kernel_rfl) (by kernel_rfl) (by kernel_rfl) (fun _ _ _ h => h) (Or.inl ⟨by rfl, ?_⟩) (by assumption) ?_
  rotate_left
  · (intro w hSw; clear hSw; go_simp; (try with_reducible rfl))
  simp only [Act.put, List.setIfInBounds_toArray, List.set_cons_zero, List.set_cons_succ]
  refine wpAnyH_done (by kernel_rfl) ?_ _
  go_wp2
  go_ret
  exact ⟨rfl, HFIN.out _ B3.out⟩
set_option maxHeartbeats 8000000 in
theorem walk (w : World) (xs : List TxV) (a0 : Option Addr) (cap0 : Nat) (hz0 : xs.length ≤ 6000000000000) (hx0 : ∀ x ∈ xs, x.text.length ≤ maxLen) (hts : Ts w a0 xs) (n : Int) (hwf : (Lit.int .i64 n).wf = true) (c : UInt8) :
    Calls Try.prog 4 #[.slice a0 xs.length cap0, .int .i64 n, .int .u8 (c.toNat : Int)] w fun e w' => e = .returned (.bool true) ∧ Below w.heap.size w w' := by
  by_cases hall : xs.length ≤ 12 ∧ (∀ x ∈ xs, x.text.length ≤ 40)
  · by_cases hn : 0 ≤ n ∧ n < ((paths (xs.map TxV.text)).length : Int)
    · obtain ⟨i, rfl⟩ : ∃ i : Nat, n = (i : Int) := ⟨n.toNat, by omega⟩
      exact small w xs a0 cap0 hts hall.1 hall.2 i (by omega) c
    · exact outs w xs a0 cap0 hts hall.1 hall.2 n hwf c hn
  · have HALL := Lib.hid hall
    have HX := Lib.hid hx0
    clear hall hx0
    go_enter Try.func4, Try.ntmps4
    go_wp2_with fail
    refine (awake_any _).mono ?_
    rintro e' w1 ⟨rfl, hb2⟩
    have ts1 := hts.keep hb2
    go_wp2_with fail
    refine (ltexts_any xs a0 cap0 w1 ts1 hz0 HX.out).mono ?_
    rintro e' w2 ⟨hb3, hcase⟩
    have B2 := hb2.trans (hb3.mono hb2.size)
    rcases hcase with ⟨_, rfl⟩ | ⟨hok, aL, cL, rfl, _⟩
    · go_wp2
      go_ret
      exact ⟨rfl, B2⟩
    · have h12 : ¬ xs.length ≤ 12 := fun h => HALL.out ⟨h, hok⟩
      rw [decide_eq_false h12]
      clear HALL hok
      go_wp2
      go_ret
      exact ⟨rfl, B2⟩
end Go.Proofs.Ytkooanahgffjgaa.sparseSteps
