/- The walk of TrieMore. -/
import Derived.Test.YtljnhkpcodecgaaTk
namespace Go.Proofs.Ytljnhkpcodecgaa.trieMore
open Go.Proofs.Ytljnhkpcodecgaa.Tri Go.RowKit Go.Maps
attribute [local go_sem ↓] Go.wp_at_zero Go.wp_at_succ
set_option maxRecDepth 100000 in
set_option maxHeartbeats 8000000 in
/-- Texts that are few and short. -/
theorem small (w : World) (xs : List TxV) (a0 : Option Addr) (cap0 : Nat) (hts : Ts w a0 xs) (hn0 : a0 = none → cap0 = 0) (h0 : xs.length ≤ 12) (hx : ∀ x ∈ xs, x.text.length ≤ 40)
    (ys : List TxV) (a1 : Option Addr) (cap1 : Nat) (htm : Ts w a1 ys) (hn1 : a1 = none → cap1 = 0) (h1 : ys.length ≤ 12) (hy : ∀ x ∈ ys, x.text.length ≤ 40) :
    Calls Try.prog 8 #[.slice a0 xs.length cap0, .slice a1 ys.length cap1] w fun e w' => e = .returned (.bool true) ∧ Below w.heap.size w w' := by
  have hy' : ∀ x ∈ ys, x.text.length ≤ maxLen := fun x h => Nat.le_trans (hy x h) (by unfold maxLen; omega)
  have htoy := few_tot h1 hy
  have HY := Lib.hid hy
  have HY' := Lib.hid hy'
  have HN0 := Lib.hid hn0
  have HN1 := Lib.hid hn1
  clear hy hy' hn0 hn1
  have hx' : ∀ x ∈ xs, x.text.length ≤ maxLen := fun x h => Nat.le_trans (hx x h) (by unfold maxLen; omega)
  have htot := few_tot h0 hx
  have hps := few_len htot
  have hsh : ∀ p ∈ paths (xs.map TxV.text), p.length ≤ 40 := fun p hp => path_short (fun x h => by
    obtain ⟨y, hy, rfl⟩ := List.mem_map.1 h
    exact hx y hy) hp
  have HSH := Lib.hid hsh
  have HX := Lib.hid hx
  have HX' := Lib.hid hx'
  clear hx hx' hsh
  go_enter Try.func8, Try.ntmps8
  go_wp2_with fail
  refine (awake_any _).mono ?_
  rintro e' w1 ⟨rfl, hb2⟩
  have ts1 := hts.keep hb2
  go_wp2_with fail
  refine (ltexts_any xs a0 cap0 w1 ts1 (by omega) HX'.out).mono ?_
  rintro e' w2 ⟨hb3, hcase⟩
  rcases hcase with ⟨hbad, _⟩ | ⟨_, aL, cL, rfl, hsL⟩
  · exact absurd HX.out hbad
  rw [decide_eq_true h0]
  have ts2 := ts1.keep hb3
  have B2 := hb2.trans (hb3.mono hb2.size)
  clear hb2 hb3 ts1 hts
  have tm2 := htm.keep B2
  go_wp2_with fail
  refine (ltexts_any ys a1 cap1 w2 tm2 (by omega) HY'.out).mono ?_
  rintro e' w3 ⟨hb4, hcase⟩
  rcases hcase with ⟨hbad, _⟩ | ⟨_, aM, cM, rfl, _⟩
  · exact absurd HY.out hbad
  rw [decide_eq_true h1]
  have TS := Lib.hid (ts2.keep hb4)
  have TM := Lib.hid (tm2.keep hb4)
  have B3 := Lib.hid (B2.trans (hb4.mono B2.size))
  clear hb4 B2 ts2 tm2 htm hsL
  have h64 : ¬ (9223372036854775807 : Nat) < xs.length + ys.length := by omega
  go_wp2_with (first
    | (at_builtin; (refine app_tsl rfl _ _ rfl w3.heap.size (.slice none 0 0) 0 [] rfl (World.ownsRow_nil _ _ _ _) a0 xs cap0 rfl TS.out HN0.out (by omega) (Nat.le_refl _) ?_); intro v4 w4 hown4 hg4; have HO4 := Lib.hid hown4; have B4 := Lib.hid ((Below.refl _ _).grown hg4 (Nat.le_refl _) (fun k hk => by cases hk)); clear hown4 hg4)
    | (at_builtin; refine app_tsl rfl _ _ rfl w3.heap.size v4 _ _ rfl HO4.out a1 ys cap1 rfl (TM.out.keep B4.out) HN1.out (by omega) B4.out.size ?_; intro v5 w5 hown5 hg5; have HO5 := Lib.hid hown5; have B5 := Lib.hid (B4.out.grown hg5 B4.out.size (fun k hk => own_ge HO4.out hk)); clear hown5 hg5)
    | fail)
  have ho5 : w5.ownsRow w3.heap.size 32 1 v5 (xs ++ ys).length (tvals (xs ++ ys)) := by
    have := HO5.out
    rw [List.nil_append] at this
    have e : 0 + xs.length + ys.length = (xs ++ ys).length := by simp
    rwa [e] at this
  have TS5 := TS.out.keep B5.out
  have TM5 := TM.out.keep B5.out
  obtain ⟨a5, c5, rfl, ts5, _, _⟩ := own_ts ho5 (fun x hx => (List.mem_append.1 hx).elim (TS5.2 x) (TM5.2 x))
  obtain ⟨l, hl⟩ : ∃ l, l = xs.map TxV.text := ⟨_, rfl⟩
  obtain ⟨m, hm⟩ : ∃ m, m = ys.map TxV.text := ⟨_, rfl⟩
  obtain ⟨z, hz⟩ := paths_append l m
  have htz : tot (l ++ m) ≤ 960 := by rw [tot_append, hl, hm]; omega
  have hpz := paths_len (l ++ m)
  have hzl : (xs ++ ys).length ≤ 24 := by rw [List.length_append]; omega
  have BT := build_any w5 xs a0 cap0 TS5 (by omega) (by omega)
  have BS := Lib.hid (fun (X : World) (hX : Below w5.heap.size w5 X) => build_any X (xs ++ ys) a5 c5 (ts5.keep hX) (by omega) (by rw [List.map_append, ← hl, ← hm]; omega))
  rw [List.map_append, ← hl, ← hm, hz] at BS
  rw [← hl] at BT hps HSH
  rw [hz] at hpz
  have HLN : Hid ((l.length : Int) = (xs.length : Int)) := Lib.hid (by rw [hl]; simp)
  have B6 := Lib.hid (B3.out.trans (B5.out.mono B3.out.size))
  clear htot htoy hl hm TM5 TS5 ts5 ho5 HO5 HO4 B4 B5 TS TM B3
  generalize hpp : paths l = ps at *
  clear hpp
  generalize hzz : (xs ++ ys).length = nz at *
  clear hzz
  go_wp2_with (first
    | (go_at_call 11; (with_reducible refine BT.mono ?_); rintro e w6 ⟨t, rfl, htr, hb⟩; have HTT := Lib.hid htr; have B7 := Lib.hid hb; clear htr hb)
    | (go_at_call 11; (with_reducible refine (BS.out _ B7.out).mono ?_); rintro e W0 ⟨u, rfl, htr, hb⟩; have HTU := Lib.hid htr; have B8 := Lib.hid hb; clear htr hb))
  have HB := Lib.hid (B6.out.trans ((B7.out.trans (B8.out.mono B7.out.size)).mono B6.out.size))
  have HT : Hid (∀ X, Below W0.heap.size W0 X → Tr X w5.heap.size t ps l) := Lib.hid fun X hX => (HTT.out.keep B8.out).keep hX
  have HU : Hid (∀ X, Below W0.heap.size W0 X → Tr X w6.heap.size u (ps ++ z) (l ++ m)) := Lib.hid fun X hX => HTU.out.keep hX
  have HW := Lib.hid HTT.out.2.1
  have hpos := HTT.out.2.1.pos
  clear BT BS B6 B7 B8 HTT HTU
  generalize w5.heap.size = s at *
  generalize w6.heap.size = s2 at *
  go_loopw [13] (fun i wr => ∃ k : Nat, k ≤ ps.length ∧ i = .int .i64 k ∧ Below W0.heap.size W0 wr) (fun i _ => ps.length - (intOf i).toNat)
  case atStart => exact ⟨0, Nat.zero_le _, rfl, Below.refl _ _⟩
  case round =>
    obtain ⟨k, hk, rfl, hbel⟩ := hrel
    have HN := Lib.hid (nodes_any wr s t ps l (HT.out _ hbel))
    by_cases hlt : k < ps.length
    · have hkl : (k : Int) < (ps.length : Int) := by omega
      have h40 := HSH.out _ (List.getElem_mem hlt)
      have HPT : Hid (∀ X, Below W0.heap.size W0 X → Calls Try.prog 15 #[.pointer (some ⟨t, 0, none⟩), .int .i64 (k : Int)] X (GivesText X (pathD ps (k : Int)))) := Lib.hid fun X hX => path_any X s t ps l (HT.out _ hX) (k : Int) (by rw [pathD_at hlt]; omega)
      have HPS : Hid (∀ X, Below W0.heap.size W0 X → Calls Try.prog 15 #[.pointer (some ⟨u, 0, none⟩), .int .i64 (k : Int)] X (GivesText X (pathD ps (k : Int)))) := Lib.hid fun X hX => by
        have := path_any X s2 u (ps ++ z) (l ++ m) (HU.out _ hX) (k : Int) (by rw [more_path hlt, pathD_at hlt]; omega)
        rwa [more_path hlt] at this
      have HUT := Lib.hid (fun X (hX : Below W0.heap.size W0 X) => parent_any X s t ps l (HT.out _ hX) (k : Int))
      have HUS : Hid (∀ X, Below W0.heap.size W0 X → Calls Try.prog 17 #[.pointer (some ⟨u, 0, none⟩), .int .i64 (k : Int)] X fun e w' => e = .returned (.int .i64 (upOf ps (k : Int))) ∧ Below X.heap.size X w') := Lib.hid fun X hX => by
        have := parent_any X s2 u (ps ++ z) (l ++ m) (HU.out _ hX) (k : Int)
        rwa [more_up HW.out hlt] at this
      have HWT := Lib.hid (fun X (hX : Below W0.heap.size W0 X) => word_any X s t ps l (HT.out _ hX) (k : Int))
      have HWS := Lib.hid (fun X (hX : Below W0.heap.size W0 X) => word_any X s2 u (ps ++ z) (l ++ m) (HU.out _ hX) (k : Int))
      have hmw := more_word (z := z) (l := l) (m := m) hlt
      have HBE := Lib.hid hbel
      clear hbel
      rw [HLN.out] at hmw
      generalize wordOf ps l (k : Int) = wt at *
      generalize wordOf (ps ++ z) (l ++ m) (k : Int) = ws at *
      generalize upOf ps (k : Int) = up at *
      generalize pathD ps (k : Int) = p at *
      go_wp2_with (first | (go_at_call 13; (with_reducible refine HN.out.mono ?_); rintro e x' ⟨rfl, rfl⟩) | fail)
      rcases hmw with ⟨g1, rfl⟩ | ⟨g1, g2 | ⟨g2, g3⟩⟩
      · have d1 : decide (0 ≤ ws) = true := decide_eq_true g1
        have d2 : decide (ws < 0) = false := decide_eq_false (by omega)
        clear g1
        refine wp_region_held_drew (S := fun w' => Below wr.drew.heap.size wr.drew w') (by kernel_rfl) (Below.refl _ _) (fun hH0 => ?_)
        have B0 := Lib.hid (below_drews HBE.out 1)
        change Hid (Below _ _ wr.drew) at B0
        generalize wr.drew = x0 at *
        refine held_take (i := 0) (d := 49) (oi := _) (v := ?_) rfl rfl (by kernel_rfl) (by kernel_rfl) (by kernel_rfl) (fun _ _ _ h => h) (Or.inl ⟨by rfl, ?_⟩) (by assumption) ?_
        rotate_left
        · (intro w hSw; clear hSw; go_simp; (try with_reducible rfl))
        simp only [Act.put, List.setIfInBounds_toArray, List.set_cons_zero, List.set_cons_succ]
        refine held_take (i := 1) (d := 50) (oi := _) (v := ?_) rfl rfl (by kernel_rfl) (by kernel_rfl) (by kernel_rfl) (fun _ _ _ h => h) (Or.inl ⟨by rfl, ?_⟩) (by assumption) ?_
        rotate_left
        · (intro w hSw; clear hSw; go_simp; (try with_reducible rfl))
        simp only [Act.put, List.setIfInBounds_toArray, List.set_cons_zero, List.set_cons_succ]
        refine held_take (i := 4) (d := 53) (oi := _) (v := ?_) rfl rfl (by kernel_rfl) (by kernel_rfl) (by kernel_rfl) (fun _ _ _ h => h) (Or.inl ⟨by rfl, ?_⟩) (by assumption) ?_
        rotate_left
        · (intro w hSw; clear hSw; go_simp; (try with_reducible rfl))
        simp only [Act.put, List.setIfInBounds_toArray, List.set_cons_zero, List.set_cons_succ]
        refine held_take (i := 5) (d := 54) (oi := _) (v := ?_) rfl rfl (by kernel_rfl) (by kernel_rfl) (by kernel_rfl) (fun _ _ _ h => h) (Or.inl ⟨by rfl, ?_⟩) (by assumption) ?_
        rotate_left
        · (intro w hSw; clear hSw; go_simp; (try with_reducible rfl))
        simp only [Act.put, List.setIfInBounds_toArray, List.set_cons_zero, List.set_cons_succ]
        refine wpAnyH_ready (rs := [2]) (by kernel_rfl) (by simp) ?_
        refine AllReadyH.cons rfl (fun K hK => ?_) AllReadyH.nil
        go_simp
        go_wp2_with (go_at_call 15; (with_reducible refine (HPS.out _ B0.out).mono ?_); rintro e x1 ⟨aV1, cV1, rfl, htx, _, _, hb⟩)
        have V1 := Lib.hid (fun (w' : World) (h : Below x1.heap.size x1 w') => str_of_bs cV1 (htx.bs.keep h))
        clear htx
        refine hK.out _ _ hb (fun _ => ?_)
        have B1 := Lib.hid (B0.out.trans (hb.mono B0.out.size))
        refine wpAnyH_more (S' := fun w' => Below x1.heap.size x1 w') (fun w' h => hb.trans (h.mono hb.size)) _ _ _ _ ?_
        have hH1 : Below x1.heap.size x1 x1 := Below.refl _ _
        clear hK K hH0 hb B0
        refine held_take (i := 3) (d := 52) (oi := _) (v := ?_) rfl rfl (by kernel_rfl) (by kernel_rfl) (by kernel_rfl) (fun _ _ _ h => h) (Or.inl ⟨by rfl, ?_⟩) (by assumption) ?_
        rotate_left
        · (intro w hSw; have hcvw := V1.out w hSw; clear hSw; go_simp; (try with_reducible rfl))
        simp only [Act.put, List.setIfInBounds_toArray, List.set_cons_zero, List.set_cons_succ]
        refine wpAnyH_ready (rs := [6]) (by kernel_rfl) (by simp) ?_
        refine AllReadyH.cons rfl (fun K hK => ?_) AllReadyH.nil
        go_simp
        go_wp2_with (go_at_call 15; (with_reducible refine (HPT.out _ B1.out).mono ?_); rintro e x2 ⟨aV2, cV2, rfl, htx, _, _, hb⟩)
        have V2 := Lib.hid (fun (w' : World) (h : Below x2.heap.size x2 w') => str_of_bs cV2 (htx.bs.keep h))
        clear htx
        refine hK.out _ _ hb (fun _ => ?_)
        have B2 := Lib.hid (B1.out.trans (hb.mono B1.out.size))
        refine wpAnyH_more (S' := fun w' => Below x2.heap.size x2 w') (fun w' h => hb.trans (h.mono hb.size)) _ _ _ _ ?_
        have hH2 : Below x2.heap.size x2 x2 := Below.refl _ _
        clear hK K hH1 hb B1
        refine held_take (i := 7) (d := 56) (oi := _) (v := ?_) rfl rfl (by kernel_rfl) (by kernel_rfl) (by kernel_rfl) (fun _ _ _ h => h) (Or.inl ⟨by rfl, ?_⟩) (by assumption) ?_
        rotate_left
        · (intro w hSw; have hcvw := V2.out w hSw; clear hSw; go_simp; (try with_reducible rfl))
        simp only [Act.put, List.setIfInBounds_toArray, List.set_cons_zero, List.set_cons_succ]
        refine held_take (i := 8) (d := 57) (oi := _) (v := ?_) rfl rfl (by kernel_rfl) (by kernel_rfl) (by kernel_rfl) (fun _ _ _ h => h) (Or.inl ⟨by rfl, ?_⟩) (by assumption) ?_
        rotate_left
        · (intro w hSw; clear hSw; go_simp; (try with_reducible rfl))
        simp only [Act.put, List.setIfInBounds_toArray, List.set_cons_zero, List.set_cons_succ]
        refine held_take (i := 9) (d := 58) (oi := _) (v := ?_) rfl rfl (by kernel_rfl) (by kernel_rfl) (by kernel_rfl) (fun _ _ _ h => h) (Or.inl ⟨by rfl, ?_⟩) (by assumption) ?_
        rotate_left
        · (intro w hSw; clear hSw; go_simp; (try with_reducible rfl))
        simp only [Act.put, List.setIfInBounds_toArray, List.set_cons_zero, List.set_cons_succ]
        refine held_take (i := 10) (d := 59) (oi := _) (v := ?_) rfl rfl (by kernel_rfl) (by kernel_rfl) (by kernel_rfl) (fun _ _ _ h => h) (Or.inl ⟨by rfl, ?_⟩) (by assumption) ?_
        rotate_left
        · (intro w hSw; clear hSw; go_simp; (try with_reducible rfl))
        simp only [Act.put, List.setIfInBounds_toArray, List.set_cons_zero, List.set_cons_succ]
        refine held_take (i := 11) (d := 60) (oi := _) (v := ?_) rfl rfl (by kernel_rfl) (by kernel_rfl) (by kernel_rfl) (fun _ _ _ h => h) (Or.inl ⟨by rfl, ?_⟩) (by assumption) ?_
        rotate_left
        · (intro w hSw; clear hSw; go_simp; (try with_reducible rfl))
        simp only [Act.put, List.setIfInBounds_toArray, List.set_cons_zero, List.set_cons_succ]
        refine held_take (i := 13) (d := 62) (oi := _) (v := ?_) rfl rfl (by kernel_rfl) (by kernel_rfl) (by kernel_rfl) (fun _ _ _ h => h) (Or.inl ⟨by rfl, ?_⟩) (by assumption) ?_
        rotate_left
        · (intro w hSw; clear hSw; go_simp; (try with_reducible rfl))
        simp only [Act.put, List.setIfInBounds_toArray, List.set_cons_zero, List.set_cons_succ]
        refine held_take (i := 14) (d := 63) (oi := _) (v := ?_) rfl rfl (by kernel_rfl) (by kernel_rfl) (by kernel_rfl) (fun _ _ _ h => h) (Or.inl ⟨by rfl, ?_⟩) (by assumption) ?_
        rotate_left
        · (intro w hSw; clear hSw; go_simp; (try with_reducible rfl))
        simp only [Act.put, List.setIfInBounds_toArray, List.set_cons_zero, List.set_cons_succ]
        refine wpAnyH_ready (rs := [12]) (by kernel_rfl) (by simp) ?_
        refine AllReadyH.cons rfl (fun K hK => ?_) AllReadyH.nil
        go_simp
        go_wp2_with (go_at_call 17; (with_reducible refine (HUS.out _ B2.out).mono ?_); rintro e x3 ⟨rfl, hb⟩)
        refine hK.out _ _ hb (fun _ => ?_)
        have B3 := Lib.hid (B2.out.trans (hb.mono B2.out.size))
        refine wpAnyH_more (S' := fun w' => Below x3.heap.size x3 w') (fun w' h => hb.trans (h.mono hb.size)) _ _ _ _ ?_
        have hH3 : Below x3.heap.size x3 x3 := Below.refl _ _
        clear hK K hH2 hb B2
        refine wpAnyH_ready (rs := [15]) (by kernel_rfl) (by simp) ?_
        refine AllReadyH.cons rfl (fun K hK => ?_) AllReadyH.nil
        go_simp
        go_wp2_with (go_at_call 17; (with_reducible refine (HUT.out _ B3.out).mono ?_); rintro e x4 ⟨rfl, hb⟩)
        refine hK.out _ _ hb (fun _ => ?_)
        have B4 := Lib.hid (B3.out.trans (hb.mono B3.out.size))
        refine wpAnyH_more (S' := fun w' => Below x4.heap.size x4 w') (fun w' h => hb.trans (h.mono hb.size)) _ _ _ _ ?_
        have hH4 : Below x4.heap.size x4 x4 := Below.refl _ _
        clear hK K hH3 hb B3
        refine held_take (i := 16) (d := 65) (oi := _) (v := ?_) rfl rfl (by kernel_rfl) (by kernel_rfl) (by kernel_rfl) (fun _ _ _ h => h) (Or.inl ⟨by rfl, ?_⟩) (by assumption) ?_
        rotate_left
        · (intro w hSw; clear hSw; go_simp; (try with_reducible rfl))
        simp only [Act.put, List.setIfInBounds_toArray, List.set_cons_zero, List.set_cons_succ]
        refine held_take (i := 17) (d := 66) (oi := _) (v := ?_) rfl rfl (by kernel_rfl) (by kernel_rfl) (by kernel_rfl) (fun _ _ _ h => h) (Or.inl ⟨by rfl, ?_⟩) (by assumption) ?_
        rotate_left
        · (intro w hSw; clear hSw; go_simp; (try with_reducible rfl))
        simp only [Act.put, List.setIfInBounds_toArray, List.set_cons_zero, List.set_cons_succ]
        refine held_take (i := 18) (d := 67) (oi := _) (v := ?_) rfl rfl (by kernel_rfl) (by kernel_rfl) (by kernel_rfl) (fun _ _ _ h => h) (Or.inl ⟨by rfl, ?_⟩) (by assumption) ?_
        rotate_left
        · (intro w hSw; clear hSw; go_simp; (try with_reducible rfl))
        simp only [Act.put, List.setIfInBounds_toArray, List.set_cons_zero, List.set_cons_succ]
        refine held_take (i := 19) (d := 68) (oi := _) (v := ?_) rfl rfl (by kernel_rfl) (by kernel_rfl) (by kernel_rfl) (fun _ _ _ h => h) (Or.inl ⟨by rfl, ?_⟩) (by assumption) ?_
        rotate_left
        · (intro w hSw; clear hSw; go_simp; (try with_reducible rfl))
        simp only [Act.put, List.setIfInBounds_toArray, List.set_cons_zero, List.set_cons_succ]
        refine held_take (i := 20) (d := 69) (oi := _) (v := ?_) rfl rfl (by kernel_rfl) (by kernel_rfl) (by kernel_rfl) (fun _ _ _ h => h) (Or.inl ⟨by rfl, ?_⟩) (by assumption) ?_
        rotate_left
        · (intro w hSw; clear hSw; go_simp; (try with_reducible rfl))
        simp only [Act.put, List.setIfInBounds_toArray, List.set_cons_zero, List.set_cons_succ]
        refine wpAnyH_ready (rs := [21]) (by kernel_rfl) (by simp) ?_
        refine AllReadyH.cons rfl (fun K hK => ?_) AllReadyH.nil
        go_simp
        go_wp2_with (go_at_call 18; (with_reducible refine (HWT.out _ B4.out).mono ?_); rintro e x5 ⟨rfl, hb⟩)
        refine hK.out _ _ hb (fun _ => ?_)
        have B5 := Lib.hid (B4.out.trans (hb.mono B4.out.size))
        refine wpAnyH_more (S' := fun w' => Below x5.heap.size x5 w') (fun w' h => hb.trans (h.mono hb.size)) _ _ _ _ ?_
        have hH5 : Below x5.heap.size x5 x5 := Below.refl _ _
        clear hK K hH4 hb B4
        refine held_take (i := 22) (d := 71) (oi := _) (v := ?_) rfl rfl (by kernel_rfl) (by kernel_rfl) (by kernel_rfl) (fun _ _ _ h => h) (Or.inl ⟨by rfl, ?_⟩) (by assumption) ?_
        rotate_left
        · (intro w hSw; clear hSw; go_simp; (try with_reducible rfl))
        simp only [Act.put, List.setIfInBounds_toArray, List.set_cons_zero, List.set_cons_succ]
        refine held_take (i := 23) (d := 72) (oi := _) (v := ?_) rfl rfl (by kernel_rfl) (by kernel_rfl) (by kernel_rfl) (fun _ _ _ h => h) (Or.inl ⟨by rfl, ?_⟩) (by assumption) ?_
        rotate_left
        · (intro w hSw; clear hSw; go_simp; (try with_reducible rfl))
        simp only [Act.put, List.setIfInBounds_toArray, List.set_cons_zero, List.set_cons_succ]
        refine held_take (i := 24) (d := 73) (oi := _) (v := ?_) rfl rfl (by kernel_rfl) (by kernel_rfl) (by kernel_rfl) (fun _ _ _ h => h) (Or.inl ⟨by rfl, ?_⟩) (by assumption) ?_
        rotate_left
        · (intro w hSw; clear hSw; go_simp; (try with_reducible rfl))
        simp only [Act.put, List.setIfInBounds_toArray, List.set_cons_zero, List.set_cons_succ]
        refine held_take (i := 25) (d := 74) (oi := _) (v := ?_) rfl rfl (by kernel_rfl) (by kernel_rfl) (by kernel_rfl) (fun _ _ _ h => h) (Or.inl ⟨by rfl, ?_⟩) (by assumption) ?_
        rotate_left
        · (intro w hSw; clear hSw; go_simp; (try with_reducible rfl))
        simp only [Act.put, List.setIfInBounds_toArray, List.set_cons_zero, List.set_cons_succ]
        refine held_take (i := 27) (d := 76) (oi := _) (v := ?_) rfl rfl (by kernel_rfl) (by kernel_rfl) (by kernel_rfl) (fun _ _ _ h => h) (Or.inl ⟨by rfl, ?_⟩) (by assumption) ?_
        rotate_left
        · (intro w hSw; clear hSw; go_simp; (try with_reducible rfl))
        simp only [Act.put, List.setIfInBounds_toArray, List.set_cons_zero, List.set_cons_succ]
        refine held_take (i := 28) (d := 77) (oi := _) (v := ?_) rfl rfl (by kernel_rfl) (by kernel_rfl) (by kernel_rfl) (fun _ _ _ h => h) (Or.inl ⟨by rfl, ?_⟩) (by assumption) ?_
        rotate_left
        · (intro w hSw; clear hSw; go_simp; (try with_reducible rfl))
        simp only [Act.put, List.setIfInBounds_toArray, List.set_cons_zero, List.set_cons_succ]
        refine wpAnyH_ready (rs := [26]) (by kernel_rfl) (by simp) ?_
        refine AllReadyH.cons rfl (fun K hK => ?_) AllReadyH.nil
        go_simp
        go_wp2_with (go_at_call 18; (with_reducible refine (HWS.out _ B5.out).mono ?_); rintro e x6 ⟨rfl, hb⟩)
        refine hK.out _ _ hb (fun _ => ?_)
        have B6 := Lib.hid (B5.out.trans (hb.mono B5.out.size))
        refine wpAnyH_more (S' := fun w' => Below x6.heap.size x6 w') (fun w' h => hb.trans (h.mono hb.size)) _ _ _ _ ?_
        have hH6 : Below x6.heap.size x6 x6 := Below.refl _ _
        clear hK K hH5 hb B5
        refine wpAnyH_ready (rs := [29]) (by kernel_rfl) (by simp) ?_
        refine AllReadyH.cons rfl (fun K hK => ?_) AllReadyH.nil
        go_simp
        go_wp2_with (go_at_call 18; (with_reducible refine (HWT.out _ B6.out).mono ?_); rintro e x7 ⟨rfl, hb⟩)
        refine hK.out _ _ hb (fun _ => ?_)
        have B7 := Lib.hid (B6.out.trans (hb.mono B6.out.size))
        refine wpAnyH_more (S' := fun w' => Below x7.heap.size x7 w') (fun w' h => hb.trans (h.mono hb.size)) _ _ _ _ ?_
        have hH7 : Below x7.heap.size x7 x7 := Below.refl _ _
        clear hK K hH6 hb B6
        refine held_take (i := 30) (d := 79) (oi := _) (v := ?_) rfl rfl (by kernel_rfl) (by kernel_rfl) (by kernel_rfl) (fun _ _ _ h => h) (Or.inl ⟨by rfl, ?_⟩) (by assumption) ?_
        rotate_left
        · (intro w hSw; clear hSw; go_simp; (try with_reducible rfl))
        simp only [Act.put, List.setIfInBounds_toArray, List.set_cons_zero, List.set_cons_succ]
        refine held_take (i := 31) (d := 80) (oi := _) (v := ?_) rfl rfl (by kernel_rfl) (by kernel_rfl) (by kernel_rfl) (fun _ _ _ h => h) (Or.inl ⟨by rfl, ?_⟩) (by assumption) ?_
        rotate_left
        · (intro w hSw; clear hSw; go_simp; (try with_reducible rfl))
        simp only [Act.put, List.setIfInBounds_toArray, List.set_cons_zero, List.set_cons_succ]
        refine held_take (i := 32) (d := 81) (oi := _) (v := ?_) rfl rfl (by kernel_rfl) (by kernel_rfl) (by kernel_rfl) (fun _ _ _ h => h) (Or.inl ⟨by rfl, ?_⟩) (by assumption) ?_
        rotate_left
        · (intro w hSw; clear hSw; go_simp; (try with_reducible rfl))
        simp only [Act.put, List.setIfInBounds_toArray, List.set_cons_zero, List.set_cons_succ]
        refine held_take (i := 33) (d := 82) (oi := _) (v := ?_) rfl rfl (by kernel_rfl) (by kernel_rfl) (by kernel_rfl) (fun _ _ _ h => h) (Or.inl ⟨by rfl, ?_⟩) (by assumption) ?_
        rotate_left
        · (intro w hSw; clear hSw; go_simp; (try with_reducible rfl))
        simp only [Act.put, List.setIfInBounds_toArray, List.set_cons_zero, List.set_cons_succ]
        refine held_take (i := 34) (d := 83) (oi := _) (v := ?_) rfl rfl (by kernel_rfl) (by kernel_rfl) (by kernel_rfl) (fun _ _ _ h => h) (Or.inl ⟨by rfl, ?_⟩) (by assumption) ?_
        rotate_left
        · (intro w hSw; clear hSw; go_simp; (try with_reducible rfl))
        simp only [Act.put, List.setIfInBounds_toArray, List.set_cons_zero, List.set_cons_succ]
        refine held_take (i := 35) (d := 84) (oi := _) (v := ?_) rfl rfl (by kernel_rfl) (by kernel_rfl) (by kernel_rfl) (fun _ _ _ h => h) (Or.inl ⟨by rfl, ?_⟩) (by assumption) ?_
        rotate_left
        · (intro w hSw; clear hSw; go_simp; (try with_reducible rfl))
        simp only [Act.put, List.setIfInBounds_toArray, List.set_cons_zero, List.set_cons_succ]
        refine wpAnyH_ready (rs := [36]) (by kernel_rfl) (by simp) ?_
        refine AllReadyH.cons rfl (fun K hK => ?_) AllReadyH.nil
        go_simp
        go_wp2_with (go_at_call 18; (with_reducible refine (HWT.out _ B7.out).mono ?_); rintro e x8 ⟨rfl, hb⟩)
        refine hK.out _ _ hb (fun _ => ?_)
        have B8 := Lib.hid (B7.out.trans (hb.mono B7.out.size))
        refine wpAnyH_more (S' := fun w' => Below x8.heap.size x8 w') (fun w' h => hb.trans (h.mono hb.size)) _ _ _ _ ?_
        have hH8 : Below x8.heap.size x8 x8 := Below.refl _ _
        clear hK K hH7 hb B7
        refine held_take (i := 37) (d := 86) (oi := _) (v := ?_) rfl rfl (by kernel_rfl) (by kernel_rfl) (by kernel_rfl) (fun _ _ _ h => h) (Or.inl ⟨by rfl, ?_⟩) (by assumption) ?_
        rotate_left
        · (intro w hSw; clear hSw; go_simp; (try with_reducible rfl))
        simp only [Act.put, List.setIfInBounds_toArray, List.set_cons_zero, List.set_cons_succ]
        refine held_take (i := 38) (d := 87) (oi := _) (v := ?_) rfl rfl (by kernel_rfl) (by kernel_rfl) (by kernel_rfl) (fun _ _ _ h => h) (Or.inl ⟨by rfl, ?_⟩) (by assumption) ?_
        rotate_left
        · (intro w hSw; clear hSw; go_simp; (try with_reducible rfl))
        simp only [Act.put, List.setIfInBounds_toArray, List.set_cons_zero, List.set_cons_succ]
        refine held_take (i := 39) (d := 88) (oi := _) (v := undef) rfl rfl (by kernel_rfl) (by kernel_rfl) (by kernel_rfl) (fun _ _ _ h => h) (Or.inr ⟨by rfl, rfl⟩) (by assumption) ?_
        simp only [Act.put, List.setIfInBounds_toArray, List.set_cons_zero, List.set_cons_succ]
        refine held_take (i := 40) (d := 89) (oi := _) (v := undef) rfl rfl (by kernel_rfl) (by kernel_rfl) (by kernel_rfl) (fun _ _ _ h => h) (Or.inr ⟨by rfl, rfl⟩) (by assumption) ?_
        simp only [Act.put, List.setIfInBounds_toArray, List.set_cons_zero, List.set_cons_succ]
        refine held_take (i := 41) (d := 90) (oi := _) (v := undef) rfl rfl (by kernel_rfl) (by kernel_rfl) (by kernel_rfl) (fun _ _ _ h => h) (Or.inr ⟨by rfl, rfl⟩) (by assumption) ?_
        simp only [Act.put, List.setIfInBounds_toArray, List.set_cons_zero, List.set_cons_succ]
        refine held_take (i := 42) (d := 91) (oi := _) (v := undef) rfl rfl (by kernel_rfl) (by kernel_rfl) (by kernel_rfl) (fun _ _ _ h => h) (Or.inr ⟨by rfl, rfl⟩) (by assumption) ?_
        simp only [Act.put, List.setIfInBounds_toArray, List.set_cons_zero, List.set_cons_succ]
        refine held_take (i := 43) (d := 92) (oi := _) (v := ?_) rfl rfl (by kernel_rfl) (by kernel_rfl) (by kernel_rfl) (fun _ _ _ h => h) (Or.inl ⟨by rfl, ?_⟩) (by assumption) ?_
        rotate_left
        · (intro w hSw; clear hSw; go_simp; (try with_reducible rfl))
        simp only [Act.put, List.setIfInBounds_toArray, List.set_cons_zero, List.set_cons_succ]
        refine held_take (i := 44) (d := 93) (oi := _) (v := ?_) rfl rfl (by kernel_rfl) (by kernel_rfl) (by kernel_rfl) (fun _ _ _ h => h) (Or.inl ⟨by rfl, ?_⟩) (by assumption) ?_
        rotate_left
        · (intro w hSw; clear hSw; go_simp; (try with_reducible rfl))
        simp only [Act.put, List.setIfInBounds_toArray, List.set_cons_zero, List.set_cons_succ]
        refine held_take (i := 45) (d := 94) (oi := _) (v := undef) rfl rfl (by kernel_rfl) (by kernel_rfl) (by kernel_rfl) (fun _ _ _ h => h) (Or.inr ⟨by rfl, rfl⟩) (by assumption) ?_
        simp only [Act.put, List.setIfInBounds_toArray, List.set_cons_zero, List.set_cons_succ]
        refine held_take (i := 46) (d := 95) (oi := _) (v := undef) rfl rfl (by kernel_rfl) (by kernel_rfl) (by kernel_rfl) (fun _ _ _ h => h) (Or.inr ⟨by rfl, rfl⟩) (by assumption) ?_
        simp only [Act.put, List.setIfInBounds_toArray, List.set_cons_zero, List.set_cons_succ]
        refine held_take (i := 47) (d := 96) (oi := _) (v := undef) rfl rfl (by kernel_rfl) (by kernel_rfl) (by kernel_rfl) (fun _ _ _ h => h) (Or.inr ⟨by rfl, rfl⟩) (by assumption) ?_
        simp only [Act.put, List.setIfInBounds_toArray, List.set_cons_zero, List.set_cons_succ]
        refine held_take (i := 48) (d := 97) (oi := _) (v := undef) rfl rfl (by kernel_rfl) (by kernel_rfl) (by kernel_rfl) (fun _ _ _ h => h) (Or.inr ⟨by rfl, rfl⟩) (by assumption) ?_
        simp only [Act.put, List.setIfInBounds_toArray, List.set_cons_zero, List.set_cons_succ]
        refine held_take (i := 49) (d := 98) (oi := _) (v := undef) rfl rfl (by kernel_rfl) (by kernel_rfl) (by kernel_rfl) (fun _ _ _ h => h) (Or.inr ⟨by rfl, rfl⟩) (by assumption) ?_
        simp only [Act.put, List.setIfInBounds_toArray, List.set_cons_zero, List.set_cons_succ]
        refine held_take (i := 50) (d := 99) (oi := _) (v := undef) rfl rfl (by kernel_rfl) (by kernel_rfl) (by kernel_rfl) (fun _ _ _ h => h) (Or.inr ⟨by rfl, rfl⟩) (by assumption) ?_
        simp only [Act.put, List.setIfInBounds_toArray, List.set_cons_zero, List.set_cons_succ]
        refine held_take (i := 51) (d := 100) (oi := _) (v := ?_) rfl rfl (by kernel_rfl) (by kernel_rfl) (by kernel_rfl) (fun _ _ _ h => h) (Or.inl ⟨by rfl, ?_⟩) (by assumption) ?_
        rotate_left
        · (intro w hSw; clear hSw; go_simp; (try with_reducible rfl))
        simp only [Act.put, List.setIfInBounds_toArray, List.set_cons_zero, List.set_cons_succ]
        refine held_take (i := 52) (d := 101) (oi := _) (v := ?_) rfl rfl (by kernel_rfl) (by kernel_rfl) (by kernel_rfl) (fun _ _ _ h => h) (Or.inl ⟨by rfl, ?_⟩) (by assumption) ?_
        rotate_left
        · (intro w hSw; clear hSw; go_simp; (try with_reducible rfl))
        simp only [Act.put, List.setIfInBounds_toArray, List.set_cons_zero, List.set_cons_succ]
        refine wpAnyH_done (by kernel_rfl) ?_ _
        go_wp2
        exact ⟨⟨k + 1, by omega, by go_num, B8.out⟩, by simp [intOf]; omega⟩
      · have d1 : decide (0 ≤ wt) = false := decide_eq_false (by omega)
        have d2 : decide (wt < 0) = true := decide_eq_true g1
        have d3 : decide (0 ≤ ws) = false := decide_eq_false (by omega)
        clear g1 g2
        refine wp_region_held_drew (S := fun w' => Below wr.drew.heap.size wr.drew w') (by kernel_rfl) (Below.refl _ _) (fun hH0 => ?_)
        have B0 := Lib.hid (below_drews HBE.out 1)
        change Hid (Below _ _ wr.drew) at B0
        generalize wr.drew = x0 at *
        refine held_take (i := 0) (d := 49) (oi := _) (v := ?_) rfl rfl (by kernel_rfl) (by kernel_rfl) (by kernel_rfl) (fun _ _ _ h => h) (Or.inl ⟨by rfl, ?_⟩) (by assumption) ?_
        rotate_left
        · (intro w hSw; clear hSw; go_simp; (try with_reducible rfl))
        simp only [Act.put, List.setIfInBounds_toArray, List.set_cons_zero, List.set_cons_succ]
        refine held_take (i := 1) (d := 50) (oi := _) (v := ?_) rfl rfl (by kernel_rfl) (by kernel_rfl) (by kernel_rfl) (fun _ _ _ h => h) (Or.inl ⟨by rfl, ?_⟩) (by assumption) ?_
        rotate_left
        · (intro w hSw; clear hSw; go_simp; (try with_reducible rfl))
        simp only [Act.put, List.setIfInBounds_toArray, List.set_cons_zero, List.set_cons_succ]
        refine held_take (i := 4) (d := 53) (oi := _) (v := ?_) rfl rfl (by kernel_rfl) (by kernel_rfl) (by kernel_rfl) (fun _ _ _ h => h) (Or.inl ⟨by rfl, ?_⟩) (by assumption) ?_
        rotate_left
        · (intro w hSw; clear hSw; go_simp; (try with_reducible rfl))
        simp only [Act.put, List.setIfInBounds_toArray, List.set_cons_zero, List.set_cons_succ]
        refine held_take (i := 5) (d := 54) (oi := _) (v := ?_) rfl rfl (by kernel_rfl) (by kernel_rfl) (by kernel_rfl) (fun _ _ _ h => h) (Or.inl ⟨by rfl, ?_⟩) (by assumption) ?_
        rotate_left
        · (intro w hSw; clear hSw; go_simp; (try with_reducible rfl))
        simp only [Act.put, List.setIfInBounds_toArray, List.set_cons_zero, List.set_cons_succ]
        refine wpAnyH_ready (rs := [2]) (by kernel_rfl) (by simp) ?_
        refine AllReadyH.cons rfl (fun K hK => ?_) AllReadyH.nil
        go_simp
        go_wp2_with (go_at_call 15; (with_reducible refine (HPS.out _ B0.out).mono ?_); rintro e x1 ⟨aV1, cV1, rfl, htx, _, _, hb⟩)
        have V1 := Lib.hid (fun (w' : World) (h : Below x1.heap.size x1 w') => str_of_bs cV1 (htx.bs.keep h))
        clear htx
        refine hK.out _ _ hb (fun _ => ?_)
        have B1 := Lib.hid (B0.out.trans (hb.mono B0.out.size))
        refine wpAnyH_more (S' := fun w' => Below x1.heap.size x1 w') (fun w' h => hb.trans (h.mono hb.size)) _ _ _ _ ?_
        have hH1 : Below x1.heap.size x1 x1 := Below.refl _ _
        clear hK K hH0 hb B0
        refine held_take (i := 3) (d := 52) (oi := _) (v := ?_) rfl rfl (by kernel_rfl) (by kernel_rfl) (by kernel_rfl) (fun _ _ _ h => h) (Or.inl ⟨by rfl, ?_⟩) (by assumption) ?_
        rotate_left
        · (intro w hSw; have hcvw := V1.out w hSw; clear hSw; go_simp; (try with_reducible rfl))
        simp only [Act.put, List.setIfInBounds_toArray, List.set_cons_zero, List.set_cons_succ]
        refine wpAnyH_ready (rs := [6]) (by kernel_rfl) (by simp) ?_
        refine AllReadyH.cons rfl (fun K hK => ?_) AllReadyH.nil
        go_simp
        go_wp2_with (go_at_call 15; (with_reducible refine (HPT.out _ B1.out).mono ?_); rintro e x2 ⟨aV2, cV2, rfl, htx, _, _, hb⟩)
        have V2 := Lib.hid (fun (w' : World) (h : Below x2.heap.size x2 w') => str_of_bs cV2 (htx.bs.keep h))
        clear htx
        refine hK.out _ _ hb (fun _ => ?_)
        have B2 := Lib.hid (B1.out.trans (hb.mono B1.out.size))
        refine wpAnyH_more (S' := fun w' => Below x2.heap.size x2 w') (fun w' h => hb.trans (h.mono hb.size)) _ _ _ _ ?_
        have hH2 : Below x2.heap.size x2 x2 := Below.refl _ _
        clear hK K hH1 hb B1
        refine held_take (i := 7) (d := 56) (oi := _) (v := ?_) rfl rfl (by kernel_rfl) (by kernel_rfl) (by kernel_rfl) (fun _ _ _ h => h) (Or.inl ⟨by rfl, ?_⟩) (by assumption) ?_
        rotate_left
        · (intro w hSw; have hcvw := V2.out w hSw; clear hSw; go_simp; (try with_reducible rfl))
        simp only [Act.put, List.setIfInBounds_toArray, List.set_cons_zero, List.set_cons_succ]
        refine held_take (i := 8) (d := 57) (oi := _) (v := ?_) rfl rfl (by kernel_rfl) (by kernel_rfl) (by kernel_rfl) (fun _ _ _ h => h) (Or.inl ⟨by rfl, ?_⟩) (by assumption) ?_
        rotate_left
        · (intro w hSw; clear hSw; go_simp; (try with_reducible rfl))
        simp only [Act.put, List.setIfInBounds_toArray, List.set_cons_zero, List.set_cons_succ]
        refine held_take (i := 9) (d := 58) (oi := _) (v := ?_) rfl rfl (by kernel_rfl) (by kernel_rfl) (by kernel_rfl) (fun _ _ _ h => h) (Or.inl ⟨by rfl, ?_⟩) (by assumption) ?_
        rotate_left
        · (intro w hSw; clear hSw; go_simp; (try with_reducible rfl))
        simp only [Act.put, List.setIfInBounds_toArray, List.set_cons_zero, List.set_cons_succ]
        refine held_take (i := 10) (d := 59) (oi := _) (v := ?_) rfl rfl (by kernel_rfl) (by kernel_rfl) (by kernel_rfl) (fun _ _ _ h => h) (Or.inl ⟨by rfl, ?_⟩) (by assumption) ?_
        rotate_left
        · (intro w hSw; clear hSw; go_simp; (try with_reducible rfl))
        simp only [Act.put, List.setIfInBounds_toArray, List.set_cons_zero, List.set_cons_succ]
        refine held_take (i := 11) (d := 60) (oi := _) (v := ?_) rfl rfl (by kernel_rfl) (by kernel_rfl) (by kernel_rfl) (fun _ _ _ h => h) (Or.inl ⟨by rfl, ?_⟩) (by assumption) ?_
        rotate_left
        · (intro w hSw; clear hSw; go_simp; (try with_reducible rfl))
        simp only [Act.put, List.setIfInBounds_toArray, List.set_cons_zero, List.set_cons_succ]
        refine held_take (i := 13) (d := 62) (oi := _) (v := ?_) rfl rfl (by kernel_rfl) (by kernel_rfl) (by kernel_rfl) (fun _ _ _ h => h) (Or.inl ⟨by rfl, ?_⟩) (by assumption) ?_
        rotate_left
        · (intro w hSw; clear hSw; go_simp; (try with_reducible rfl))
        simp only [Act.put, List.setIfInBounds_toArray, List.set_cons_zero, List.set_cons_succ]
        refine held_take (i := 14) (d := 63) (oi := _) (v := ?_) rfl rfl (by kernel_rfl) (by kernel_rfl) (by kernel_rfl) (fun _ _ _ h => h) (Or.inl ⟨by rfl, ?_⟩) (by assumption) ?_
        rotate_left
        · (intro w hSw; clear hSw; go_simp; (try with_reducible rfl))
        simp only [Act.put, List.setIfInBounds_toArray, List.set_cons_zero, List.set_cons_succ]
        refine wpAnyH_ready (rs := [12]) (by kernel_rfl) (by simp) ?_
        refine AllReadyH.cons rfl (fun K hK => ?_) AllReadyH.nil
        go_simp
        go_wp2_with (go_at_call 17; (with_reducible refine (HUS.out _ B2.out).mono ?_); rintro e x3 ⟨rfl, hb⟩)
        refine hK.out _ _ hb (fun _ => ?_)
        have B3 := Lib.hid (B2.out.trans (hb.mono B2.out.size))
        refine wpAnyH_more (S' := fun w' => Below x3.heap.size x3 w') (fun w' h => hb.trans (h.mono hb.size)) _ _ _ _ ?_
        have hH3 : Below x3.heap.size x3 x3 := Below.refl _ _
        clear hK K hH2 hb B2
        refine wpAnyH_ready (rs := [15]) (by kernel_rfl) (by simp) ?_
        refine AllReadyH.cons rfl (fun K hK => ?_) AllReadyH.nil
        go_simp
        go_wp2_with (go_at_call 17; (with_reducible refine (HUT.out _ B3.out).mono ?_); rintro e x4 ⟨rfl, hb⟩)
        refine hK.out _ _ hb (fun _ => ?_)
        have B4 := Lib.hid (B3.out.trans (hb.mono B3.out.size))
        refine wpAnyH_more (S' := fun w' => Below x4.heap.size x4 w') (fun w' h => hb.trans (h.mono hb.size)) _ _ _ _ ?_
        have hH4 : Below x4.heap.size x4 x4 := Below.refl _ _
        clear hK K hH3 hb B3
        refine held_take (i := 16) (d := 65) (oi := _) (v := ?_) rfl rfl (by kernel_rfl) (by kernel_rfl) (by kernel_rfl) (fun _ _ _ h => h) (Or.inl ⟨by rfl, ?_⟩) (by assumption) ?_
        rotate_left
        · (intro w hSw; clear hSw; go_simp; (try with_reducible rfl))
        simp only [Act.put, List.setIfInBounds_toArray, List.set_cons_zero, List.set_cons_succ]
        refine held_take (i := 17) (d := 66) (oi := _) (v := ?_) rfl rfl (by kernel_rfl) (by kernel_rfl) (by kernel_rfl) (fun _ _ _ h => h) (Or.inl ⟨by rfl, ?_⟩) (by assumption) ?_
        rotate_left
        · (intro w hSw; clear hSw; go_simp; (try with_reducible rfl))
        simp only [Act.put, List.setIfInBounds_toArray, List.set_cons_zero, List.set_cons_succ]
        refine held_take (i := 18) (d := 67) (oi := _) (v := ?_) rfl rfl (by kernel_rfl) (by kernel_rfl) (by kernel_rfl) (fun _ _ _ h => h) (Or.inl ⟨by rfl, ?_⟩) (by assumption) ?_
        rotate_left
        · (intro w hSw; clear hSw; go_simp; (try with_reducible rfl))
        simp only [Act.put, List.setIfInBounds_toArray, List.set_cons_zero, List.set_cons_succ]
        refine held_take (i := 19) (d := 68) (oi := _) (v := ?_) rfl rfl (by kernel_rfl) (by kernel_rfl) (by kernel_rfl) (fun _ _ _ h => h) (Or.inl ⟨by rfl, ?_⟩) (by assumption) ?_
        rotate_left
        · (intro w hSw; clear hSw; go_simp; (try with_reducible rfl))
        simp only [Act.put, List.setIfInBounds_toArray, List.set_cons_zero, List.set_cons_succ]
        refine held_take (i := 20) (d := 69) (oi := _) (v := ?_) rfl rfl (by kernel_rfl) (by kernel_rfl) (by kernel_rfl) (fun _ _ _ h => h) (Or.inl ⟨by rfl, ?_⟩) (by assumption) ?_
        rotate_left
        · (intro w hSw; clear hSw; go_simp; (try with_reducible rfl))
        simp only [Act.put, List.setIfInBounds_toArray, List.set_cons_zero, List.set_cons_succ]
        refine wpAnyH_ready (rs := [21]) (by kernel_rfl) (by simp) ?_
        refine AllReadyH.cons rfl (fun K hK => ?_) AllReadyH.nil
        go_simp
        go_wp2_with (go_at_call 18; (with_reducible refine (HWT.out _ B4.out).mono ?_); rintro e x5 ⟨rfl, hb⟩)
        refine hK.out _ _ hb (fun _ => ?_)
        have B5 := Lib.hid (B4.out.trans (hb.mono B4.out.size))
        refine wpAnyH_more (S' := fun w' => Below x5.heap.size x5 w') (fun w' h => hb.trans (h.mono hb.size)) _ _ _ _ ?_
        have hH5 : Below x5.heap.size x5 x5 := Below.refl _ _
        clear hK K hH4 hb B4
        refine held_take (i := 22) (d := 71) (oi := _) (v := ?_) rfl rfl (by kernel_rfl) (by kernel_rfl) (by kernel_rfl) (fun _ _ _ h => h) (Or.inl ⟨by rfl, ?_⟩) (by assumption) ?_
        rotate_left
        · (intro w hSw; clear hSw; go_simp; (try with_reducible rfl))
        simp only [Act.put, List.setIfInBounds_toArray, List.set_cons_zero, List.set_cons_succ]
        refine held_take (i := 23) (d := 72) (oi := _) (v := ?_) rfl rfl (by kernel_rfl) (by kernel_rfl) (by kernel_rfl) (fun _ _ _ h => h) (Or.inl ⟨by rfl, ?_⟩) (by assumption) ?_
        rotate_left
        · (intro w hSw; clear hSw; go_simp; (try with_reducible rfl))
        simp only [Act.put, List.setIfInBounds_toArray, List.set_cons_zero, List.set_cons_succ]
        refine held_take (i := 24) (d := 73) (oi := _) (v := undef) rfl rfl (by kernel_rfl) (by kernel_rfl) (by kernel_rfl) (fun _ _ _ h => h) (Or.inr ⟨by rfl, rfl⟩) (by assumption) ?_
        simp only [Act.put, List.setIfInBounds_toArray, List.set_cons_zero, List.set_cons_succ]
        refine held_take (i := 25) (d := 74) (oi := _) (v := undef) rfl rfl (by kernel_rfl) (by kernel_rfl) (by kernel_rfl) (fun _ _ _ h => h) (Or.inr ⟨by rfl, rfl⟩) (by assumption) ?_
        simp only [Act.put, List.setIfInBounds_toArray, List.set_cons_zero, List.set_cons_succ]
        refine held_take (i := 26) (d := 75) (oi := _) (v := undef) rfl rfl (by kernel_rfl) (by kernel_rfl) (by kernel_rfl) (fun _ _ _ h => h) (Or.inr ⟨by rfl, rfl⟩) (by assumption) ?_
        simp only [Act.put, List.setIfInBounds_toArray, List.set_cons_zero, List.set_cons_succ]
        refine held_take (i := 27) (d := 76) (oi := _) (v := undef) rfl rfl (by kernel_rfl) (by kernel_rfl) (by kernel_rfl) (fun _ _ _ h => h) (Or.inr ⟨by rfl, rfl⟩) (by assumption) ?_
        simp only [Act.put, List.setIfInBounds_toArray, List.set_cons_zero, List.set_cons_succ]
        refine held_take (i := 28) (d := 77) (oi := _) (v := undef) rfl rfl (by kernel_rfl) (by kernel_rfl) (by kernel_rfl) (fun _ _ _ h => h) (Or.inr ⟨by rfl, rfl⟩) (by assumption) ?_
        simp only [Act.put, List.setIfInBounds_toArray, List.set_cons_zero, List.set_cons_succ]
        refine held_take (i := 29) (d := 78) (oi := _) (v := undef) rfl rfl (by kernel_rfl) (by kernel_rfl) (by kernel_rfl) (fun _ _ _ h => h) (Or.inr ⟨by rfl, rfl⟩) (by assumption) ?_
        simp only [Act.put, List.setIfInBounds_toArray, List.set_cons_zero, List.set_cons_succ]
        refine held_take (i := 30) (d := 79) (oi := _) (v := undef) rfl rfl (by kernel_rfl) (by kernel_rfl) (by kernel_rfl) (fun _ _ _ h => h) (Or.inr ⟨by rfl, rfl⟩) (by assumption) ?_
        simp only [Act.put, List.setIfInBounds_toArray, List.set_cons_zero, List.set_cons_succ]
        refine held_take (i := 31) (d := 80) (oi := _) (v := ?_) rfl rfl (by kernel_rfl) (by kernel_rfl) (by kernel_rfl) (fun _ _ _ h => h) (Or.inl ⟨by rfl, ?_⟩) (by assumption) ?_
        rotate_left
        · (intro w hSw; clear hSw; go_simp; (try with_reducible rfl))
        simp only [Act.put, List.setIfInBounds_toArray, List.set_cons_zero, List.set_cons_succ]
        refine held_take (i := 32) (d := 81) (oi := _) (v := ?_) rfl rfl (by kernel_rfl) (by kernel_rfl) (by kernel_rfl) (fun _ _ _ h => h) (Or.inl ⟨by rfl, ?_⟩) (by assumption) ?_
        rotate_left
        · (intro w hSw; clear hSw; go_simp; (try with_reducible rfl))
        simp only [Act.put, List.setIfInBounds_toArray, List.set_cons_zero, List.set_cons_succ]
        refine held_take (i := 33) (d := 82) (oi := _) (v := ?_) rfl rfl (by kernel_rfl) (by kernel_rfl) (by kernel_rfl) (fun _ _ _ h => h) (Or.inl ⟨by rfl, ?_⟩) (by assumption) ?_
        rotate_left
        · (intro w hSw; clear hSw; go_simp; (try with_reducible rfl))
        simp only [Act.put, List.setIfInBounds_toArray, List.set_cons_zero, List.set_cons_succ]
        refine held_take (i := 34) (d := 83) (oi := _) (v := ?_) rfl rfl (by kernel_rfl) (by kernel_rfl) (by kernel_rfl) (fun _ _ _ h => h) (Or.inl ⟨by rfl, ?_⟩) (by assumption) ?_
        rotate_left
        · (intro w hSw; clear hSw; go_simp; (try with_reducible rfl))
        simp only [Act.put, List.setIfInBounds_toArray, List.set_cons_zero, List.set_cons_succ]
        refine held_take (i := 35) (d := 84) (oi := _) (v := ?_) rfl rfl (by kernel_rfl) (by kernel_rfl) (by kernel_rfl) (fun _ _ _ h => h) (Or.inl ⟨by rfl, ?_⟩) (by assumption) ?_
        rotate_left
        · (intro w hSw; clear hSw; go_simp; (try with_reducible rfl))
        simp only [Act.put, List.setIfInBounds_toArray, List.set_cons_zero, List.set_cons_succ]
        refine wpAnyH_ready (rs := [36]) (by kernel_rfl) (by simp) ?_
        refine AllReadyH.cons rfl (fun K hK => ?_) AllReadyH.nil
        go_simp
        go_wp2_with (go_at_call 18; (with_reducible refine (HWT.out _ B5.out).mono ?_); rintro e x6 ⟨rfl, hb⟩)
        refine hK.out _ _ hb (fun _ => ?_)
        have B6 := Lib.hid (B5.out.trans (hb.mono B5.out.size))
        refine wpAnyH_more (S' := fun w' => Below x6.heap.size x6 w') (fun w' h => hb.trans (h.mono hb.size)) _ _ _ _ ?_
        have hH6 : Below x6.heap.size x6 x6 := Below.refl _ _
        clear hK K hH5 hb B5
        refine held_take (i := 37) (d := 86) (oi := _) (v := ?_) rfl rfl (by kernel_rfl) (by kernel_rfl) (by kernel_rfl) (fun _ _ _ h => h) (Or.inl ⟨by rfl, ?_⟩) (by assumption) ?_
        rotate_left
        · (intro w hSw; clear hSw; go_simp; (try with_reducible rfl))
        simp only [Act.put, List.setIfInBounds_toArray, List.set_cons_zero, List.set_cons_succ]
        refine held_take (i := 38) (d := 87) (oi := _) (v := ?_) rfl rfl (by kernel_rfl) (by kernel_rfl) (by kernel_rfl) (fun _ _ _ h => h) (Or.inl ⟨by rfl, ?_⟩) (by assumption) ?_
        rotate_left
        · (intro w hSw; clear hSw; go_simp; (try with_reducible rfl))
        simp only [Act.put, List.setIfInBounds_toArray, List.set_cons_zero, List.set_cons_succ]
        refine held_take (i := 39) (d := 88) (oi := _) (v := ?_) rfl rfl (by kernel_rfl) (by kernel_rfl) (by kernel_rfl) (fun _ _ _ h => h) (Or.inl ⟨by rfl, ?_⟩) (by assumption) ?_
        rotate_left
        · (intro w hSw; clear hSw; go_simp; (try with_reducible rfl))
        simp only [Act.put, List.setIfInBounds_toArray, List.set_cons_zero, List.set_cons_succ]
        refine held_take (i := 40) (d := 89) (oi := _) (v := ?_) rfl rfl (by kernel_rfl) (by kernel_rfl) (by kernel_rfl) (fun _ _ _ h => h) (Or.inl ⟨by rfl, ?_⟩) (by assumption) ?_
        rotate_left
        · (intro w hSw; clear hSw; go_simp; (try with_reducible rfl))
        simp only [Act.put, List.setIfInBounds_toArray, List.set_cons_zero, List.set_cons_succ]
        refine wpAnyH_ready (rs := [41]) (by kernel_rfl) (by simp) ?_
        refine AllReadyH.cons rfl (fun K hK => ?_) AllReadyH.nil
        go_simp
        go_wp2_with (go_at_call 18; (with_reducible refine (HWS.out _ B6.out).mono ?_); rintro e x7 ⟨rfl, hb⟩)
        refine hK.out _ _ hb (fun _ => ?_)
        have B7 := Lib.hid (B6.out.trans (hb.mono B6.out.size))
        refine wpAnyH_more (S' := fun w' => Below x7.heap.size x7 w') (fun w' h => hb.trans (h.mono hb.size)) _ _ _ _ ?_
        have hH7 : Below x7.heap.size x7 x7 := Below.refl _ _
        clear hK K hH6 hb B6
        refine held_take (i := 42) (d := 91) (oi := _) (v := ?_) rfl rfl (by kernel_rfl) (by kernel_rfl) (by kernel_rfl) (fun _ _ _ h => h) (Or.inl ⟨by rfl, ?_⟩) (by assumption) ?_
        rotate_left
        · (intro w hSw; clear hSw; go_simp; (try with_reducible rfl))
        simp only [Act.put, List.setIfInBounds_toArray, List.set_cons_zero, List.set_cons_succ]
        refine held_take (i := 43) (d := 92) (oi := _) (v := ?_) rfl rfl (by kernel_rfl) (by kernel_rfl) (by kernel_rfl) (fun _ _ _ h => h) (Or.inl ⟨by rfl, ?_⟩) (by assumption) ?_
        rotate_left
        · (intro w hSw; clear hSw; go_simp; (try with_reducible rfl))
        simp only [Act.put, List.setIfInBounds_toArray, List.set_cons_zero, List.set_cons_succ]
        refine held_take (i := 44) (d := 93) (oi := _) (v := ?_) rfl rfl (by kernel_rfl) (by kernel_rfl) (by kernel_rfl) (fun _ _ _ h => h) (Or.inl ⟨by rfl, ?_⟩) (by assumption) ?_
        rotate_left
        · (intro w hSw; clear hSw; go_simp; (try with_reducible rfl))
        simp only [Act.put, List.setIfInBounds_toArray, List.set_cons_zero, List.set_cons_succ]
        refine held_take (i := 45) (d := 94) (oi := _) (v := undef) rfl rfl (by kernel_rfl) (by kernel_rfl) (by kernel_rfl) (fun _ _ _ h => h) (Or.inr ⟨by rfl, rfl⟩) (by assumption) ?_
        simp only [Act.put, List.setIfInBounds_toArray, List.set_cons_zero, List.set_cons_succ]
        refine held_take (i := 46) (d := 95) (oi := _) (v := undef) rfl rfl (by kernel_rfl) (by kernel_rfl) (by kernel_rfl) (fun _ _ _ h => h) (Or.inr ⟨by rfl, rfl⟩) (by assumption) ?_
        simp only [Act.put, List.setIfInBounds_toArray, List.set_cons_zero, List.set_cons_succ]
        refine held_take (i := 47) (d := 96) (oi := _) (v := undef) rfl rfl (by kernel_rfl) (by kernel_rfl) (by kernel_rfl) (fun _ _ _ h => h) (Or.inr ⟨by rfl, rfl⟩) (by assumption) ?_
        simp only [Act.put, List.setIfInBounds_toArray, List.set_cons_zero, List.set_cons_succ]
        refine held_take (i := 48) (d := 97) (oi := _) (v := undef) rfl rfl (by kernel_rfl) (by kernel_rfl) (by kernel_rfl) (fun _ _ _ h => h) (Or.inr ⟨by rfl, rfl⟩) (by assumption) ?_
        simp only [Act.put, List.setIfInBounds_toArray, List.set_cons_zero, List.set_cons_succ]
        refine held_take (i := 49) (d := 98) (oi := _) (v := undef) rfl rfl (by kernel_rfl) (by kernel_rfl) (by kernel_rfl) (fun _ _ _ h => h) (Or.inr ⟨by rfl, rfl⟩) (by assumption) ?_
        simp only [Act.put, List.setIfInBounds_toArray, List.set_cons_zero, List.set_cons_succ]
        refine held_take (i := 50) (d := 99) (oi := _) (v := undef) rfl rfl (by kernel_rfl) (by kernel_rfl) (by kernel_rfl) (fun _ _ _ h => h) (Or.inr ⟨by rfl, rfl⟩) (by assumption) ?_
        simp only [Act.put, List.setIfInBounds_toArray, List.set_cons_zero, List.set_cons_succ]
        refine held_take (i := 51) (d := 100) (oi := _) (v := ?_) rfl rfl (by kernel_rfl) (by kernel_rfl) (by kernel_rfl) (fun _ _ _ h => h) (Or.inl ⟨by rfl, ?_⟩) (by assumption) ?_
        rotate_left
        · (intro w hSw; clear hSw; go_simp; (try with_reducible rfl))
        simp only [Act.put, List.setIfInBounds_toArray, List.set_cons_zero, List.set_cons_succ]
        refine held_take (i := 52) (d := 101) (oi := _) (v := ?_) rfl rfl (by kernel_rfl) (by kernel_rfl) (by kernel_rfl) (fun _ _ _ h => h) (Or.inl ⟨by rfl, ?_⟩) (by assumption) ?_
        rotate_left
        · (intro w hSw; clear hSw; go_simp; (try with_reducible rfl))
        simp only [Act.put, List.setIfInBounds_toArray, List.set_cons_zero, List.set_cons_succ]
        refine wpAnyH_done (by kernel_rfl) ?_ _
        go_wp2
        exact ⟨⟨k + 1, by omega, by go_num, B7.out⟩, by simp [intOf]; omega⟩
      · have d1 : decide (0 ≤ wt) = false := decide_eq_false (by omega)
        have d2 : decide (wt < 0) = true := decide_eq_true g1
        have d3 : decide (0 ≤ ws) = true := decide_eq_true g2
        have d4 : decide (ws < (xs.length : Int)) = false := decide_eq_false (by omega)
        clear g1 g2 g3
        refine wp_region_held_drew (S := fun w' => Below wr.drew.heap.size wr.drew w') (by kernel_rfl) (Below.refl _ _) (fun hH0 => ?_)
        have B0 := Lib.hid (below_drews HBE.out 1)
        change Hid (Below _ _ wr.drew) at B0
        generalize wr.drew = x0 at *
        refine held_take (i := 0) (d := 49) (oi := _) (v := ?_) rfl rfl (by kernel_rfl) (by kernel_rfl) (by kernel_rfl) (fun _ _ _ h => h) (Or.inl ⟨by rfl, ?_⟩) (by assumption) ?_
        rotate_left
        · (intro w hSw; clear hSw; go_simp; (try with_reducible rfl))
        simp only [Act.put, List.setIfInBounds_toArray, List.set_cons_zero, List.set_cons_succ]
        refine held_take (i := 1) (d := 50) (oi := _) (v := ?_) rfl rfl (by kernel_rfl) (by kernel_rfl) (by kernel_rfl) (fun _ _ _ h => h) (Or.inl ⟨by rfl, ?_⟩) (by assumption) ?_
        rotate_left
        · (intro w hSw; clear hSw; go_simp; (try with_reducible rfl))
        simp only [Act.put, List.setIfInBounds_toArray, List.set_cons_zero, List.set_cons_succ]
        refine held_take (i := 4) (d := 53) (oi := _) (v := ?_) rfl rfl (by kernel_rfl) (by kernel_rfl) (by kernel_rfl) (fun _ _ _ h => h) (Or.inl ⟨by rfl, ?_⟩) (by assumption) ?_
        rotate_left
        · (intro w hSw; clear hSw; go_simp; (try with_reducible rfl))
        simp only [Act.put, List.setIfInBounds_toArray, List.set_cons_zero, List.set_cons_succ]
        refine held_take (i := 5) (d := 54) (oi := _) (v := ?_) rfl rfl (by kernel_rfl) (by kernel_rfl) (by kernel_rfl) (fun _ _ _ h => h) (Or.inl ⟨by rfl, ?_⟩) (by assumption) ?_
        rotate_left
        · (intro w hSw; clear hSw; go_simp; (try with_reducible rfl))
        simp only [Act.put, List.setIfInBounds_toArray, List.set_cons_zero, List.set_cons_succ]
        refine wpAnyH_ready (rs := [2]) (by kernel_rfl) (by simp) ?_
        refine AllReadyH.cons rfl (fun K hK => ?_) AllReadyH.nil
        go_simp
        go_wp2_with (go_at_call 15; (with_reducible refine (HPS.out _ B0.out).mono ?_); rintro e x1 ⟨aV1, cV1, rfl, htx, _, _, hb⟩)
        have V1 := Lib.hid (fun (w' : World) (h : Below x1.heap.size x1 w') => str_of_bs cV1 (htx.bs.keep h))
        clear htx
        refine hK.out _ _ hb (fun _ => ?_)
        have B1 := Lib.hid (B0.out.trans (hb.mono B0.out.size))
        refine wpAnyH_more (S' := fun w' => Below x1.heap.size x1 w') (fun w' h => hb.trans (h.mono hb.size)) _ _ _ _ ?_
        have hH1 : Below x1.heap.size x1 x1 := Below.refl _ _
        clear hK K hH0 hb B0
        refine held_take (i := 3) (d := 52) (oi := _) (v := ?_) rfl rfl (by kernel_rfl) (by kernel_rfl) (by kernel_rfl) (fun _ _ _ h => h) (Or.inl ⟨by rfl, ?_⟩) (by assumption) ?_
        rotate_left
        · (intro w hSw; have hcvw := V1.out w hSw; clear hSw; go_simp; (try with_reducible rfl))
        simp only [Act.put, List.setIfInBounds_toArray, List.set_cons_zero, List.set_cons_succ]
        refine wpAnyH_ready (rs := [6]) (by kernel_rfl) (by simp) ?_
        refine AllReadyH.cons rfl (fun K hK => ?_) AllReadyH.nil
        go_simp
        go_wp2_with (go_at_call 15; (with_reducible refine (HPT.out _ B1.out).mono ?_); rintro e x2 ⟨aV2, cV2, rfl, htx, _, _, hb⟩)
        have V2 := Lib.hid (fun (w' : World) (h : Below x2.heap.size x2 w') => str_of_bs cV2 (htx.bs.keep h))
        clear htx
        refine hK.out _ _ hb (fun _ => ?_)
        have B2 := Lib.hid (B1.out.trans (hb.mono B1.out.size))
        refine wpAnyH_more (S' := fun w' => Below x2.heap.size x2 w') (fun w' h => hb.trans (h.mono hb.size)) _ _ _ _ ?_
        have hH2 : Below x2.heap.size x2 x2 := Below.refl _ _
        clear hK K hH1 hb B1
        refine held_take (i := 7) (d := 56) (oi := _) (v := ?_) rfl rfl (by kernel_rfl) (by kernel_rfl) (by kernel_rfl) (fun _ _ _ h => h) (Or.inl ⟨by rfl, ?_⟩) (by assumption) ?_
        rotate_left
        · (intro w hSw; have hcvw := V2.out w hSw; clear hSw; go_simp; (try with_reducible rfl))
        simp only [Act.put, List.setIfInBounds_toArray, List.set_cons_zero, List.set_cons_succ]
        refine held_take (i := 8) (d := 57) (oi := _) (v := ?_) rfl rfl (by kernel_rfl) (by kernel_rfl) (by kernel_rfl) (fun _ _ _ h => h) (Or.inl ⟨by rfl, ?_⟩) (by assumption) ?_
        rotate_left
        · (intro w hSw; clear hSw; go_simp; (try with_reducible rfl))
        simp only [Act.put, List.setIfInBounds_toArray, List.set_cons_zero, List.set_cons_succ]
        refine held_take (i := 9) (d := 58) (oi := _) (v := ?_) rfl rfl (by kernel_rfl) (by kernel_rfl) (by kernel_rfl) (fun _ _ _ h => h) (Or.inl ⟨by rfl, ?_⟩) (by assumption) ?_
        rotate_left
        · (intro w hSw; clear hSw; go_simp; (try with_reducible rfl))
        simp only [Act.put, List.setIfInBounds_toArray, List.set_cons_zero, List.set_cons_succ]
        refine held_take (i := 10) (d := 59) (oi := _) (v := ?_) rfl rfl (by kernel_rfl) (by kernel_rfl) (by kernel_rfl) (fun _ _ _ h => h) (Or.inl ⟨by rfl, ?_⟩) (by assumption) ?_
        rotate_left
        · (intro w hSw; clear hSw; go_simp; (try with_reducible rfl))
        simp only [Act.put, List.setIfInBounds_toArray, List.set_cons_zero, List.set_cons_succ]
        refine held_take (i := 11) (d := 60) (oi := _) (v := ?_) rfl rfl (by kernel_rfl) (by kernel_rfl) (by kernel_rfl) (fun _ _ _ h => h) (Or.inl ⟨by rfl, ?_⟩) (by assumption) ?_
        rotate_left
        · (intro w hSw; clear hSw; go_simp; (try with_reducible rfl))
        simp only [Act.put, List.setIfInBounds_toArray, List.set_cons_zero, List.set_cons_succ]
        refine held_take (i := 13) (d := 62) (oi := _) (v := ?_) rfl rfl (by kernel_rfl) (by kernel_rfl) (by kernel_rfl) (fun _ _ _ h => h) (Or.inl ⟨by rfl, ?_⟩) (by assumption) ?_
        rotate_left
        · (intro w hSw; clear hSw; go_simp; (try with_reducible rfl))
        simp only [Act.put, List.setIfInBounds_toArray, List.set_cons_zero, List.set_cons_succ]
        refine held_take (i := 14) (d := 63) (oi := _) (v := ?_) rfl rfl (by kernel_rfl) (by kernel_rfl) (by kernel_rfl) (fun _ _ _ h => h) (Or.inl ⟨by rfl, ?_⟩) (by assumption) ?_
        rotate_left
        · (intro w hSw; clear hSw; go_simp; (try with_reducible rfl))
        simp only [Act.put, List.setIfInBounds_toArray, List.set_cons_zero, List.set_cons_succ]
        refine wpAnyH_ready (rs := [12]) (by kernel_rfl) (by simp) ?_
        refine AllReadyH.cons rfl (fun K hK => ?_) AllReadyH.nil
        go_simp
        go_wp2_with (go_at_call 17; (with_reducible refine (HUS.out _ B2.out).mono ?_); rintro e x3 ⟨rfl, hb⟩)
        refine hK.out _ _ hb (fun _ => ?_)
        have B3 := Lib.hid (B2.out.trans (hb.mono B2.out.size))
        refine wpAnyH_more (S' := fun w' => Below x3.heap.size x3 w') (fun w' h => hb.trans (h.mono hb.size)) _ _ _ _ ?_
        have hH3 : Below x3.heap.size x3 x3 := Below.refl _ _
        clear hK K hH2 hb B2
        refine wpAnyH_ready (rs := [15]) (by kernel_rfl) (by simp) ?_
        refine AllReadyH.cons rfl (fun K hK => ?_) AllReadyH.nil
        go_simp
        go_wp2_with (go_at_call 17; (with_reducible refine (HUT.out _ B3.out).mono ?_); rintro e x4 ⟨rfl, hb⟩)
        refine hK.out _ _ hb (fun _ => ?_)
        have B4 := Lib.hid (B3.out.trans (hb.mono B3.out.size))
        refine wpAnyH_more (S' := fun w' => Below x4.heap.size x4 w') (fun w' h => hb.trans (h.mono hb.size)) _ _ _ _ ?_
        have hH4 : Below x4.heap.size x4 x4 := Below.refl _ _
        clear hK K hH3 hb B3
        refine held_take (i := 16) (d := 65) (oi := _) (v := ?_) rfl rfl (by kernel_rfl) (by kernel_rfl) (by kernel_rfl) (fun _ _ _ h => h) (Or.inl ⟨by rfl, ?_⟩) (by assumption) ?_
        rotate_left
        · (intro w hSw; clear hSw; go_simp; (try with_reducible rfl))
        simp only [Act.put, List.setIfInBounds_toArray, List.set_cons_zero, List.set_cons_succ]
        refine held_take (i := 17) (d := 66) (oi := _) (v := ?_) rfl rfl (by kernel_rfl) (by kernel_rfl) (by kernel_rfl) (fun _ _ _ h => h) (Or.inl ⟨by rfl, ?_⟩) (by assumption) ?_
        rotate_left
        · (intro w hSw; clear hSw; go_simp; (try with_reducible rfl))
        simp only [Act.put, List.setIfInBounds_toArray, List.set_cons_zero, List.set_cons_succ]
        refine held_take (i := 18) (d := 67) (oi := _) (v := ?_) rfl rfl (by kernel_rfl) (by kernel_rfl) (by kernel_rfl) (fun _ _ _ h => h) (Or.inl ⟨by rfl, ?_⟩) (by assumption) ?_
        rotate_left
        · (intro w hSw; clear hSw; go_simp; (try with_reducible rfl))
        simp only [Act.put, List.setIfInBounds_toArray, List.set_cons_zero, List.set_cons_succ]
        refine held_take (i := 19) (d := 68) (oi := _) (v := ?_) rfl rfl (by kernel_rfl) (by kernel_rfl) (by kernel_rfl) (fun _ _ _ h => h) (Or.inl ⟨by rfl, ?_⟩) (by assumption) ?_
        rotate_left
        · (intro w hSw; clear hSw; go_simp; (try with_reducible rfl))
        simp only [Act.put, List.setIfInBounds_toArray, List.set_cons_zero, List.set_cons_succ]
        refine held_take (i := 20) (d := 69) (oi := _) (v := ?_) rfl rfl (by kernel_rfl) (by kernel_rfl) (by kernel_rfl) (fun _ _ _ h => h) (Or.inl ⟨by rfl, ?_⟩) (by assumption) ?_
        rotate_left
        · (intro w hSw; clear hSw; go_simp; (try with_reducible rfl))
        simp only [Act.put, List.setIfInBounds_toArray, List.set_cons_zero, List.set_cons_succ]
        refine wpAnyH_ready (rs := [21]) (by kernel_rfl) (by simp) ?_
        refine AllReadyH.cons rfl (fun K hK => ?_) AllReadyH.nil
        go_simp
        go_wp2_with (go_at_call 18; (with_reducible refine (HWT.out _ B4.out).mono ?_); rintro e x5 ⟨rfl, hb⟩)
        refine hK.out _ _ hb (fun _ => ?_)
        have B5 := Lib.hid (B4.out.trans (hb.mono B4.out.size))
        refine wpAnyH_more (S' := fun w' => Below x5.heap.size x5 w') (fun w' h => hb.trans (h.mono hb.size)) _ _ _ _ ?_
        have hH5 : Below x5.heap.size x5 x5 := Below.refl _ _
        clear hK K hH4 hb B4
        refine held_take (i := 22) (d := 71) (oi := _) (v := ?_) rfl rfl (by kernel_rfl) (by kernel_rfl) (by kernel_rfl) (fun _ _ _ h => h) (Or.inl ⟨by rfl, ?_⟩) (by assumption) ?_
        rotate_left
        · (intro w hSw; clear hSw; go_simp; (try with_reducible rfl))
        simp only [Act.put, List.setIfInBounds_toArray, List.set_cons_zero, List.set_cons_succ]
        refine held_take (i := 23) (d := 72) (oi := _) (v := ?_) rfl rfl (by kernel_rfl) (by kernel_rfl) (by kernel_rfl) (fun _ _ _ h => h) (Or.inl ⟨by rfl, ?_⟩) (by assumption) ?_
        rotate_left
        · (intro w hSw; clear hSw; go_simp; (try with_reducible rfl))
        simp only [Act.put, List.setIfInBounds_toArray, List.set_cons_zero, List.set_cons_succ]
        refine held_take (i := 24) (d := 73) (oi := _) (v := undef) rfl rfl (by kernel_rfl) (by kernel_rfl) (by kernel_rfl) (fun _ _ _ h => h) (Or.inr ⟨by rfl, rfl⟩) (by assumption) ?_
        simp only [Act.put, List.setIfInBounds_toArray, List.set_cons_zero, List.set_cons_succ]
        refine held_take (i := 25) (d := 74) (oi := _) (v := undef) rfl rfl (by kernel_rfl) (by kernel_rfl) (by kernel_rfl) (fun _ _ _ h => h) (Or.inr ⟨by rfl, rfl⟩) (by assumption) ?_
        simp only [Act.put, List.setIfInBounds_toArray, List.set_cons_zero, List.set_cons_succ]
        refine held_take (i := 26) (d := 75) (oi := _) (v := undef) rfl rfl (by kernel_rfl) (by kernel_rfl) (by kernel_rfl) (fun _ _ _ h => h) (Or.inr ⟨by rfl, rfl⟩) (by assumption) ?_
        simp only [Act.put, List.setIfInBounds_toArray, List.set_cons_zero, List.set_cons_succ]
        refine held_take (i := 27) (d := 76) (oi := _) (v := undef) rfl rfl (by kernel_rfl) (by kernel_rfl) (by kernel_rfl) (fun _ _ _ h => h) (Or.inr ⟨by rfl, rfl⟩) (by assumption) ?_
        simp only [Act.put, List.setIfInBounds_toArray, List.set_cons_zero, List.set_cons_succ]
        refine held_take (i := 28) (d := 77) (oi := _) (v := undef) rfl rfl (by kernel_rfl) (by kernel_rfl) (by kernel_rfl) (fun _ _ _ h => h) (Or.inr ⟨by rfl, rfl⟩) (by assumption) ?_
        simp only [Act.put, List.setIfInBounds_toArray, List.set_cons_zero, List.set_cons_succ]
        refine held_take (i := 29) (d := 78) (oi := _) (v := undef) rfl rfl (by kernel_rfl) (by kernel_rfl) (by kernel_rfl) (fun _ _ _ h => h) (Or.inr ⟨by rfl, rfl⟩) (by assumption) ?_
        simp only [Act.put, List.setIfInBounds_toArray, List.set_cons_zero, List.set_cons_succ]
        refine held_take (i := 30) (d := 79) (oi := _) (v := undef) rfl rfl (by kernel_rfl) (by kernel_rfl) (by kernel_rfl) (fun _ _ _ h => h) (Or.inr ⟨by rfl, rfl⟩) (by assumption) ?_
        simp only [Act.put, List.setIfInBounds_toArray, List.set_cons_zero, List.set_cons_succ]
        refine held_take (i := 31) (d := 80) (oi := _) (v := ?_) rfl rfl (by kernel_rfl) (by kernel_rfl) (by kernel_rfl) (fun _ _ _ h => h) (Or.inl ⟨by rfl, ?_⟩) (by assumption) ?_
        rotate_left
        · (intro w hSw; clear hSw; go_simp; (try with_reducible rfl))
        simp only [Act.put, List.setIfInBounds_toArray, List.set_cons_zero, List.set_cons_succ]
        refine held_take (i := 32) (d := 81) (oi := _) (v := ?_) rfl rfl (by kernel_rfl) (by kernel_rfl) (by kernel_rfl) (fun _ _ _ h => h) (Or.inl ⟨by rfl, ?_⟩) (by assumption) ?_
        rotate_left
        · (intro w hSw; clear hSw; go_simp; (try with_reducible rfl))
        simp only [Act.put, List.setIfInBounds_toArray, List.set_cons_zero, List.set_cons_succ]
        refine held_take (i := 33) (d := 82) (oi := _) (v := ?_) rfl rfl (by kernel_rfl) (by kernel_rfl) (by kernel_rfl) (fun _ _ _ h => h) (Or.inl ⟨by rfl, ?_⟩) (by assumption) ?_
        rotate_left
        · (intro w hSw; clear hSw; go_simp; (try with_reducible rfl))
        simp only [Act.put, List.setIfInBounds_toArray, List.set_cons_zero, List.set_cons_succ]
        refine held_take (i := 34) (d := 83) (oi := _) (v := ?_) rfl rfl (by kernel_rfl) (by kernel_rfl) (by kernel_rfl) (fun _ _ _ h => h) (Or.inl ⟨by rfl, ?_⟩) (by assumption) ?_
        rotate_left
        · (intro w hSw; clear hSw; go_simp; (try with_reducible rfl))
        simp only [Act.put, List.setIfInBounds_toArray, List.set_cons_zero, List.set_cons_succ]
        refine held_take (i := 35) (d := 84) (oi := _) (v := ?_) rfl rfl (by kernel_rfl) (by kernel_rfl) (by kernel_rfl) (fun _ _ _ h => h) (Or.inl ⟨by rfl, ?_⟩) (by assumption) ?_
        rotate_left
        · (intro w hSw; clear hSw; go_simp; (try with_reducible rfl))
        simp only [Act.put, List.setIfInBounds_toArray, List.set_cons_zero, List.set_cons_succ]
        refine wpAnyH_ready (rs := [36]) (by kernel_rfl) (by simp) ?_
        refine AllReadyH.cons rfl (fun K hK => ?_) AllReadyH.nil
        go_simp
        go_wp2_with (go_at_call 18; (with_reducible refine (HWT.out _ B5.out).mono ?_); rintro e x6 ⟨rfl, hb⟩)
        refine hK.out _ _ hb (fun _ => ?_)
        have B6 := Lib.hid (B5.out.trans (hb.mono B5.out.size))
        refine wpAnyH_more (S' := fun w' => Below x6.heap.size x6 w') (fun w' h => hb.trans (h.mono hb.size)) _ _ _ _ ?_
        have hH6 : Below x6.heap.size x6 x6 := Below.refl _ _
        clear hK K hH5 hb B5
        refine held_take (i := 37) (d := 86) (oi := _) (v := ?_) rfl rfl (by kernel_rfl) (by kernel_rfl) (by kernel_rfl) (fun _ _ _ h => h) (Or.inl ⟨by rfl, ?_⟩) (by assumption) ?_
        rotate_left
        · (intro w hSw; clear hSw; go_simp; (try with_reducible rfl))
        simp only [Act.put, List.setIfInBounds_toArray, List.set_cons_zero, List.set_cons_succ]
        refine held_take (i := 38) (d := 87) (oi := _) (v := ?_) rfl rfl (by kernel_rfl) (by kernel_rfl) (by kernel_rfl) (fun _ _ _ h => h) (Or.inl ⟨by rfl, ?_⟩) (by assumption) ?_
        rotate_left
        · (intro w hSw; clear hSw; go_simp; (try with_reducible rfl))
        simp only [Act.put, List.setIfInBounds_toArray, List.set_cons_zero, List.set_cons_succ]
        refine held_take (i := 39) (d := 88) (oi := _) (v := ?_) rfl rfl (by kernel_rfl) (by kernel_rfl) (by kernel_rfl) (fun _ _ _ h => h) (Or.inl ⟨by rfl, ?_⟩) (by assumption) ?_
        rotate_left
        · (intro w hSw; clear hSw; go_simp; (try with_reducible rfl))
        simp only [Act.put, List.setIfInBounds_toArray, List.set_cons_zero, List.set_cons_succ]
        refine held_take (i := 40) (d := 89) (oi := _) (v := ?_) rfl rfl (by kernel_rfl) (by kernel_rfl) (by kernel_rfl) (fun _ _ _ h => h) (Or.inl ⟨by rfl, ?_⟩) (by assumption) ?_
        rotate_left
        · (intro w hSw; clear hSw; go_simp; (try with_reducible rfl))
        simp only [Act.put, List.setIfInBounds_toArray, List.set_cons_zero, List.set_cons_succ]
        refine wpAnyH_ready (rs := [41]) (by kernel_rfl) (by simp) ?_
        refine AllReadyH.cons rfl (fun K hK => ?_) AllReadyH.nil
        go_simp
        go_wp2_with (go_at_call 18; (with_reducible refine (HWS.out _ B6.out).mono ?_); rintro e x7 ⟨rfl, hb⟩)
        refine hK.out _ _ hb (fun _ => ?_)
        have B7 := Lib.hid (B6.out.trans (hb.mono B6.out.size))
        refine wpAnyH_more (S' := fun w' => Below x7.heap.size x7 w') (fun w' h => hb.trans (h.mono hb.size)) _ _ _ _ ?_
        have hH7 : Below x7.heap.size x7 x7 := Below.refl _ _
        clear hK K hH6 hb B6
        refine held_take (i := 42) (d := 91) (oi := _) (v := ?_) rfl rfl (by kernel_rfl) (by kernel_rfl) (by kernel_rfl) (fun _ _ _ h => h) (Or.inl ⟨by rfl, ?_⟩) (by assumption) ?_
        rotate_left
        · (intro w hSw; clear hSw; go_simp; (try with_reducible rfl))
        simp only [Act.put, List.setIfInBounds_toArray, List.set_cons_zero, List.set_cons_succ]
        refine held_take (i := 43) (d := 92) (oi := _) (v := ?_) rfl rfl (by kernel_rfl) (by kernel_rfl) (by kernel_rfl) (fun _ _ _ h => h) (Or.inl ⟨by rfl, ?_⟩) (by assumption) ?_
        rotate_left
        · (intro w hSw; clear hSw; go_simp; (try with_reducible rfl))
        simp only [Act.put, List.setIfInBounds_toArray, List.set_cons_zero, List.set_cons_succ]
        refine held_take (i := 44) (d := 93) (oi := _) (v := ?_) rfl rfl (by kernel_rfl) (by kernel_rfl) (by kernel_rfl) (fun _ _ _ h => h) (Or.inl ⟨by rfl, ?_⟩) (by assumption) ?_
        rotate_left
        · (intro w hSw; clear hSw; go_simp; (try with_reducible rfl))
        simp only [Act.put, List.setIfInBounds_toArray, List.set_cons_zero, List.set_cons_succ]
        refine held_take (i := 45) (d := 94) (oi := _) (v := ?_) rfl rfl (by kernel_rfl) (by kernel_rfl) (by kernel_rfl) (fun _ _ _ h => h) (Or.inl ⟨by rfl, ?_⟩) (by assumption) ?_
        rotate_left
        · (intro w hSw; clear hSw; go_simp; (try with_reducible rfl))
        simp only [Act.put, List.setIfInBounds_toArray, List.set_cons_zero, List.set_cons_succ]
        refine held_take (i := 46) (d := 95) (oi := _) (v := ?_) rfl rfl (by kernel_rfl) (by kernel_rfl) (by kernel_rfl) (fun _ _ _ h => h) (Or.inl ⟨by rfl, ?_⟩) (by assumption) ?_
        rotate_left
        · (intro w hSw; clear hSw; go_simp; (try with_reducible rfl))
        simp only [Act.put, List.setIfInBounds_toArray, List.set_cons_zero, List.set_cons_succ]
        refine held_take (i := 48) (d := 97) (oi := _) (v := ?_) rfl rfl (by kernel_rfl) (by kernel_rfl) (by kernel_rfl) (fun _ _ _ h => h) (Or.inl ⟨by rfl, ?_⟩) (by assumption) ?_
        rotate_left
        · (intro w hSw; clear hSw; go_simp; (try with_reducible rfl))
        simp only [Act.put, List.setIfInBounds_toArray, List.set_cons_zero, List.set_cons_succ]
        refine held_take (i := 49) (d := 98) (oi := _) (v := ?_) rfl rfl (by kernel_rfl) (by kernel_rfl) (by kernel_rfl) (fun _ _ _ h => h) (Or.inl ⟨by rfl, ?_⟩) (by assumption) ?_
        rotate_left
        · (intro w hSw; clear hSw; go_simp; (try with_reducible rfl))
        simp only [Act.put, List.setIfInBounds_toArray, List.set_cons_zero, List.set_cons_succ]
        refine wpAnyH_ready (rs := [47]) (by kernel_rfl) (by simp) ?_
        refine AllReadyH.cons rfl (fun K hK => ?_) AllReadyH.nil
        go_simp
        go_wp2_with (go_at_call 18; (with_reducible refine (HWS.out _ B7.out).mono ?_); rintro e x8 ⟨rfl, hb⟩)
        refine hK.out _ _ hb (fun _ => ?_)
        have B8 := Lib.hid (B7.out.trans (hb.mono B7.out.size))
        refine wpAnyH_more (S' := fun w' => Below x8.heap.size x8 w') (fun w' h => hb.trans (h.mono hb.size)) _ _ _ _ ?_
        have hH8 : Below x8.heap.size x8 x8 := Below.refl _ _
        clear hK K hH7 hb B7
        refine held_take (i := 50) (d := 99) (oi := _) (v := ?_) rfl rfl (by kernel_rfl) (by kernel_rfl) (by kernel_rfl) (fun _ _ _ h => h) (Or.inl ⟨by rfl, ?_⟩) (by assumption) ?_
        rotate_left
        · (intro w hSw; clear hSw; go_simp; (try with_reducible rfl))
        simp only [Act.put, List.setIfInBounds_toArray, List.set_cons_zero, List.set_cons_succ]
        refine held_take (i := 51) (d := 100) (oi := _) (v := ?_) rfl rfl (by kernel_rfl) (by kernel_rfl) (by kernel_rfl) (fun _ _ _ h => h) (Or.inl ⟨by rfl, ?_⟩) (by assumption) ?_
        rotate_left
        · (intro w hSw; clear hSw; go_simp; (try with_reducible rfl))
        simp only [Act.put, List.setIfInBounds_toArray, List.set_cons_zero, List.set_cons_succ]
        refine held_take (i := 52) (d := 101) (oi := _) (v := ?_) rfl rfl (by kernel_rfl) (by kernel_rfl) (by kernel_rfl) (fun _ _ _ h => h) (Or.inl ⟨by rfl, ?_⟩) (by assumption) ?_
        rotate_left
        · (intro w hSw; clear hSw; go_simp; (try with_reducible rfl))
        simp only [Act.put, List.setIfInBounds_toArray, List.set_cons_zero, List.set_cons_succ]
        refine wpAnyH_done (by kernel_rfl) ?_ _
        go_wp2
        exact ⟨⟨k + 1, by omega, by go_num, B8.out⟩, by simp [intOf]; omega⟩
    · obtain rfl : k = ps.length := by omega
      have HN2 := Lib.hid (nodes_any wr s2 u _ _ (HU.out _ hbel))
      have hlz : ps.length ≤ (ps ++ z).length := by rw [List.length_append]; omega
      have HBE := Lib.hid hbel
      clear hbel
      generalize (ps ++ z).length = nn at *
      go_wp2_with (first | (go_at_call 13; (with_reducible refine HN.out.mono ?_); rintro e x' ⟨rfl, rfl⟩) | (go_at_call 13; (with_reducible refine HN2.out.mono ?_); rintro e x' ⟨rfl, rfl⟩))
      go_ret
      exact ⟨rfl, HB.out.trans (HBE.out.mono HB.out.size)⟩
theorem walk (w : World) (xs : List TxV) (a0 : Option Addr) (cap0 : Nat) (hz0 : xs.length ≤ 6000000000000) (hx0 : ∀ x ∈ xs, x.text.length ≤ maxLen) (hts : Ts w a0 xs) (hn0 : a0 = none → cap0 = 0)
    (ys : List TxV) (a1 : Option Addr) (cap1 : Nat) (hz1 : ys.length ≤ 6000000000000) (hx1 : ∀ x ∈ ys, x.text.length ≤ maxLen) (htm : Ts w a1 ys) (hn1 : a1 = none → cap1 = 0) :
    Calls Try.prog 8 #[.slice a0 xs.length cap0, .slice a1 ys.length cap1] w fun e w' => e = .returned (.bool true) ∧ Below w.heap.size w w' := by
  by_cases hall : (xs.length ≤ 12 ∧ (∀ x ∈ xs, x.text.length ≤ 40)) ∧ (ys.length ≤ 12 ∧ (∀ x ∈ ys, x.text.length ≤ 40))
  · exact small w xs a0 cap0 hts hn0 hall.1.1 hall.1.2 ys a1 cap1 htm hn1 hall.2.1 hall.2.2
  · have HALL := Lib.hid hall
    have HX := Lib.hid hx0
    have HY := Lib.hid hx1
    clear hall hx0 hx1 hn0 hn1
    go_enter Try.func8, Try.ntmps8
    go_wp2_with fail
    refine (awake_any _).mono ?_
    rintro e' w1 ⟨rfl, hb2⟩
    have ts1 := hts.keep hb2
    have tm1 := htm.keep hb2
    go_wp2_with fail
    refine (ltexts_any xs a0 cap0 w1 ts1 hz0 HX.out).mono ?_
    rintro e' w2 ⟨hb3, hcase⟩
    have B2 := hb2.trans (hb3.mono hb2.size)
    have tm2 := tm1.keep hb3
    rcases hcase with ⟨_, rfl⟩ | ⟨hok, aL, cL, rfl, _⟩
    · go_wp2_with fail
      refine (ltexts_any ys a1 cap1 w2 tm2 hz1 HY.out).mono ?_
      rintro e' w3 ⟨hb4, hcase⟩
      have B3 := B2.trans (hb4.mono B2.size)
      rcases hcase with ⟨_, rfl⟩ | ⟨_, aM, cM, rfl, _⟩
      · go_wp2
        go_ret
        exact ⟨rfl, B3⟩
      · generalize decide (ys.length ≤ 12) = b
        go_wp2
        go_ret
        exact ⟨rfl, B3⟩
    · go_wp2_with fail
      refine (ltexts_any ys a1 cap1 w2 tm2 hz1 HY.out).mono ?_
      rintro e' w3 ⟨hb4, hcase⟩
      have B3 := B2.trans (hb4.mono B2.size)
      by_cases h12 : xs.length ≤ 12
      · rw [decide_eq_true h12]
        rcases hcase with ⟨_, rfl⟩ | ⟨hok2, aM, cM, rfl, _⟩
        · go_wp2
          go_ret
          exact ⟨rfl, B3⟩
        · have h13 : ¬ ys.length ≤ 12 := fun h => HALL.out ⟨⟨h12, hok⟩, h, hok2⟩
          rw [decide_eq_false h13]
          clear HALL hok hok2
          go_wp2
          go_ret
          exact ⟨rfl, B3⟩
      · rw [decide_eq_false h12]
        rcases hcase with ⟨_, rfl⟩ | ⟨_, aM, cM, rfl, _⟩
        · go_wp2
          go_ret
          exact ⟨rfl, B3⟩
        · generalize decide (ys.length ≤ 12) = b
          go_wp2
          go_ret
          exact ⟨rfl, B3⟩
end Go.Proofs.Ytljnhkpcodecgaa.trieMore
