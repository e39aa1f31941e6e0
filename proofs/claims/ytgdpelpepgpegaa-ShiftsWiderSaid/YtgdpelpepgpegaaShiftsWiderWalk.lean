/- The walk of ShiftsWider. -/
import Derived.Test.YtgdpelpepgpegaaHc
namespace Go.Proofs.Ytgdpelpepgpegaa.shiftsWider
open Go.Proofs.Ytgdpelpepgpegaa.Tri Go.Proofs.Ytgdpelpepgpegaa.Cwl Go.Proofs.Ytgdpelpepgpegaa.Bck Go.Proofs.Ytgdpelpepgpegaa.Shf Go.Proofs.Ytgdpelpepgpegaa.Lit Go.Proofs.Ytgdpelpepgpegaa.Reg Go.RowKit Go.Maps
set_option maxRecDepth 100000
set_option linter.unusedVariables false
theorem turned_left {l m : List Tx} {z : Tx} (h : z ∈ turned l) : z ∈ turned (l ++ m) := (mem_turned _ _).2 ⟨((mem_turned _ _).1 h).1, List.mem_append_left _ ((mem_turned _ _).1 h).2⟩
theorem path_left {l m : List Tx} {z : Tx} (h : z ∈ paths (turned l)) : z ∈ paths (turned (l ++ m)) := by
  rw [paths_mem] at *
  rcases h with h | ⟨x, hx, q, e⟩
  · exact .inl h
  · exact .inr ⟨x, turned_left hx, q, e⟩
theorem least_left {l : List Tx} (m : List Tx) (h : turned l ≠ []) : Cwl.leastOf (turned (l ++ m)) ≤ Cwl.leastOf (turned l) := by
  obtain ⟨x, hx, e⟩ := Cwl.least_is h
  rw [e]
  exact Cwl.least_le (fun z hz => turned_ne hz) (turned_left hx)
theorem first_left {l : List Tx} (m : List Tx) (h : turned l ≠ []) (s : Tx) : firstOf (turned (l ++ m)) (paths (turned (l ++ m))) s ≤ firstOf (turned l) (paths (turned l)) s := by
  refine min_sub (least_left m h) fun k hk _ => ?_
  obtain ⟨z, hz, rfl⟩ := List.mem_map.1 hk
  exact List.mem_map.2 ⟨z, path_left hz, rfl⟩
theorem second_left {l : List Tx} (m : List Tx) (h : turned l ≠ []) (s : Tx) : secondOf (turned (l ++ m)) s ≤ secondOf (turned l) s := by
  refine min_sub (least_left m h) fun k hk _ => ?_
  unfold secondAll at *
  obtain ⟨n, hn, hk⟩ := List.mem_flatMap.1 hk
  obtain ⟨z, hz, rfl⟩ := List.mem_map.1 hk
  exact List.mem_flatMap.2 ⟨n, hn, List.mem_map.2 ⟨z, turned_left hz, rfl⟩⟩

set_option maxHeartbeats 8000000 in
theorem small (w : World) (xs : List TxV) (a0 : Option Addr) (cap0 : Nat) (hts : Ts w a0 xs) (hn0 : a0 = none → cap0 = 0) (h0 : xs.length ≤ 12) (hx : ∀ x ∈ xs, x.text.length ≤ 40)
    (ys : List TxV) (a1 : Option Addr) (cap1 : Nat) (htm : Ts w a1 ys) (hn1 : a1 = none → cap1 = 0) (h1 : ys.length ≤ 12) (hy : ∀ x ∈ ys, x.text.length ≤ 40) :
    Calls Try.prog 7 #[.slice a0 xs.length cap0, .slice a1 ys.length cap1] w fun e w' => e = .returned (.bool true) ∧ Below w.heap.size w w' := by
  have hx' : ∀ x ∈ xs, x.text.length ≤ maxLen := fun x h => Nat.le_trans (hx x h) (by unfold maxLen; omega)
  have hy' : ∀ x ∈ ys, x.text.length ≤ maxLen := fun x h => Nat.le_trans (hy x h) (by unfold maxLen; omega)
  have htot := Spa.few_tot h0 hx
  have htoy := Spa.few_tot h1 hy
  have HX := Lib.hid hx
  have HX' := Lib.hid hx'
  have HY := Lib.hid hy
  have HY' := Lib.hid hy'
  have HN0 := Lib.hid hn0
  have HN1 := Lib.hid hn1
  have HAW := Lib.hid (Shf.awake_any w)
  clear hx hx' hy hy' hn0 hn1
  go_enter Try.func7, Try.ntmps7
  go_wp2_with fail
  refine HAW.out.mono ?_
  rintro e' w1 ⟨rfl, hb2⟩
  have ts1 := hts.keep hb2
  have tm1 := htm.keep hb2
  go_wp2_with fail
  refine (ltexts_any xs a0 cap0 w1 ts1 (by omega) HX'.out).mono ?_
  rintro e' w2 ⟨hb3, hcase⟩
  rcases hcase with ⟨hbad, _⟩ | ⟨_, aL, cL, rfl, _⟩
  · exact absurd HX.out hbad
  rw [decide_eq_true h0]
  have ts2 := ts1.keep hb3
  have tm2 := tm1.keep hb3
  have B2 := hb2.trans (hb3.mono hb2.size)
  go_wp2_with fail
  refine (ltexts_any ys a1 cap1 w2 tm2 (by omega) HY'.out).mono ?_
  rintro e' w3 ⟨hb4, hcase⟩
  rcases hcase with ⟨hbad, _⟩ | ⟨_, aM, cM, rfl, _⟩
  · exact absurd HY.out hbad
  rw [decide_eq_true h1]
  have TS := Lib.hid (ts2.keep hb4)
  have TM := Lib.hid (tm2.keep hb4)
  have B3 := Lib.hid (B2.trans (hb4.mono B2.size))
  clear hb4 B2 ts2 tm2 ts1 tm1 htm hts hb2 hb3 HAW
  have h64 : ¬ (9223372036854775807 : Nat) < xs.length + ys.length := by omega
  go_wp2_with (first
    | (at_builtin; (refine app_tsl rfl _ _ rfl w3.heap.size (.slice none 0 0) 0 [] rfl (World.ownsRow_nil _ _ _ _) a0 xs cap0 rfl TS.out HN0.out (by omega) (Nat.le_refl _) ?_); intro v4 w4 hown4 hg4; have HO4 := Lib.hid hown4; have B4 := Lib.hid ((Below.refl _ _).grown hg4 (Nat.le_refl _) (fun k hk => by cases hk)); clear hown4 hg4)
    | (at_builtin; refine app_tsl rfl _ _ rfl w3.heap.size v4 _ _ rfl HO4.out a1 ys cap1 rfl (TM.out.keep B4.out) HN1.out (by omega) B4.out.size ?_; intro v5 w5 hown5 hg5; have HO5 := Lib.hid hown5; have B5 := Lib.hid (B4.out.grown hg5 B4.out.size (fun k hk => own_ge HO4.out hk)); clear hown5 hg5)
    | fail)
  have ho5 : w5.ownsRow w3.heap.size 44 1 v5 (xs ++ ys).length (tvals (xs ++ ys)) := by
    have := HO5.out
    rw [List.nil_append] at this
    have e : 0 + xs.length + ys.length = (xs ++ ys).length := by simp
    rwa [e] at this
  have TS5 := TS.out.keep B5.out
  have TM5 := TM.out.keep B5.out
  obtain ⟨a5, c5, rfl, ts5, _, _⟩ := own_ts ho5 (fun x hx => (List.mem_append.1 hx).elim (TS5.2 x) (TM5.2 x))
  obtain ⟨l, hl⟩ : ∃ l, l = xs.map TxV.text := ⟨_, rfl⟩
  obtain ⟨m, hm⟩ : ∃ m, m = ys.map TxV.text := ⟨_, rfl⟩
  have htz : tot (l ++ m) ≤ 960 := by rw [tot_append, hl, hm]; omega
  have htl0 : tot l ≤ 480 := by rw [hl]; exact htot
  have hzl : (xs ++ ys).length ≤ 24 := by rw [List.length_append]; omega
  have BT := Lib.hid (bbuild_any w5 xs a0 cap0 TS5 (by omega) (fun z h => Nat.le_trans (HX.out z h) (by omega)))
  have BS := Lib.hid (fun (X : World) (hX : Below w5.heap.size w5 X) => bbuild_any X (xs ++ ys) a5 c5 (ts5.keep hX) (by omega) (fun z h => (List.mem_append.1 h).elim (fun h => Nat.le_trans (HX.out z h) (by omega)) (fun h => Nat.le_trans (HY.out z h) (by omega))))
  rw [List.map_append, ← hl, ← hm] at BS
  rw [← hl] at BT
  have HL40 : Hid (∀ z ∈ l, z.length ≤ 40) := Lib.hid fun z h => by
    rw [hl] at h
    obtain ⟨y, hy, rfl⟩ := List.mem_map.1 h
    exact HX.out y hy
  have B6 := Lib.hid (B3.out.trans (B5.out.mono B3.out.size))
  clear htot htoy hl hm TM5 TS5 ts5 ho5 HO5 HO4 B4 B5 TS TM B3
  generalize hzz : (xs ++ ys).length = nz at *
  clear hzz
  refine BT.out.mono ?_
  rintro e w6 ⟨x, rfl, hk, hb⟩
  have C6 := Lib.hid hb
  have HK6 := Lib.hid hk
  clear hk hb BT
  go_wp2_with fail
  refine (BS.out w6 C6.out).mono ?_
  rintro e w7 ⟨y, rfl, hk, hb⟩
  have C7 := Lib.hid (C6.out.trans (hb.mono C6.out.size))
  have HK7 := Lib.hid (HK6.out.keep hb)
  have HJ7 := Lib.hid hk
  clear hk hb BS HK6 C6
  go_wp2_with fail
  refine (sbuild_any w7 x l HK7.out (by omega)).mono ?_
  rintro e w8 ⟨sp, rfl, hs, hb⟩
  have C8 := Lib.hid (C7.out.trans (hb.mono C7.out.size))
  have HK8 := Lib.hid (HK7.out.keep hb)
  have HJ8 := Lib.hid (HJ7.out.keep hb)
  have HS8 := Lib.hid hs
  clear hs hb HK7 HJ7 C7
  go_wp2_with fail
  refine (sbuild_any w8 y (l ++ m) HJ8.out (by omega)).mono ?_
  rintro e w9 ⟨tp, rfl, hs, hb⟩
  have C9 := Lib.hid (C8.out.trans (hb.mono C8.out.size))
  have HK9 := Lib.hid (HK8.out.keep hb)
  have HJ9 := Lib.hid (HJ8.out.keep hb)
  have HS9 := Lib.hid (HS8.out.keep hb)
  have HT9 := Lib.hid hs
  clear hs hb HK8 HJ8 HS8 C8
  go_wp2_with fail
  refine (bleast_any w9 x l HK9.out).mono ?_
  rintro e w10 ⟨rfl, hb⟩
  have C10 := Lib.hid (C9.out.trans (hb.mono C9.out.size))
  have HS10 := Lib.hid (HS9.out.keep hb)
  have HT10 := Lib.hid (HT9.out.keep hb)
  obtain ⟨t, hct, htr⟩ := (HK9.out.keep hb).tree
  obtain ⟨u, hcu, hur⟩ := (HJ9.out.keep hb).tree
  have HTR := Lib.hid htr
  have HUR := Lib.hid hur
  clear htr hur hb HK9 HJ9 HS9 HT9 C9
  by_cases hn0 : Cwl.leastOf (turned l) = 0
  · have hnb : ((Cwl.leastOf (turned l) : Int) == 0) = true := by rw [hn0]; rfl
    go_wp2
    go_ret
    exact ⟨rfl, B6.out.trans (C10.out.mono B6.out.size)⟩
  · have hnb : ((Cwl.leastOf (turned l) : Int) == 0) = false := by rw [beq_eq_false_iff_ne]; omega
    have hne : turned l ≠ [] := fun e => hn0 (by rw [e]; rfl)
    have HM1 := Lib.hid (fun s => first_left m hne s)
    have HM2 := Lib.hid (fun s => second_left m hne s)
    have HPL := Lib.hid (fun z h => @path_left l m z h)
    have hps : (paths (turned l)).length ≤ 481 := by have := paths_len (turned l); have := turned_tot l; omega
    have hpt : (paths (turned (l ++ m))).length ≤ 961 := by have := paths_len (turned (l ++ m)); have := turned_tot (l ++ m); omega
    have hsh : ∀ z ∈ paths (turned l), z.length ≤ 40 := fun z hz => path_short0 (fun y hy => by have := HL40.out _ ((mem_turned l y).1 hy).2; rwa [List.length_reverse] at this) hz
    have HSH := Lib.hid hsh
    have HF1 := Lib.hid (fun i h => @fstN_at l i h)
    have HF2 := Lib.hid (fun i h => @sndN_at l i h)
    have HG1 := Lib.hid (fun i h => @fstN_at (l ++ m) i h)
    have HG2 := Lib.hid (fun i h => @sndN_at (l ++ m) i h)
    clear hn0 hne hsh
    generalize hp : paths (turned l) = p at *
    generalize hq : turned l = q at *
    generalize hp2 : paths (turned (l ++ m)) = p2 at *
    generalize hq2 : turned (l ++ m) = q2 at *
    clear hp hq hp2 hq2
    have HX0 : Hid (∀ X, Below w10.heap.size w10 X → X.cell? ⟨x, 0, none⟩ = some (.pointer (some ⟨t, 0, none⟩))) := Lib.hid fun X hX => (hX.cell (p := ⟨x, 0, none⟩) (World.block_lt_of_cell? w10 _ hct)).trans hct
    have HY0 : Hid (∀ X, Below w10.heap.size w10 X → X.cell? ⟨y, 0, none⟩ = some (.pointer (some ⟨u, 0, none⟩))) := Lib.hid fun X hX => (hX.cell (p := ⟨y, 0, none⟩) (World.block_lt_of_cell? w10 _ hcu)).trans hcu
    have HNO := Lib.hid (fun X (hX : Below w10.heap.size w10 X) => nodes_any X _ t p q (HTR.out.keep hX))
    clear hct hcu
    go_wp2
    go_loopw [15] (fun v wr => ∃ k : Nat, k ≤ p.length ∧ v = .int .i64 (k : Int) ∧ Below w10.heap.size w10 wr) (fun v _ => p.length - (intOf v).toNat)
    case atStart => exact ⟨0, Nat.zero_le _, rfl, Below.refl _ _⟩
    case round =>
      obtain ⟨k, hk, rfl, hbel⟩ := hrel
      have HBE := Lib.hid hbel
      have hcx := HX0.out wr hbel
      have hcy := HY0.out wr hbel
      clear hbel
      go_wp2_with fail
      refine (HNO.out wr HBE.out).mono ?_
      rintro e wr' ⟨rfl, rfl⟩
      by_cases hlt : k < p.length
      · have hkl : (k : Int) < (p.length : Int) := by omega
        have hkw : (Lit.int .i64 (k : Int)).wf = true := wf_nat (by omega) (by omega)
        have h40 := HSH.out _ (List.getElem_mem hlt)
        have hmem2 := HPL.out _ (List.getElem_mem hlt)
        obtain ⟨U, hU⟩ : ∃ U, U = p2.idxOf p[k] := ⟨_, rfl⟩
        have hUl : U < p2.length := by rw [hU]; exact List.idxOf_lt_length_iff.2 hmem2
        have hUp : p2[U] = p[k] := by simp only [hU]; exact List.getElem_idxOf _
        have HPA : Hid (∀ X, Below w10.heap.size w10 X → Calls Try.prog 26 #[.pointer (some ⟨t, 0, none⟩), .int .i64 (k : Int)] X (GivesText X p[k])) := Lib.hid fun X hX => by
          have := path_any X _ t p q (HTR.out.keep hX) (k : Int) (by rw [pathD_at hlt]; omega)
          rwa [pathD_at hlt] at this
        have HFI : Hid (∀ X a c, Below w10.heap.size w10 X → Bs X X.heap.size a p[k] → Calls Try.prog 25 #[.pointer (some ⟨u, 0, none⟩), .slice a p[k].length c] X fun e w' => e = .returned (.int .i64 (U : Int)) ∧ X = w') := Lib.hid fun X a c hX hb => by
          have := find_any X _ u p2 q2 (HUR.out.keep hX) p[k] a c _ hb (by omega)
          rwa [place, if_pos hmem2, ← hU] at this
        have HS1 : Hid (∀ X, Below w10.heap.size w10 X → Calls Try.prog 14 #[.pointer sp, .int .i64 (k : Int)] X fun e w' => e = .returned (.int .i64 (firstOf q p p[k] : Int)) ∧ Below X.heap.size X w') := Lib.hid fun X hX => by
          have := sfirst_any X sp l (HS10.out.keep hX) (k : Int) hkw
          rwa [HF1.out k hlt] at this
        have HS2 : Hid (∀ X, Below w10.heap.size w10 X → Calls Try.prog 16 #[.pointer sp, .int .i64 (k : Int)] X fun e w' => e = .returned (.int .i64 (secondOf q p[k] : Int)) ∧ Below X.heap.size X w') := Lib.hid fun X hX => by
          have := ssecond_any X sp l (HS10.out.keep hX) (k : Int) hkw
          rwa [HF2.out k hlt] at this
        have HT1 : Hid (∀ X, Below w10.heap.size w10 X → Calls Try.prog 14 #[.pointer tp, .int .i64 (U : Int)] X fun e w' => e = .returned (.int .i64 (firstOf q2 p2 p[k] : Int)) ∧ Below X.heap.size X w') := Lib.hid fun X hX => by
          have := sfirst_any X tp (l ++ m) (HT10.out.keep hX) (U : Int) (wf_nat (by omega) (by omega))
          rwa [HG1.out U hUl, hUp] at this
        have HT2 : Hid (∀ X, Below w10.heap.size w10 X → Calls Try.prog 16 #[.pointer tp, .int .i64 (U : Int)] X fun e w' => e = .returned (.int .i64 (secondOf q2 p[k] : Int)) ∧ Below X.heap.size X w') := Lib.hid fun X hX => by
          have := ssecond_any X tp (l ++ m) (HT10.out.keep hX) (U : Int) (wf_nat (by omega) (by omega))
          rwa [HG2.out U hUl, hUp] at this
        have hm1 := HM1.out p[k]
        have hm2 := HM2.out p[k]
        clear hkw hU hUp hmem2
        generalize firstOf q p p[k] = f1 at *
        generalize secondOf q p[k] = f2 at *
        generalize firstOf q2 p2 p[k] = g1 at *
        generalize secondOf q2 p[k] = g2 at *
        generalize p[k] = z at *
        have i1 : ¬ (f1 : Int) < (g1 : Int) := by omega
        have i2 : ¬ (f2 : Int) < (g2 : Int) := by omega
        have HM := Lib.hid (And.intro hm1 hm2)
        clear hm1 hm2
        go_wp2_with fail
        refine wp_region_held_drew (S := fun w' => Below wr.drew.heap.size wr.drew w') (by kernel_rfl) (Below.refl _ _) (fun hH0 => ?_)
        have B0 := Lib.hid (below_drews HBE.out 1)
        change Hid (Below _ _ wr.drew) at B0
        generalize wr.drew = x0 at *
        refine held_take (i := 0) (d := 62) (oi := _) (v := ?_) rfl rfl (by kernel_rfl) (by kernel_rfl) (by kernel_rfl) (fun _ _ _ h => h) (Or.inl ⟨by rfl, ?_⟩) (by assumption) ?_
        rotate_left
        · (intro w hSw; clear hSw; go_simp; (try with_reducible rfl))
        simp only [Act.put, List.setIfInBounds_toArray, List.set_cons_zero, List.set_cons_succ]
        refine held_take (i := 1) (d := 63) (oi := _) (v := ?_) rfl rfl (by kernel_rfl) (by kernel_rfl) (by kernel_rfl) (fun _ _ _ h => h) (Or.inl ⟨by rfl, ?_⟩) (by assumption) ?_
        rotate_left
        · (intro w hSw; clear hSw; go_simp; (try with_reducible rfl))
        simp only [Act.put, List.setIfInBounds_toArray, List.set_cons_zero, List.set_cons_succ]
        refine held_take (i := 2) (d := 64) (oi := _) (v := ?_) rfl rfl (by kernel_rfl) (by kernel_rfl) (by kernel_rfl) (fun _ _ _ h => h) (Or.inl ⟨by rfl, ?_⟩) (by assumption) ?_
        rotate_left
        · (intro w hSw; clear hSw; go_simp; (try with_reducible rfl))
        simp only [Act.put, List.setIfInBounds_toArray, List.set_cons_zero, List.set_cons_succ]
        refine held_take (i := 3) (d := 65) (oi := _) (v := ?_) rfl rfl (by kernel_rfl) (by kernel_rfl) (by kernel_rfl) (fun _ _ _ h => h) (Or.inl ⟨by rfl, ?_⟩) (by assumption) ?_
        rotate_left
        · (intro w hSw; have hld := HY0.out w (B0.out.trans (hSw.mono B0.out.size)); clear hSw; go_simp; (try with_reducible rfl))
        simp only [Act.put, List.setIfInBounds_toArray, List.set_cons_zero, List.set_cons_succ]
        refine held_take (i := 4) (d := 66) (oi := _) (v := ?_) rfl rfl (by kernel_rfl) (by kernel_rfl) (by kernel_rfl) (fun _ _ _ h => h) (Or.inl ⟨by rfl, ?_⟩) (by assumption) ?_
        rotate_left
        · (intro w hSw; clear hSw; go_simp; (try with_reducible rfl))
        simp only [Act.put, List.setIfInBounds_toArray, List.set_cons_zero, List.set_cons_succ]
        refine held_take (i := 5) (d := 67) (oi := _) (v := ?_) rfl rfl (by kernel_rfl) (by kernel_rfl) (by kernel_rfl) (fun _ _ _ h => h) (Or.inl ⟨by rfl, ?_⟩) (by assumption) ?_
        rotate_left
        · (intro w hSw; clear hSw; go_simp; (try with_reducible rfl))
        simp only [Act.put, List.setIfInBounds_toArray, List.set_cons_zero, List.set_cons_succ]
        refine held_take (i := 6) (d := 68) (oi := _) (v := ?_) rfl rfl (by kernel_rfl) (by kernel_rfl) (by kernel_rfl) (fun _ _ _ h => h) (Or.inl ⟨by rfl, ?_⟩) (by assumption) ?_
        rotate_left
        · (intro w hSw; clear hSw; go_simp; (try with_reducible rfl))
        simp only [Act.put, List.setIfInBounds_toArray, List.set_cons_zero, List.set_cons_succ]
        refine held_take (i := 7) (d := 69) (oi := _) (v := ?_) rfl rfl (by kernel_rfl) (by kernel_rfl) (by kernel_rfl) (fun _ _ _ h => h) (Or.inl ⟨by rfl, ?_⟩) (by assumption) ?_
        rotate_left
        · (intro w hSw; have hld := HX0.out w (B0.out.trans (hSw.mono B0.out.size)); clear hSw; go_simp; (try with_reducible rfl))
        simp only [Act.put, List.setIfInBounds_toArray, List.set_cons_zero, List.set_cons_succ]
        refine held_take (i := 8) (d := 70) (oi := _) (v := ?_) rfl rfl (by kernel_rfl) (by kernel_rfl) (by kernel_rfl) (fun _ _ _ h => h) (Or.inl ⟨by rfl, ?_⟩) (by assumption) ?_
        rotate_left
        · (intro w hSw; clear hSw; go_simp; (try with_reducible rfl))
        simp only [Act.put, List.setIfInBounds_toArray, List.set_cons_zero, List.set_cons_succ]
        refine wpAnyH_ready (rs := [9]) (by kernel_rfl) (by simp) ?_
        refine AllReadyH.cons rfl (fun K hK => ?_) AllReadyH.nil
        go_simp
        go_wp2_with (go_at_call 26; (with_reducible refine (HPA.out _ B0.out).mono ?_); rintro e x1 ⟨a7, c7, rfl, htx7, _, _, hb⟩)
        refine hK.out _ _ hb (fun _ => ?_)
        have B1 := Lib.hid (B0.out.trans (hb.mono B0.out.size))
        refine wpAnyH_more (S' := fun w' => Below x1.heap.size x1 w') (fun w' h => hb.trans (h.mono hb.size)) _ _ _ _ ?_
        have hH1 : Below x1.heap.size x1 x1 := Below.refl _ _
        clear hK K hH0 hb B0
        have T7 := Lib.hid htx7.bs
        clear htx7
        refine wpAnyH_ready (rs := [10]) (by kernel_rfl) (by simp) ?_
        refine AllReadyH.cons rfl (fun K hK => ?_) AllReadyH.nil
        go_simp
        go_wp2_with (go_at_call 25; (with_reducible refine (HFI.out x1 a7 c7 B1.out T7.out).mono ?_); rintro e x' ⟨rfl, rfl⟩)
        refine hK.out _ _ hH1 (fun _ => ?_)
        clear hK K T7
        refine held_take (i := 11) (d := 16) (oi := _) (v := ?_) rfl rfl (by kernel_rfl) (by kernel_rfl) (by kernel_rfl) (fun _ _ _ h => h) (Or.inl ⟨by rfl, ?_⟩) (by assumption) ?_
        rotate_left
        · (intro w hSw; clear hSw; go_simp; (try with_reducible rfl))
        simp only [Act.put, List.setIfInBounds_toArray, List.set_cons_zero, List.set_cons_succ]
        refine wpAnyH_done (by kernel_rfl) ?_ _
        go_wp2_with fail
        refine (HT1.out _ B1.out).mono ?_
        rintro e v5 ⟨rfl, hv⟩
        have E1 := Lib.hid (B1.out.trans (hv.mono B1.out.size))
        clear hv
        go_wp2_with fail
        refine (HS1.out _ E1.out).mono ?_
        rintro e v6 ⟨rfl, hv⟩
        have E2 := Lib.hid (E1.out.trans (hv.mono E1.out.size))
        clear hv
        go_wp2_with fail
        refine (HT2.out _ E2.out).mono ?_
        rintro e v7 ⟨rfl, hv⟩
        have E3 := Lib.hid (E2.out.trans (hv.mono E2.out.size))
        clear hv
        go_wp2_with fail
        refine (HS2.out _ E3.out).mono ?_
        rintro e v8 ⟨rfl, hv⟩
        have E4 := Lib.hid (E3.out.trans (hv.mono E3.out.size))
        clear hv
        go_wp2
        exact ⟨⟨k + 1, by omega, by go_num, E4.out⟩, by simp [intOf]; omega⟩
      · have hkl : ¬ (k : Int) < (p.length : Int) := by omega
        go_wp2
        go_ret
        exact ⟨rfl, B6.out.trans ((C10.out.trans (HBE.out.mono C10.out.size)).mono B6.out.size)⟩
theorem walk (w : World) (xs : List TxV) (a0 : Option Addr) (cap0 : Nat) (hz0 : xs.length ≤ 6000000000000) (hx0 : ∀ x ∈ xs, x.text.length ≤ maxLen) (hts : Ts w a0 xs) (hn0 : a0 = none → cap0 = 0) (ys : List TxV) (a1 : Option Addr) (cap1 : Nat) (hz1 : ys.length ≤ 6000000000000) (hy0 : ∀ x ∈ ys, x.text.length ≤ maxLen) (htm : Ts w a1 ys) (hn1 : a1 = none → cap1 = 0) :
    Calls Try.prog 7 #[.slice a0 xs.length cap0, .slice a1 ys.length cap1] w fun e w' => e = .returned (.bool true) ∧ Below w.heap.size w w' := by
  by_cases hall : (xs.length ≤ 12 ∧ (∀ x ∈ xs, x.text.length ≤ 40)) ∧ (ys.length ≤ 12 ∧ (∀ x ∈ ys, x.text.length ≤ 40))
  · exact small w xs a0 cap0 hts hn0 hall.1.1 hall.1.2 ys a1 cap1 htm hn1 hall.2.1 hall.2.2
  · have HALL := Lib.hid hall
    have HX := Lib.hid hx0
    have HY := Lib.hid hy0
    have HAW := Lib.hid (Shf.awake_any w)
    clear hall hx0 hy0 hn0 hn1
    go_enter Try.func7, Try.ntmps7
    go_wp2_with fail
    refine HAW.out.mono ?_
    rintro e' w1 ⟨rfl, hb2⟩
    have ts1 := hts.keep hb2
    have tm1 := htm.keep hb2
    go_wp2_with fail
    refine (ltexts_any xs a0 cap0 w1 ts1 hz0 HX.out).mono ?_
    rintro e' w2 ⟨hb3, hcase⟩
    have B2 := hb2.trans (hb3.mono hb2.size)
    have tm2 := tm1.keep hb3
    have HC := Lib.hid hcase
    clear hcase ts1 tm1 hb3 hb2 HAW
    rcases HC.out with ⟨_, rfl⟩ | ⟨hok, aL, cL, rfl, _⟩
    · go_wp2_with fail
      refine (ltexts_any ys a1 cap1 w2 tm2 hz1 HY.out).mono ?_
      rintro e' w3 ⟨hb4, hcase⟩
      have B3 := B2.trans (hb4.mono B2.size)
      clear hb4 B2
      rcases hcase with ⟨_, rfl⟩ | ⟨_, aM, cM, rfl, _⟩
      · go_wp2
        go_ret
        exact ⟨rfl, B3⟩
      · go_wp2
        go_ret
        exact ⟨rfl, B3⟩
    · go_wp2_with fail
      refine (ltexts_any ys a1 cap1 w2 tm2 hz1 HY.out).mono ?_
      rintro e' w3 ⟨hb4, hcase⟩
      have B3 := B2.trans (hb4.mono B2.size)
      clear hb4 B2
      rcases hcase with ⟨_, rfl⟩ | ⟨hok2, aM, cM, rfl, _⟩
      · generalize decide (xs.length ≤ 12) = bx
        cases bx
        · go_wp2
          go_ret
          exact ⟨rfl, B3⟩
        · go_wp2
          go_ret
          exact ⟨rfl, B3⟩
      · by_cases h12 : xs.length ≤ 12
        · have h13 : ¬ ys.length ≤ 12 := fun h => HALL.out ⟨⟨h12, hok⟩, h, hok2⟩
          rw [decide_eq_true h12, decide_eq_false h13]
          clear HALL hok hok2 HC
          go_wp2
          go_ret
          exact ⟨rfl, B3⟩
        · rw [decide_eq_false h12]
          clear HALL hok hok2 HC
          go_wp2
          go_ret
          exact ⟨rfl, B3⟩
end Go.Proofs.Ytgdpelpepgpegaa.shiftsWider
