/- The walk of ClassesTell. -/
import Derived.Test.YtlepabeibniabaaCg
namespace Go.Proofs.Ytlepabeibniabaa.classesTell
open Go.Proofs.Ytlepabeibniabaa.Tri Go.Proofs.Ytlepabeibniabaa.Cls Go.Proofs.Ytlepabeibniabaa.Reg Go.RowKit Go.Maps
set_option maxRecDepth 100000
set_option linter.unusedVariables false
theorem flat_le (l : List (List UInt8)) (n : Nat) (h : ∀ t ∈ l, t.length ≤ n) : l.flatten.length ≤ n * l.length := by
  induction l with
  | nil => simp
  | cons t l ih =>
    have h1 := h t (by simp)
    have h2 := ih (fun t ht => h t (by simp [ht]))
    rw [List.flatten_cons, List.length_append, List.length_cons, Nat.mul_succ]
    exact Nat.add_comm _ _ ▸ Nat.add_le_add h2 h1

theorem none_all : (upTo (fun c => decide ((cls (fun _ => false) c : Int) = 0)) 256).length = 256 := by decide +kernel
set_option maxHeartbeats 8000000 in
theorem small (w : World) (xs : List TxV) (a0 : Option Addr) (cap0 : Nat) (hts : Ts w a0 xs) (h0 : xs.length ≤ 12) (hx : ∀ x ∈ xs, x.text.length ≤ 40) (c : UInt8) :
    Calls Try.prog 3 #[.slice a0 xs.length cap0, .int .u8 (c.toNat : Int)] w fun e w' => e = .returned (.bool true) ∧ Below w.heap.size w w' := by
  have hx' : ∀ x ∈ xs, x.text.length ≤ maxLen := fun x h => Nat.le_trans (hx x h) (by unfold maxLen; omega)
  have HX := Lib.hid hx
  have HX' := Lib.hid hx'
  have HAW := Lib.hid (awake_any w)
  clear hx hx'
  go_enter Try.func3, Try.ntmps3
  go_wp2_with fail
  refine HAW.out.mono ?_
  rintro e' w1 ⟨rfl, hb2⟩
  have ts1 := hts.keep hb2
  go_wp2_with fail
  refine (ltexts_any xs a0 cap0 w1 ts1 (by omega) HX'.out).mono ?_
  rintro e' w2 ⟨hb3, hcase⟩
  rcases hcase with ⟨hbad, _⟩ | ⟨_, aL, cL, rfl, hsL⟩
  · exact absurd HX.out hbad
  rw [decide_eq_true h0]
  have HTS := Lib.hid (ts1.keep hb3)
  have HB := Lib.hid (hb2.trans (hb3.mono hb2.size))
  have hszw := HB.out.size
  obtain ⟨l, hl⟩ : ∃ l, l = xs.map TxV.text := ⟨_, rfl⟩
  have HOF : Hid (∀ X, Below w2.heap.size w2 X → Calls Try.prog 9 #[.slice a0 xs.length cap0] X fun e w' => e = .returned (.agg (cc (stands l))) ∧ Below X.heap.size X w') := Lib.hid fun X hX => by
    have := of_any9 xs a0 cap0 X (HTS.out.keep hX) (by omega) (fun x h => Nat.le_trans (HX.out x h) (by omega))
    rwa [← hl] at this
  have HST : Hid (∀ X c, Below w2.heap.size w2 X → Calls Try.prog 16 #[.slice a0 xs.length cap0, .int .u8 (c.toNat : Int)] X fun e w' => e = .returned (.bool (stands l c)) ∧ w' = X) := Lib.hid fun X c hX => by
    have := stands_any xs a0 cap0 X (HTS.out.keep hX) (by omega) (fun x h => Nat.le_trans (HX.out x h) (by omega)) c
    rwa [← hl] at this
  have HLN : Hid (xs.length = l.length) := Lib.hid (by rw [hl]; simp)
  have HFL : Hid (l.flatten.length ≤ 480) := Lib.hid (by
    have h := flat_le l 40 (fun t h => by
      rw [hl] at h
      obtain ⟨y, hy, rfl⟩ := List.mem_map.1 h
      exact HX.out y hy)
    have := HLN.out
    omega)
  rw [← hl] at hsL
  have HSL := Lib.hid hsL
  have HLL := Lib.hid hl
  have HX0 := HX
  clear HX HX' HAW hb2 hb3 ts1 hsL hts hl
  have HZ := Lib.hid (cc_size (fun _ => false))
  have hz29 := zero29
  have hz27 := zero27
  have HZO := Lib.hid (cc_one (fun _ => false))
  have HLZ : Hid (∀ X, Calls Try.prog 13 #[.agg (cc (fun _ => false))] X fun e w' => e = .returned (.int .i64 1) ∧ Below X.heap.size X w') := Lib.hid (fun X => by
    have h := len_any (fun _ => false) X
    have hnz : cnt (fun _ => false) = 0 := by simp [cnt, upTo]
    rw [hnz] at h
    exact h)
  have HCZ : Hid (∀ X, Calls Try.prog 11 #[.agg (cc (fun _ => false)), .int .u8 (c.toNat : Int)] X fun e w' => e = .returned (.int .i64 0) ∧ Below X.heap.size X w') := Lib.hid (fun X => by
    have h := class_any (fun _ => false) c X
    have hcz : cls (fun _ => false) c = 0 := cls_zero rfl
    rw [hcz] at h
    exact h)
  have HBZ : Hid (∀ X, Calls Try.prog 15 #[.agg (cc (fun _ => false)), .int .i64 0] X fun e w' => ∃ a cap, e = .returned (.slice a 256 cap) ∧ Below X.heap.size X w') := Lib.hid (fun X => (bytes_any (fun _ => false) 0 X).mono fun e w' h => by
    obtain ⟨a, cap, he, _, hb⟩ := h
    rw [none_all] at he
    exact ⟨a, cap, he, hb⟩)
  generalize cc (fun _ => false) = z at *
  go_wp2_with fail
  refine (HOF.out w2 (Below.refl _ _)).mono ?_
  rintro e3 w3 ⟨rfl, hb3⟩
  have HS := Lib.hid (cc_size (stands l))
  have HO := Lib.hid (cc_one (stands l))
  have HTB := Lib.hid (fun X => table_any (stands l) X)
  have HAT := Lib.hid (cc_at (stands l) c)
  have HLE := Lib.hid (fun X => len_any (stands l) X)
  have HCL := Lib.hid (fun X => class_any (stands l) c X)
  have HRC : Hid (∀ X, Below w2.heap.size w2 X → Calls Try.prog 12 #[.slice aL xs.length cL, .int .u8 (c.toNat : Int)] X fun e w' => e = .returned (.int .i64 (cls (stands l) c : Int)) ∧ X = w') := Lib.hid fun X hX => by
    have := rclass_any l aL cL X (HSL.out.keep hX) (by rw [← HLN.out]; omega) (Nat.le_trans HFL.out (by omega)) c
    rwa [← HLN.out] at this
  have HRL : Hid (∀ X, Below w2.heap.size w2 X → Calls Try.prog 14 #[.slice aL xs.length cL] X fun e w' => e = .returned (.int .i64 ((cnt (stands l) : Int) + 1)) ∧ Below X.heap.size X w') := Lib.hid fun X hX => by
    have := rlen_any l aL cL X (HSL.out.keep hX) (by rw [← HLN.out]; omega) (Nat.le_trans HFL.out (by omega))
    rwa [← HLN.out] at this
  generalize cc (stands l) = cs at *
  generalize cls (stands l) c = kc at *
  generalize cnt (stands l) = n at *
  have HG := Lib.hid (heap_alloc_new w3 (.cells z 29))
  have es : ((w3.alloc (.cells z 29)).setRow w3.heap.size cs) = w3.alloc (.cells cs 29) := World.setRow_alloc_new _ _ _ _
  have HB0 : Hid (Below w2.heap.size w2 ((w3.alloc (.cells z 29)).setRow w3.heap.size cs)) := Lib.hid (by rw [es]; exact hb3.alloc hb3.size _)
  have HR0 : Hid (((w3.alloc (.cells z 29)).setRow w3.heap.size cs).heap[w3.heap.size]? = some (.cells cs 29 (0, 0))) := Lib.hid (by rw [es]; exact heap_alloc_new w3 _)
  obtain ⟨fs, hd1⟩ := Cls.some29
  have HD := Lib.hid hd1
  clear hd1 es hb3 HSL HTS HLL HX0 HLN HFL HOF HST
  go_wp2_with (first
    | (with_reducible refine wpList_store_row rfl 29 (.tmp 8) (.tmp 22) rfl w3.heap.size cs rfl rfl 29 z HG.out (by rw [HS.out]; exact size29) (by rw [HS.out, HZ.out]) HO.out ?_)
    | (with_reducible refine wpList_load_row rfl 29 (.tmp 8) rfl w3.heap.size rfl 29 cs (0, 0) _ HR0.out HD.out rfl (by rw [HS.out]; exact size29) ?_))
  generalize ((w3.alloc (.cells z 29)).setRow w3.heap.size cs) = x0 at *
  generalize w3.heap.size = g at *
  clear HG
  refine (HTB.out _).mono ?_
  rintro e4 w4 ⟨rfl, hb4⟩
  have HG := Lib.hid (heap_alloc_new w4 (.cells z 27))
  have es : ((w4.alloc (.cells z 27)).setRow w4.heap.size cs) = w4.alloc (.cells cs 27) := World.setRow_alloc_new _ _ _ _
  have HB4 : Hid (Below x0.heap.size x0 ((w4.alloc (.cells z 27)).setRow w4.heap.size cs)) := Lib.hid (by rw [es]; exact hb4.alloc hb4.size _)
  have HR4 : Hid (((w4.alloc (.cells z 27)).setRow w4.heap.size cs).heap[w4.heap.size]? = some (.cells cs 27 (0, 0))) := Lib.hid (by rw [es]; exact heap_alloc_new w4 _)
  have es5 : ((((w4.alloc (.cells z 27)).setRow w4.heap.size cs).alloc (.cells z 29)).setRow (w4.heap.size + 1) z) = ((w4.alloc (.cells z 27)).setRow w4.heap.size cs).alloc (.cells z 29) := by
    have h := World.setRow_alloc_new ((w4.alloc (.cells z 27)).setRow w4.heap.size cs) z z 29
    rw [es, World.size_alloc] at h
    rw [es]
    exact h
  have HG5 : Hid ((((w4.alloc (.cells z 27)).setRow w4.heap.size cs).alloc (.cells z 29)).heap[w4.heap.size + 1]? = some (.cells z 29 (0, 0))) := Lib.hid (by
    have h := heap_alloc_new ((w4.alloc (.cells z 27)).setRow w4.heap.size cs) (.cells z 29)
    rw [es, World.size_alloc] at h
    rw [es]
    exact h)
  have HRn0 : Hid (((((w4.alloc (.cells z 27)).setRow w4.heap.size cs).alloc (.cells z 29)).setRow (w4.heap.size + 1) z).heap[w4.heap.size + 1]? = some (.cells z 29 (0, 0))) := Lib.hid (by rw [es5]; exact HG5.out)
  have b45 : Below ((w4.alloc (.cells z 27)).setRow w4.heap.size cs).heap.size ((w4.alloc (.cells z 27)).setRow w4.heap.size cs) ((((w4.alloc (.cells z 27)).setRow w4.heap.size cs).alloc (.cells z 29)).setRow (w4.heap.size + 1) z) := by rw [es5]; exact below_new _ _
  have HRt0 : Hid (((((w4.alloc (.cells z 27)).setRow w4.heap.size cs).alloc (.cells z 29)).setRow (w4.heap.size + 1) z).heap[w4.heap.size]? = some (.cells cs 27 (0, 0))) := Lib.hid ((b45.block _ (txt_lt HR4.out)).trans HR4.out)
  have HRc0 : Hid (((((w4.alloc (.cells z 27)).setRow w4.heap.size cs).alloc (.cells z 29)).setRow (w4.heap.size + 1) z).heap[g]? = some (.cells cs 29 (0, 0))) := Lib.hid ((b45.block _ (Nat.lt_of_lt_of_le (txt_lt HR0.out) HB4.out.size)).trans ((HB4.out.block _ (txt_lt HR0.out)).trans HR0.out))
  have b5 := HB4.out.trans (b45.mono HB4.out.size)
  have HB5 := Lib.hid (HB0.out.trans (b5.mono HB0.out.size))
  clear es es5 hb4 b45 b5 HR0 HR4 HB4 HB0
  go_wp2_with (first
    | (with_reducible refine wpList_store_row rfl 27 (.tmp 9) (.tmp 24) rfl w4.heap.size cs rfl rfl 27 z HG.out (by rw [HS.out]; exact size27) (by rw [HS.out, HZ.out]) HO.out ?_)
    | (with_reducible refine wpList_store_row rfl 29 (.tmp 10) (.tmp 25) rfl (w4.heap.size + 1) z rfl rfl 29 z HG5.out (by rw [HZ.out]; exact size29) rfl HZO.out ?_))
  clear HG HG5
  generalize ((((w4.alloc (.cells z 27)).setRow w4.heap.size cs).alloc (.cells z 29)).setRow (w4.heap.size + 1) z) = x5 at *
  have hs5 := HB5.out.size
  have HBX : Hid (Below x5.heap.size x5 x5) := Lib.hid (Below.refl _ _)
  have HRc : Hid (∀ X, Below x5.heap.size x5 X → (loadVar 29 ⟨g, 0, none⟩).run Try.prog X = .ok (.agg cs) X) := Lib.hid (fun X h => load29 HS.out HRc0.out h)
  have HRn : Hid (∀ X, Below x5.heap.size x5 X → (loadVar 29 ⟨w4.heap.size + 1, 0, none⟩).run Try.prog X = .ok (.agg z) X) := Lib.hid (fun X h => load29 HZ.out HRn0.out h)
  have HCt : Hid (∀ X, Below x5.heap.size x5 X → X.cell? ⟨w4.heap.size, c.toNat, none⟩ = some (.int .i64 (kc : Int))) := Lib.hid (fun X h => (cell_of_row X _ _ _ 27 (0, 0) ((h.block _ (txt_lt HRt0.out)).trans HRt0.out)).trans HAT.out)
  have HCL1 := Lib.hid (fun X (_ : Below x5.heap.size x5 X) => HCL.out X)
  have HRC1 := Lib.hid (fun X (h : Below x5.heap.size x5 X) => HRC.out X (HB5.out.trans (h.mono hs5)))
  have HLE1 := Lib.hid (fun X (_ : Below x5.heap.size x5 X) => HLE.out X)
  have HRL1 := Lib.hid (fun X (h : Below x5.heap.size x5 X) => HRL.out X (HB5.out.trans (h.mono hs5)))
  have HLZ1 := Lib.hid (fun X (_ : Below x5.heap.size x5 X) => HLZ.out X)
  have HCZ1 := Lib.hid (fun X (_ : Below x5.heap.size x5 X) => HCZ.out X)
  have HBZ1 := Lib.hid (fun X (_ : Below x5.heap.size x5 X) => HBZ.out X)
  have hlt := c.toNat_lt
  have hlt2 : (c.toNat : Int) < 256 := by omega
  clear HCL HRC HLE HRL HLZ HCZ HBZ HRc0 HRn0 HRt0 HD hz27 hz29 HTB HAT
  refine wp_region_held_drew (S := fun w' => Below x5.drew.heap.size x5.drew w') (by kernel_rfl) (Below.refl _ _) (fun hH0 => ?_)
  have B0 := Lib.hid (below_drews HBX.out 1)
  change Hid (Below _ _ x5.drew) at B0
  generalize x5.drew = y0 at *
  refine held_take (i := 0) (d := 26) (oi := _) (v := _) rfl rfl (by kernel_rfl) (by kernel_rfl) (by kernel_rfl) (fun _ _ _ h => h) (Or.inl ⟨by rfl, fun w hSw => exec_load rfl rfl (HRc.out w (B0.out.trans (hSw.mono B0.out.size)))⟩) (by assumption) ?_
  simp only [Act.put, List.setIfInBounds_toArray, List.set_cons_zero, List.set_cons_succ]
  refine held_take (i := 1) (d := 27) (oi := _) (v := ?_) rfl rfl (by kernel_rfl) (by kernel_rfl) (by kernel_rfl) (fun _ _ _ h => h) (Or.inl ⟨by rfl, ?_⟩) (by assumption) ?_
  rotate_left
  · (intro w hSw; clear hSw; go_simp; (try with_reducible rfl))
  simp only [Act.put, List.setIfInBounds_toArray, List.set_cons_zero, List.set_cons_succ]
  refine held_take (i := 3) (d := 29) (oi := _) (v := ?_) rfl rfl (by kernel_rfl) (by kernel_rfl) (by kernel_rfl) (fun _ _ _ h => h) (Or.inl ⟨by rfl, ?_⟩) (by assumption) ?_
  rotate_left
  · (intro w hSw; clear hSw; go_simp; (try with_reducible rfl))
  simp only [Act.put, List.setIfInBounds_toArray, List.set_cons_zero, List.set_cons_succ]
  refine held_take (i := 4) (d := 30) (oi := _) (v := ?_) rfl rfl (by kernel_rfl) (by kernel_rfl) (by kernel_rfl) (fun _ _ _ h => h) (Or.inl ⟨by rfl, ?_⟩) (by assumption) ?_
  rotate_left
  · (intro w hSw; clear hSw; go_simp; (try with_reducible rfl))
  simp only [Act.put, List.setIfInBounds_toArray, List.set_cons_zero, List.set_cons_succ]
  refine wpAnyH_ready (rs := [2]) (by kernel_rfl) (by simp) ?_
  refine AllReadyH.cons rfl (fun K hK => ?_) AllReadyH.nil
  go_simp
  go_wp2_with (go_at_call 11; (with_reducible refine (HCL1.out _ B0.out).mono ?_); rintro e x1 ⟨rfl, hb⟩)
  refine hK.out _ _ hb (fun _ => ?_)
  have B1 := Lib.hid (B0.out.trans (hb.mono B0.out.size))
  refine wpAnyH_more (S' := fun w' => Below x1.heap.size x1 w') (fun w' h => hb.trans (h.mono hb.size)) _ _ _ _ ?_
  have hH1 : Below x1.heap.size x1 x1 := Below.refl _ _
  clear hK K hH0 hb B0
  refine wpAnyH_ready (rs := [5]) (by kernel_rfl) (by simp) ?_
  refine AllReadyH.cons rfl (fun K hK => ?_) AllReadyH.nil
  go_simp
  go_wp2_with (go_at_call 12; (with_reducible refine (HRC1.out _ B1.out).mono ?_); rintro e x' ⟨rfl, rfl⟩)
  refine hK.out _ _ hH1 (fun _ => ?_)
  clear hK K
  refine held_take (i := 6) (d := 32) (oi := _) (v := ?_) rfl rfl (by kernel_rfl) (by kernel_rfl) (by kernel_rfl) (fun _ _ _ h => h) (Or.inl ⟨by rfl, ?_⟩) (by assumption) ?_
  rotate_left
  · (intro w hSw; clear hSw; go_simp; (try with_reducible rfl))
  simp only [Act.put, List.setIfInBounds_toArray, List.set_cons_zero, List.set_cons_succ]
  refine held_take (i := 7) (d := 33) (oi := _) (v := ?_) rfl rfl (by kernel_rfl) (by kernel_rfl) (by kernel_rfl) (fun _ _ _ h => h) (Or.inl ⟨by rfl, ?_⟩) (by assumption) ?_
  rotate_left
  · (intro w hSw; clear hSw; go_simp; (try with_reducible rfl))
  simp only [Act.put, List.setIfInBounds_toArray, List.set_cons_zero, List.set_cons_succ]
  refine held_take (i := 8) (d := 34) (oi := _) (v := ?_) rfl rfl (by kernel_rfl) (by kernel_rfl) (by kernel_rfl) (fun _ _ _ h => h) (Or.inl ⟨by rfl, ?_⟩) (by assumption) ?_
  rotate_left
  · (intro w hSw; clear hSw; go_simp; (try with_reducible rfl))
  simp only [Act.put, List.setIfInBounds_toArray, List.set_cons_zero, List.set_cons_succ]
  refine held_take (i := 9) (d := 35) (oi := _) (v := ?_) rfl rfl (by kernel_rfl) (by kernel_rfl) (by kernel_rfl) (fun _ _ _ h => h) (Or.inl ⟨by rfl, ?_⟩) (by assumption) ?_
  rotate_left
  · (intro w hSw; clear hSw; go_simp; (try with_reducible rfl))
  simp only [Act.put, List.setIfInBounds_toArray, List.set_cons_zero, List.set_cons_succ]
  refine held_take (i := 10) (d := 36) (oi := _) (v := ?_) rfl rfl (by kernel_rfl) (by kernel_rfl) (by kernel_rfl) (fun _ _ _ h => h) (Or.inl ⟨by rfl, ?_⟩) (by assumption) ?_
  rotate_left
  · (intro w hSw; have hld := HCt.out w (B1.out.trans (hSw.mono B1.out.size)); clear hSw; go_simp; (try with_reducible rfl))
  simp only [Act.put, List.setIfInBounds_toArray, List.set_cons_zero, List.set_cons_succ]
  refine held_take (i := 11) (d := 37) (oi := _) (v := _) rfl rfl (by kernel_rfl) (by kernel_rfl) (by kernel_rfl) (fun _ _ _ h => h) (Or.inl ⟨by rfl, fun w hSw => exec_load rfl rfl (HRc.out w (B1.out.trans (hSw.mono B1.out.size)))⟩) (by assumption) ?_
  simp only [Act.put, List.setIfInBounds_toArray, List.set_cons_zero, List.set_cons_succ]
  refine held_take (i := 12) (d := 38) (oi := _) (v := ?_) rfl rfl (by kernel_rfl) (by kernel_rfl) (by kernel_rfl) (fun _ _ _ h => h) (Or.inl ⟨by rfl, ?_⟩) (by assumption) ?_
  rotate_left
  · (intro w hSw; clear hSw; go_simp; (try with_reducible rfl))
  simp only [Act.put, List.setIfInBounds_toArray, List.set_cons_zero, List.set_cons_succ]
  refine wpAnyH_ready (rs := [13]) (by kernel_rfl) (by simp) ?_
  refine AllReadyH.cons rfl (fun K hK => ?_) AllReadyH.nil
  go_simp
  go_wp2_with (go_at_call 11; (with_reducible refine (HCL1.out _ B1.out).mono ?_); rintro e x2 ⟨rfl, hb⟩)
  refine hK.out _ _ hb (fun _ => ?_)
  have B2 := Lib.hid (B1.out.trans (hb.mono B1.out.size))
  refine wpAnyH_more (S' := fun w' => Below x2.heap.size x2 w') (fun w' h => hb.trans (h.mono hb.size)) _ _ _ _ ?_
  have hH2 : Below x2.heap.size x2 x2 := Below.refl _ _
  clear hK K hH1 hb B1
  refine held_take (i := 14) (d := 40) (oi := _) (v := ?_) rfl rfl (by kernel_rfl) (by kernel_rfl) (by kernel_rfl) (fun _ _ _ h => h) (Or.inl ⟨by rfl, ?_⟩) (by assumption) ?_
  rotate_left
  · (intro w hSw; clear hSw; go_simp; (try with_reducible rfl))
  simp only [Act.put, List.setIfInBounds_toArray, List.set_cons_zero, List.set_cons_succ]
  refine held_take (i := 15) (d := 41) (oi := _) (v := ?_) rfl rfl (by kernel_rfl) (by kernel_rfl) (by kernel_rfl) (fun _ _ _ h => h) (Or.inl ⟨by rfl, ?_⟩) (by assumption) ?_
  rotate_left
  · (intro w hSw; clear hSw; go_simp; (try with_reducible rfl))
  simp only [Act.put, List.setIfInBounds_toArray, List.set_cons_zero, List.set_cons_succ]
  refine held_take (i := 16) (d := 42) (oi := _) (v := ?_) rfl rfl (by kernel_rfl) (by kernel_rfl) (by kernel_rfl) (fun _ _ _ h => h) (Or.inl ⟨by rfl, ?_⟩) (by assumption) ?_
  rotate_left
  · (intro w hSw; clear hSw; go_simp; (try with_reducible rfl))
  simp only [Act.put, List.setIfInBounds_toArray, List.set_cons_zero, List.set_cons_succ]
  refine held_take (i := 17) (d := 43) (oi := _) (v := _) rfl rfl (by kernel_rfl) (by kernel_rfl) (by kernel_rfl) (fun _ _ _ h => h) (Or.inl ⟨by rfl, fun w hSw => exec_load rfl rfl (HRc.out w (B2.out.trans (hSw.mono B2.out.size)))⟩) (by assumption) ?_
  simp only [Act.put, List.setIfInBounds_toArray, List.set_cons_zero, List.set_cons_succ]
  refine held_take (i := 19) (d := 45) (oi := _) (v := ?_) rfl rfl (by kernel_rfl) (by kernel_rfl) (by kernel_rfl) (fun _ _ _ h => h) (Or.inl ⟨by rfl, ?_⟩) (by assumption) ?_
  rotate_left
  · (intro w hSw; clear hSw; go_simp; (try with_reducible rfl))
  simp only [Act.put, List.setIfInBounds_toArray, List.set_cons_zero, List.set_cons_succ]
  refine wpAnyH_ready (rs := [18]) (by kernel_rfl) (by simp) ?_
  refine AllReadyH.cons rfl (fun K hK => ?_) AllReadyH.nil
  go_simp
  go_wp2_with (go_at_call 13; (with_reducible refine (HLE1.out _ B2.out).mono ?_); rintro e x3 ⟨rfl, hb⟩)
  refine hK.out _ _ hb (fun _ => ?_)
  have B3 := Lib.hid (B2.out.trans (hb.mono B2.out.size))
  refine wpAnyH_more (S' := fun w' => Below x3.heap.size x3 w') (fun w' h => hb.trans (h.mono hb.size)) _ _ _ _ ?_
  have hH3 : Below x3.heap.size x3 x3 := Below.refl _ _
  clear hK K hH2 hb B2
  refine wpAnyH_ready (rs := [20]) (by kernel_rfl) (by simp) ?_
  refine AllReadyH.cons rfl (fun K hK => ?_) AllReadyH.nil
  go_simp
  go_wp2_with (go_at_call 14; (with_reducible refine (HRL1.out _ B3.out).mono ?_); rintro e x4 ⟨rfl, hb⟩)
  refine hK.out _ _ hb (fun _ => ?_)
  have B4 := Lib.hid (B3.out.trans (hb.mono B3.out.size))
  refine wpAnyH_more (S' := fun w' => Below x4.heap.size x4 w') (fun w' h => hb.trans (h.mono hb.size)) _ _ _ _ ?_
  have hH4 : Below x4.heap.size x4 x4 := Below.refl _ _
  clear hK K hH3 hb B3
  refine held_take (i := 21) (d := 47) (oi := _) (v := ?_) rfl rfl (by kernel_rfl) (by kernel_rfl) (by kernel_rfl) (fun _ _ _ h => h) (Or.inl ⟨by rfl, ?_⟩) (by assumption) ?_
  rotate_left
  · (intro w hSw; clear hSw; go_simp; (try with_reducible rfl))
  simp only [Act.put, List.setIfInBounds_toArray, List.set_cons_zero, List.set_cons_succ]
  refine held_take (i := 22) (d := 48) (oi := _) (v := ?_) rfl rfl (by kernel_rfl) (by kernel_rfl) (by kernel_rfl) (fun _ _ _ h => h) (Or.inl ⟨by rfl, ?_⟩) (by assumption) ?_
  rotate_left
  · (intro w hSw; clear hSw; go_simp; (try with_reducible rfl))
  simp only [Act.put, List.setIfInBounds_toArray, List.set_cons_zero, List.set_cons_succ]
  refine held_take (i := 23) (d := 49) (oi := _) (v := ?_) rfl rfl (by kernel_rfl) (by kernel_rfl) (by kernel_rfl) (fun _ _ _ h => h) (Or.inl ⟨by rfl, ?_⟩) (by assumption) ?_
  rotate_left
  · (intro w hSw; clear hSw; go_simp; (try with_reducible rfl))
  simp only [Act.put, List.setIfInBounds_toArray, List.set_cons_zero, List.set_cons_succ]
  refine held_take (i := 24) (d := 50) (oi := _) (v := _) rfl rfl (by kernel_rfl) (by kernel_rfl) (by kernel_rfl) (fun _ _ _ h => h) (Or.inl ⟨by rfl, fun w hSw => exec_load rfl rfl (HRn.out w (B4.out.trans (hSw.mono B4.out.size)))⟩) (by assumption) ?_
  simp only [Act.put, List.setIfInBounds_toArray, List.set_cons_zero, List.set_cons_succ]
  refine wpAnyH_ready (rs := [25]) (by kernel_rfl) (by simp) ?_
  refine AllReadyH.cons rfl (fun K hK => ?_) AllReadyH.nil
  go_simp
  go_wp2_with (go_at_call 13; (with_reducible refine (HLZ1.out _ B4.out).mono ?_); rintro e x5 ⟨rfl, hb⟩)
  refine hK.out _ _ hb (fun _ => ?_)
  have B5 := Lib.hid (B4.out.trans (hb.mono B4.out.size))
  refine wpAnyH_more (S' := fun w' => Below x5.heap.size x5 w') (fun w' h => hb.trans (h.mono hb.size)) _ _ _ _ ?_
  have hH5 : Below x5.heap.size x5 x5 := Below.refl _ _
  clear hK K hH4 hb B4
  refine held_take (i := 26) (d := 52) (oi := _) (v := ?_) rfl rfl (by kernel_rfl) (by kernel_rfl) (by kernel_rfl) (fun _ _ _ h => h) (Or.inl ⟨by rfl, ?_⟩) (by assumption) ?_
  rotate_left
  · (intro w hSw; clear hSw; go_simp; (try with_reducible rfl))
  simp only [Act.put, List.setIfInBounds_toArray, List.set_cons_zero, List.set_cons_succ]
  refine held_take (i := 27) (d := 53) (oi := _) (v := ?_) rfl rfl (by kernel_rfl) (by kernel_rfl) (by kernel_rfl) (fun _ _ _ h => h) (Or.inl ⟨by rfl, ?_⟩) (by assumption) ?_
  rotate_left
  · (intro w hSw; clear hSw; go_simp; (try with_reducible rfl))
  simp only [Act.put, List.setIfInBounds_toArray, List.set_cons_zero, List.set_cons_succ]
  refine held_take (i := 28) (d := 54) (oi := _) (v := ?_) rfl rfl (by kernel_rfl) (by kernel_rfl) (by kernel_rfl) (fun _ _ _ h => h) (Or.inl ⟨by rfl, ?_⟩) (by assumption) ?_
  rotate_left
  · (intro w hSw; clear hSw; go_simp; (try with_reducible rfl))
  simp only [Act.put, List.setIfInBounds_toArray, List.set_cons_zero, List.set_cons_succ]
  refine held_take (i := 29) (d := 55) (oi := _) (v := _) rfl rfl (by kernel_rfl) (by kernel_rfl) (by kernel_rfl) (fun _ _ _ h => h) (Or.inl ⟨by rfl, fun w hSw => exec_load rfl rfl (HRn.out w (B5.out.trans (hSw.mono B5.out.size)))⟩) (by assumption) ?_
  simp only [Act.put, List.setIfInBounds_toArray, List.set_cons_zero, List.set_cons_succ]
  refine held_take (i := 30) (d := 56) (oi := _) (v := ?_) rfl rfl (by kernel_rfl) (by kernel_rfl) (by kernel_rfl) (fun _ _ _ h => h) (Or.inl ⟨by rfl, ?_⟩) (by assumption) ?_
  rotate_left
  · (intro w hSw; clear hSw; go_simp; (try with_reducible rfl))
  simp only [Act.put, List.setIfInBounds_toArray, List.set_cons_zero, List.set_cons_succ]
  refine wpAnyH_ready (rs := [31]) (by kernel_rfl) (by simp) ?_
  refine AllReadyH.cons rfl (fun K hK => ?_) AllReadyH.nil
  go_simp
  go_wp2_with (go_at_call 11; (with_reducible refine (HCZ1.out _ B5.out).mono ?_); rintro e x6 ⟨rfl, hb⟩)
  refine hK.out _ _ hb (fun _ => ?_)
  have B6 := Lib.hid (B5.out.trans (hb.mono B5.out.size))
  refine wpAnyH_more (S' := fun w' => Below x6.heap.size x6 w') (fun w' h => hb.trans (h.mono hb.size)) _ _ _ _ ?_
  have hH6 : Below x6.heap.size x6 x6 := Below.refl _ _
  clear hK K hH5 hb B5
  refine held_take (i := 32) (d := 58) (oi := _) (v := ?_) rfl rfl (by kernel_rfl) (by kernel_rfl) (by kernel_rfl) (fun _ _ _ h => h) (Or.inl ⟨by rfl, ?_⟩) (by assumption) ?_
  rotate_left
  · (intro w hSw; clear hSw; go_simp; (try with_reducible rfl))
  simp only [Act.put, List.setIfInBounds_toArray, List.set_cons_zero, List.set_cons_succ]
  refine held_take (i := 33) (d := 59) (oi := _) (v := ?_) rfl rfl (by kernel_rfl) (by kernel_rfl) (by kernel_rfl) (fun _ _ _ h => h) (Or.inl ⟨by rfl, ?_⟩) (by assumption) ?_
  rotate_left
  · (intro w hSw; clear hSw; go_simp; (try with_reducible rfl))
  simp only [Act.put, List.setIfInBounds_toArray, List.set_cons_zero, List.set_cons_succ]
  refine held_take (i := 34) (d := 60) (oi := _) (v := ?_) rfl rfl (by kernel_rfl) (by kernel_rfl) (by kernel_rfl) (fun _ _ _ h => h) (Or.inl ⟨by rfl, ?_⟩) (by assumption) ?_
  rotate_left
  · (intro w hSw; clear hSw; go_simp; (try with_reducible rfl))
  simp only [Act.put, List.setIfInBounds_toArray, List.set_cons_zero, List.set_cons_succ]
  refine held_take (i := 35) (d := 61) (oi := _) (v := _) rfl rfl (by kernel_rfl) (by kernel_rfl) (by kernel_rfl) (fun _ _ _ h => h) (Or.inl ⟨by rfl, fun w hSw => exec_load rfl rfl (HRn.out w (B6.out.trans (hSw.mono B6.out.size)))⟩) (by assumption) ?_
  simp only [Act.put, List.setIfInBounds_toArray, List.set_cons_zero, List.set_cons_succ]
  refine wpAnyH_ready (rs := [36]) (by kernel_rfl) (by simp) ?_
  refine AllReadyH.cons rfl (fun K hK => ?_) AllReadyH.nil
  go_simp
  go_wp2_with (go_at_call 15; (with_reducible refine (HBZ1.out _ B6.out).mono ?_); rintro e x7 ⟨a, cap, rfl, hb⟩)
  refine hK.out _ _ hb (fun _ => ?_)
  have B7 := Lib.hid (B6.out.trans (hb.mono B6.out.size))
  refine wpAnyH_more (S' := fun w' => Below x7.heap.size x7 w') (fun w' h => hb.trans (h.mono hb.size)) _ _ _ _ ?_
  have hH7 : Below x7.heap.size x7 x7 := Below.refl _ _
  clear hK K hH6 hb B6
  refine held_take (i := 37) (d := 63) (oi := _) (v := ?_) rfl rfl (by kernel_rfl) (by kernel_rfl) (by kernel_rfl) (fun _ _ _ h => h) (Or.inl ⟨by rfl, ?_⟩) (by assumption) ?_
  rotate_left
  · (intro w hSw; clear hSw; go_simp; (try with_reducible rfl))
  simp only [Act.put, List.setIfInBounds_toArray, List.set_cons_zero, List.set_cons_succ]
  refine held_take (i := 38) (d := 64) (oi := _) (v := ?_) rfl rfl (by kernel_rfl) (by kernel_rfl) (by kernel_rfl) (fun _ _ _ h => h) (Or.inl ⟨by rfl, ?_⟩) (by assumption) ?_
  rotate_left
  · (intro w hSw; clear hSw; go_simp; (try with_reducible rfl))
  simp only [Act.put, List.setIfInBounds_toArray, List.set_cons_zero, List.set_cons_succ]
  refine held_take (i := 39) (d := 65) (oi := _) (v := ?_) rfl rfl (by kernel_rfl) (by kernel_rfl) (by kernel_rfl) (fun _ _ _ h => h) (Or.inl ⟨by rfl, ?_⟩) (by assumption) ?_
  rotate_left
  · (intro w hSw; clear hSw; go_simp; (try with_reducible rfl))
  simp only [Act.put, List.setIfInBounds_toArray, List.set_cons_zero, List.set_cons_succ]
  refine held_take (i := 40) (d := 4) (oi := _) (v := ?_) rfl rfl (by kernel_rfl) (by kernel_rfl) (by kernel_rfl) (fun _ _ _ h => h) (Or.inl ⟨by rfl, ?_⟩) (by assumption) ?_
  rotate_left
  · (intro w hSw; clear hSw; go_simp; (try with_reducible rfl))
  simp only [Act.put, List.setIfInBounds_toArray, List.set_cons_zero, List.set_cons_succ]
  refine wpAnyH_done (by kernel_rfl) ?_ _
  go_wp2
  go_ret
  exact ⟨rfl, HB.out.trans ((HB5.out.trans (B7.out.mono hs5)).mono hszw)⟩
set_option maxHeartbeats 8000000 in
theorem walk (w : World) (xs : List TxV) (a0 : Option Addr) (cap0 : Nat) (hz0 : xs.length ≤ 6000000000000) (hx0 : ∀ x ∈ xs, x.text.length ≤ maxLen) (hts : Ts w a0 xs) (c : UInt8) :
    Calls Try.prog 3 #[.slice a0 xs.length cap0, .int .u8 (c.toNat : Int)] w fun e w' => e = .returned (.bool true) ∧ Below w.heap.size w w' := by
  by_cases hall : xs.length ≤ 12 ∧ (∀ x ∈ xs, x.text.length ≤ 40)
  · exact small w xs a0 cap0 hts hall.1 hall.2 c
  · have HALL := Lib.hid hall
    have HX := Lib.hid hx0
    clear hall hx0
    go_enter Try.func3, Try.ntmps3
    go_wp2_with fail
    refine (awake_any _).mono ?_
    rintro e' w1 ⟨rfl, hb2⟩
    have ts1 := hts.keep hb2
    go_wp2_with fail
    refine (ltexts_any xs a0 cap0 w1 ts1 hz0 HX.out).mono ?_
    rintro e' w2 ⟨hb3, hcase⟩
    have B2 := hb2.trans (hb3.mono hb2.size)
    rcases hcase with ⟨_, rfl⟩ | ⟨hok, aL, cL, rfl, _⟩
    · go_wp2
      go_ret
      exact ⟨rfl, B2⟩
    · have h12 : ¬ xs.length ≤ 12 := fun h => HALL.out ⟨h, hok⟩
      rw [decide_eq_false h12]
      clear HALL hok
      go_wp2
      go_ret
      exact ⟨rfl, B2⟩
end Go.Proofs.Ytlepabeibniabaa.classesTell
