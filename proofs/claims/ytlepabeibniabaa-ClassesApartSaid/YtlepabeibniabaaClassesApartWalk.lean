/- The walk of ClassesApart. -/
import Derived.Test.YtlepabeibniabaaCg
namespace Go.Proofs.Ytlepabeibniabaa.classesApart
open Go.Proofs.Ytlepabeibniabaa.Tri Go.Proofs.Ytlepabeibniabaa.Cls Go.Proofs.Ytlepabeibniabaa.Reg Go.RowKit Go.Maps
set_option maxRecDepth 100000
set_option linter.unusedVariables false
theorem flat_le (l : List (List UInt8)) (n : Nat) (h : ∀ t ∈ l, t.length ≤ n) : l.flatten.length ≤ n * l.length := by
  induction l with
  | nil => simp
  | cons t l ih =>
    have h1 := h t (by simp)
    have h2 := ih (fun t ht => h t (by simp [ht]))
    rw [List.flatten_cons, List.length_append, List.length_cons, Nat.mul_succ]
    exact Nat.add_comm _ _ ▸ Nat.add_le_add h2 h1
theorem u8_same (c d : UInt8) : ((c.toNat : Int) == (d.toNat : Int)) = decide (c = d) := by
  rw [Bool.eq_iff_iff, beq_iff_eq, decide_eq_true_iff]
  constructor
  · intro h; exact UInt8.toNat_inj.1 (by omega)
  · intro h; rw [h]
theorem ap1 (f : UInt8 → Bool) (c d : UInt8) : ((cls f c : Int) == (cls f d : Int)) = (decide (c = d) || (!f c && !f d)) := by
  rw [Bool.eq_iff_iff, beq_iff_eq, Int.ofNat_inj, cls_eq]
  simp
theorem ap2 (f : UInt8 → Bool) (c : UInt8) : ((cls f c : Int) == 0) = !f c := by
  have h := cls_pos f c
  cases e : f c with
  | true => have := h.2 e; rw [beq_eq_false_iff_ne.2 (by omega)]; rfl
  | false => rw [cls_zero e]; rfl

set_option maxHeartbeats 8000000 in
theorem small (w : World) (xs : List TxV) (a0 : Option Addr) (cap0 : Nat) (hts : Ts w a0 xs) (h0 : xs.length ≤ 12) (hx : ∀ x ∈ xs, x.text.length ≤ 40) (c d : UInt8) :
    Calls Try.prog 4 #[.slice a0 xs.length cap0, .int .u8 (c.toNat : Int), .int .u8 (d.toNat : Int)] w fun e w' => e = .returned (.bool true) ∧ Below w.heap.size w w' := by
  have hx' : ∀ x ∈ xs, x.text.length ≤ maxLen := fun x h => Nat.le_trans (hx x h) (by unfold maxLen; omega)
  have HX := Lib.hid hx
  have HX' := Lib.hid hx'
  have HAW := Lib.hid (awake_any w)
  clear hx hx'
  go_enter Try.func4, Try.ntmps4
  go_wp2_with fail
  refine HAW.out.mono ?_
  rintro e' w1 ⟨rfl, hb2⟩
  have ts1 := hts.keep hb2
  go_wp2_with fail
  refine (ltexts_any xs a0 cap0 w1 ts1 (by omega) HX'.out).mono ?_
  rintro e' w2 ⟨hb3, hcase⟩
  rcases hcase with ⟨hbad, _⟩ | ⟨_, aL, cL, rfl, hsL⟩
  · exact absurd HX.out hbad
  rw [decide_eq_true h0]
  have HTS := Lib.hid (ts1.keep hb3)
  have HB := Lib.hid (hb2.trans (hb3.mono hb2.size))
  have hszw := HB.out.size
  obtain ⟨l, hl⟩ : ∃ l, l = xs.map TxV.text := ⟨_, rfl⟩
  have HOF : Hid (∀ X, Below w2.heap.size w2 X → Calls Try.prog 9 #[.slice a0 xs.length cap0] X fun e w' => e = .returned (.agg (cc (stands l))) ∧ Below X.heap.size X w') := Lib.hid fun X hX => by
    have := of_any9 xs a0 cap0 X (HTS.out.keep hX) (by omega) (fun x h => Nat.le_trans (HX.out x h) (by omega))
    rwa [← hl] at this
  have HST : Hid (∀ X c, Below w2.heap.size w2 X → Calls Try.prog 16 #[.slice a0 xs.length cap0, .int .u8 (c.toNat : Int)] X fun e w' => e = .returned (.bool (stands l c)) ∧ w' = X) := Lib.hid fun X c hX => by
    have := stands_any xs a0 cap0 X (HTS.out.keep hX) (by omega) (fun x h => Nat.le_trans (HX.out x h) (by omega)) c
    rwa [← hl] at this
  have HLN : Hid (xs.length = l.length) := Lib.hid (by rw [hl]; simp)
  have HFL : Hid (l.flatten.length ≤ 480) := Lib.hid (by
    have h := flat_le l 40 (fun t h => by
      rw [hl] at h
      obtain ⟨y, hy, rfl⟩ := List.mem_map.1 h
      exact HX.out y hy)
    have := HLN.out
    omega)
  rw [← hl] at hsL
  have HSL := Lib.hid hsL
  have HLL := Lib.hid hl
  have HX0 := HX
  clear HX HX' HAW hb2 hb3 ts1 hsL hts hl
  have HZ := Lib.hid (cc_size (fun _ => false))
  have hz29 := zero29
  generalize cc (fun _ => false) = z at *
  go_wp2_with fail
  refine (HOF.out w2 (Below.refl _ _)).mono ?_
  rintro e3 w3 ⟨rfl, hb3⟩
  have HS := Lib.hid (cc_size (stands l))
  have HO := Lib.hid (cc_one (stands l))
  have HCA := Lib.hid (fun X (_ : Below w2.heap.size w2 X) => class_any (stands l) c X)
  have HCB := Lib.hid (fun X (_ : Below w2.heap.size w2 X) => class_any (stands l) d X)
  have HSA := Lib.hid (fun X h => HST.out X c h)
  have HSB := Lib.hid (fun X h => HST.out X d h)
  have hcd := u8_same c d
  have hab := ap1 (stands l) c d
  have hc0 := ap2 (stands l) c
  generalize cc (stands l) = cs at *
  generalize stands l c = sc at *
  generalize stands l d = sd at *
  generalize cls (stands l) c = kc at *
  generalize cls (stands l) d = kd at *
  generalize decide (c = d) = bE at *
  have es : ((w3.alloc (.cells z 29)).setRow w3.heap.size cs) = w3.alloc (.cells cs 29) := World.setRow_alloc_new _ _ _ _
  have hb0 : Below w2.heap.size w2 ((w3.alloc (.cells z 29)).setRow w3.heap.size cs) := by rw [es]; exact hb3.alloc hb3.size _
  have HR : Hid (∀ X, Below ((w3.alloc (.cells z 29)).setRow w3.heap.size cs).heap.size ((w3.alloc (.cells z 29)).setRow w3.heap.size cs) X → (loadVar 29 ⟨w3.heap.size, 0, none⟩).run Try.prog X = .ok (.agg cs) X) := Lib.hid (fun X h => by
    obtain ⟨fs, hd⟩ := Cls.some29
    exact run_loadVar_row X w3.heap.size 29 29 cs (0, 0) _ ((h.block _ (by rw [es]; simp)).trans (by rw [es]; exact heap_alloc_new w3 _)) hd rfl (by rw [HS.out]; exact size29))
  have HB0 := Lib.hid hb0
  have hs0 := hb0.size
  have HG := Lib.hid (heap_alloc_new w3 (.cells z 29))
  clear es hb0 hb3 HSL HTS HLL HX0 HLN HFL HOF HST
  have hcase : bE = true ∨ (bE = false ∧ sc = true) ∨ (bE = false ∧ sc = false ∧ sd = true) ∨ (bE = false ∧ sc = false ∧ sd = false) := by cases bE <;> cases sc <;> cases sd <;> simp
  have hab2 : ∀ al, al = (bE || !sc && !sd) → (((kc : Int) == (kd : Int)) == al) = true := fun al e => by rw [hab, e]; exact beq_self_eq_true _
  rcases hcase with rfl | ⟨rfl, rfl⟩ | ⟨rfl, rfl, rfl⟩ | ⟨rfl, rfl, rfl⟩
  all_goals go_wp2_with (first
    | (with_reducible refine wpList_store_row rfl 29 (.tmp 10) (.tmp 23) rfl w3.heap.size cs rfl rfl 29 z HG.out (by rw [HS.out]; exact size29) (by rw [HS.out, HZ.out]) HO.out ?_)
    | (go_at_call 16; (first | (with_reducible refine (HSA.out _ HB0.out).mono ?_) | (with_reducible refine (HSB.out _ HB0.out).mono ?_)); rintro e' x' ⟨rfl, rfl⟩))
  all_goals generalize ((w3.alloc (.cells z 29)).setRow w3.heap.size cs) = x0 at *
  all_goals generalize w3.heap.size = g at *
  all_goals (
    have HBX : Hid (Below x0.heap.size x0 x0) := Lib.hid (Below.refl _ _)
    have HSQ := Lib.hid (fun X (h : Below x0.heap.size x0 X) => (HSA.out X (HB0.out.trans (h.mono hs0))).mono fun e w' h => And.intro h.1 h.2.symm)
    have HCA1 := Lib.hid (fun X (h : Below x0.heap.size x0 X) => HCA.out X (HB0.out.trans (h.mono hs0)))
    have HCB1 := Lib.hid (fun X (h : Below x0.heap.size x0 X) => HCB.out X (HB0.out.trans (h.mono hs0)))
    refine wp_region_held_drew (S := fun w' => Below x0.drew.heap.size x0.drew w') (by kernel_rfl) (Below.refl _ _) (fun hH0 => ?_)
    have B0 := Lib.hid (below_drews HBX.out 1)
    change Hid (Below _ _ x0.drew) at B0
    generalize x0.drew = y0 at *
    refine held_take (i := 0) (d := 39) (oi := _) (v := _) rfl rfl (by kernel_rfl) (by kernel_rfl) (by kernel_rfl) (fun _ _ _ h => h) (Or.inl ⟨by rfl, fun w hSw => exec_load rfl rfl (HR.out w (B0.out.trans (hSw.mono B0.out.size)))⟩) (by assumption) ?_
    simp only [Act.put, List.setIfInBounds_toArray, List.set_cons_zero, List.set_cons_succ]
    refine held_take (i := 1) (d := 40) (oi := _) (v := ?_) rfl rfl (by kernel_rfl) (by kernel_rfl) (by kernel_rfl) (fun _ _ _ h => h) (Or.inl ⟨by rfl, ?_⟩) (by assumption) ?_
    rotate_left
    · (intro w hSw; clear hSw; go_simp; (try with_reducible rfl))
    simp only [Act.put, List.setIfInBounds_toArray, List.set_cons_zero, List.set_cons_succ]
    refine held_take (i := 3) (d := 42) (oi := _) (v := _) rfl rfl (by kernel_rfl) (by kernel_rfl) (by kernel_rfl) (fun _ _ _ h => h) (Or.inl ⟨by rfl, fun w hSw => exec_load rfl rfl (HR.out w (B0.out.trans (hSw.mono B0.out.size)))⟩) (by assumption) ?_
    simp only [Act.put, List.setIfInBounds_toArray, List.set_cons_zero, List.set_cons_succ]
    refine held_take (i := 4) (d := 43) (oi := _) (v := ?_) rfl rfl (by kernel_rfl) (by kernel_rfl) (by kernel_rfl) (fun _ _ _ h => h) (Or.inl ⟨by rfl, ?_⟩) (by assumption) ?_
    rotate_left
    · (intro w hSw; clear hSw; go_simp; (try with_reducible rfl))
    simp only [Act.put, List.setIfInBounds_toArray, List.set_cons_zero, List.set_cons_succ]
    refine held_take (i := 7) (d := 46) (oi := _) (v := ?_) rfl rfl (by kernel_rfl) (by kernel_rfl) (by kernel_rfl) (fun _ _ _ h => h) (Or.inl ⟨by rfl, ?_⟩) (by assumption) ?_
    rotate_left
    · (intro w hSw; clear hSw; go_simp; (try with_reducible rfl))
    simp only [Act.put, List.setIfInBounds_toArray, List.set_cons_zero, List.set_cons_succ]
    refine wpAnyH_ready (rs := [2]) (by kernel_rfl) (by simp) ?_
    refine AllReadyH.cons rfl (fun K hK => ?_) AllReadyH.nil
    go_simp
    go_wp2_with (go_at_call 11; (with_reducible refine (HCA1.out _ B0.out).mono ?_); rintro e x1 ⟨rfl, hb⟩)
    refine hK.out _ _ hb (fun _ => ?_)
    have B1 := Lib.hid (B0.out.trans (hb.mono B0.out.size))
    refine wpAnyH_more (S' := fun w' => Below x1.heap.size x1 w') (fun w' h => hb.trans (h.mono hb.size)) _ _ _ _ ?_
    have hH1 : Below x1.heap.size x1 x1 := Below.refl _ _
    clear hK K hH0 hb B0
    refine wpAnyH_ready (rs := [5]) (by kernel_rfl) (by simp) ?_
    refine AllReadyH.cons rfl (fun K hK => ?_) AllReadyH.nil
    go_simp
    go_wp2_with (go_at_call 11; (with_reducible refine (HCB1.out _ B1.out).mono ?_); rintro e x2 ⟨rfl, hb⟩)
    refine hK.out _ _ hb (fun _ => ?_)
    have B2 := Lib.hid (B1.out.trans (hb.mono B1.out.size))
    refine wpAnyH_more (S' := fun w' => Below x2.heap.size x2 w') (fun w' h => hb.trans (h.mono hb.size)) _ _ _ _ ?_
    have hH2 : Below x2.heap.size x2 x2 := Below.refl _ _
    clear hK K hH1 hb B1
    refine held_take (i := 6) (d := 45) (oi := _) (v := ?_) rfl rfl (by kernel_rfl) (by kernel_rfl) (by kernel_rfl) (fun _ _ _ h => h) (Or.inl ⟨by rfl, ?_⟩) (by assumption) ?_
    rotate_left
    · (intro w hSw; clear hSw; go_simp; (try with_reducible rfl))
    simp only [Act.put, List.setIfInBounds_toArray, List.set_cons_zero, List.set_cons_succ]
    refine held_take (i := 8) (d := 47) (oi := _) (v := ?_) rfl rfl (by kernel_rfl) (by kernel_rfl) (by kernel_rfl) (fun _ _ _ h => h) (Or.inl ⟨by rfl, ?_⟩) (by assumption) ?_
    rotate_left
    · (intro w hSw; clear hSw; go_simp; (try with_reducible rfl))
    simp only [Act.put, List.setIfInBounds_toArray, List.set_cons_zero, List.set_cons_succ]
    refine held_take (i := 9) (d := 48) (oi := _) (v := ?_) rfl rfl (by kernel_rfl) (by kernel_rfl) (by kernel_rfl) (fun _ _ _ h => h) (Or.inl ⟨by rfl, ?_⟩) (by assumption) ?_
    rotate_left
    · (intro w hSw; clear hSw; go_simp; (try with_reducible rfl))
    simp only [Act.put, List.setIfInBounds_toArray, List.set_cons_zero, List.set_cons_succ]
    refine held_take (i := 10) (d := 49) (oi := _) (v := _) rfl rfl (by kernel_rfl) (by kernel_rfl) (by kernel_rfl) (fun _ _ _ h => h) (Or.inl ⟨by rfl, fun w hSw => exec_load rfl rfl (HR.out w (B2.out.trans (hSw.mono B2.out.size)))⟩) (by assumption) ?_
    simp only [Act.put, List.setIfInBounds_toArray, List.set_cons_zero, List.set_cons_succ]
    refine held_take (i := 11) (d := 50) (oi := _) (v := ?_) rfl rfl (by kernel_rfl) (by kernel_rfl) (by kernel_rfl) (fun _ _ _ h => h) (Or.inl ⟨by rfl, ?_⟩) (by assumption) ?_
    rotate_left
    · (intro w hSw; clear hSw; go_simp; (try with_reducible rfl))
    simp only [Act.put, List.setIfInBounds_toArray, List.set_cons_zero, List.set_cons_succ]
    refine held_take (i := 14) (d := 53) (oi := _) (v := ?_) rfl rfl (by kernel_rfl) (by kernel_rfl) (by kernel_rfl) (fun _ _ _ h => h) (Or.inl ⟨by rfl, ?_⟩) (by assumption) ?_
    rotate_left
    · (intro w hSw; clear hSw; go_simp; (try with_reducible rfl))
    simp only [Act.put, List.setIfInBounds_toArray, List.set_cons_zero, List.set_cons_succ]
    refine held_take (i := 15) (d := 54) (oi := _) (v := ?_) rfl rfl (by kernel_rfl) (by kernel_rfl) (by kernel_rfl) (fun _ _ _ h => h) (Or.inl ⟨by rfl, ?_⟩) (by assumption) ?_
    rotate_left
    · (intro w hSw; clear hSw; go_simp; (try with_reducible rfl))
    simp only [Act.put, List.setIfInBounds_toArray, List.set_cons_zero, List.set_cons_succ]
    refine wpAnyH_ready (rs := [12]) (by kernel_rfl) (by simp) ?_
    refine AllReadyH.cons rfl (fun K hK => ?_) AllReadyH.nil
    go_simp
    go_wp2_with (go_at_call 11; (with_reducible refine (HCA1.out _ B2.out).mono ?_); rintro e x3 ⟨rfl, hb⟩)
    refine hK.out _ _ hb (fun _ => ?_)
    have B3 := Lib.hid (B2.out.trans (hb.mono B2.out.size))
    refine wpAnyH_more (S' := fun w' => Below x3.heap.size x3 w') (fun w' h => hb.trans (h.mono hb.size)) _ _ _ _ ?_
    have hH3 : Below x3.heap.size x3 x3 := Below.refl _ _
    clear hK K hH2 hb B2
    refine held_take (i := 13) (d := 52) (oi := _) (v := ?_) rfl rfl (by kernel_rfl) (by kernel_rfl) (by kernel_rfl) (fun _ _ _ h => h) (Or.inl ⟨by rfl, ?_⟩) (by assumption) ?_
    rotate_left
    · (intro w hSw; clear hSw; go_simp; (try with_reducible rfl))
    simp only [Act.put, List.setIfInBounds_toArray, List.set_cons_zero, List.set_cons_succ]
    refine wpAnyH_ready (rs := [16]) (by kernel_rfl) (by simp) ?_
    refine AllReadyH.cons rfl (fun K hK => ?_) AllReadyH.nil
    go_simp
    go_wp2_with (go_at_call 16; (with_reducible refine (HSQ.out _ B3.out).mono ?_); rintro e x' ⟨rfl, rfl⟩)
    refine hK.out _ _ hH3 (fun _ => ?_)
    clear hK K
    refine held_take (i := 17) (d := 56) (oi := _) (v := ?_) rfl rfl (by kernel_rfl) (by kernel_rfl) (by kernel_rfl) (fun _ _ _ h => h) (Or.inl ⟨by rfl, ?_⟩) (by assumption) ?_
    rotate_left
    · (intro w hSw; clear hSw; go_simp; (try with_reducible rfl))
    simp only [Act.put, List.setIfInBounds_toArray, List.set_cons_zero, List.set_cons_succ]
    refine held_take (i := 18) (d := 57) (oi := _) (v := ?_) rfl rfl (by kernel_rfl) (by kernel_rfl) (by kernel_rfl) (fun _ _ _ h => h) (Or.inl ⟨by rfl, ?_⟩) (by assumption) ?_
    rotate_left
    · (intro w hSw; clear hSw; go_simp; (try with_reducible rfl))
    simp only [Act.put, List.setIfInBounds_toArray, List.set_cons_zero, List.set_cons_succ]
    refine held_take (i := 19) (d := 58) (oi := _) (v := ?_) rfl rfl (by kernel_rfl) (by kernel_rfl) (by kernel_rfl) (fun _ _ _ h => h) (Or.inl ⟨by rfl, ?_⟩) (by assumption) ?_
    rotate_left
    · (intro w hSw; clear hSw; go_simp; (try with_reducible rfl))
    simp only [Act.put, List.setIfInBounds_toArray, List.set_cons_zero, List.set_cons_succ]
    refine held_take (i := 20) (d := 6) (oi := _) (v := ?_) rfl rfl (by kernel_rfl) (by kernel_rfl) (by kernel_rfl) (fun _ _ _ h => h) (Or.inl ⟨by rfl, ?_⟩) (by assumption) ?_
    rotate_left
    · (intro w hSw; clear hSw; go_simp; (try with_reducible rfl))
    simp only [Act.put, List.setIfInBounds_toArray, List.set_cons_zero, List.set_cons_succ]
    refine wpAnyH_done (by kernel_rfl) ?_ _
    go_wp2
    go_ret
    exact ⟨rfl, HB.out.trans ((HB0.out.trans (B3.out.mono hs0)).mono hszw)⟩)
set_option maxHeartbeats 8000000 in
theorem walk (w : World) (xs : List TxV) (a0 : Option Addr) (cap0 : Nat) (hz0 : xs.length ≤ 6000000000000) (hx0 : ∀ x ∈ xs, x.text.length ≤ maxLen) (hts : Ts w a0 xs) (c d : UInt8) :
    Calls Try.prog 4 #[.slice a0 xs.length cap0, .int .u8 (c.toNat : Int), .int .u8 (d.toNat : Int)] w fun e w' => e = .returned (.bool true) ∧ Below w.heap.size w w' := by
  by_cases hall : xs.length ≤ 12 ∧ (∀ x ∈ xs, x.text.length ≤ 40)
  · exact small w xs a0 cap0 hts hall.1 hall.2 c d
  · have HALL := Lib.hid hall
    have HX := Lib.hid hx0
    clear hall hx0
    go_enter Try.func4, Try.ntmps4
    go_wp2_with fail
    refine (awake_any _).mono ?_
    rintro e' w1 ⟨rfl, hb2⟩
    have ts1 := hts.keep hb2
    go_wp2_with fail
    refine (ltexts_any xs a0 cap0 w1 ts1 hz0 HX.out).mono ?_
    rintro e' w2 ⟨hb3, hcase⟩
    have B2 := hb2.trans (hb3.mono hb2.size)
    rcases hcase with ⟨_, rfl⟩ | ⟨hok, aL, cL, rfl, _⟩
    · go_wp2
      go_ret
      exact ⟨rfl, B2⟩
    · have h12 : ¬ xs.length ≤ 12 := fun h => HALL.out ⟨h, hok⟩
      rw [decide_eq_false h12]
      clear HALL hok
      go_wp2
      go_ret
      exact ⟨rfl, B2⟩
end Go.Proofs.Ytlepabeibniabaa.classesApart
