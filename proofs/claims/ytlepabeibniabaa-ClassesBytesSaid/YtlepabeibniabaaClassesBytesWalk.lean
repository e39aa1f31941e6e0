/- The walk of ClassesBytes. -/
import Derived.Test.YtlepabeibniabaaCg
namespace Go.Proofs.Ytlepabeibniabaa.classesBytes
open Go.Proofs.Ytlepabeibniabaa.Tri Go.Proofs.Ytlepabeibniabaa.Cls Go.Proofs.Ytlepabeibniabaa.Reg Go.RowKit Go.Maps
set_option maxRecDepth 100000
set_option linter.unusedVariables false
theorem flat_le (l : List (List UInt8)) (n : Nat) (h : ∀ t ∈ l, t.length ≤ n) : l.flatten.length ≤ n * l.length := by
  induction l with
  | nil => simp
  | cons t l ih =>
    have h1 := h t (by simp)
    have h2 := ih (fun t ht => h t (by simp [ht]))
    rw [List.flatten_cons, List.length_append, List.length_cons, Nat.mul_succ]
    exact Nat.add_comm _ _ ▸ Nat.add_le_add h2 h1

theorem sum_le (f : UInt8 → Bool) (m : Nat) (h : m ≤ cnt f + 1) : sumTo f m ≤ 256 := by
  have hc := cnt_le f
  cases m with
  | zero => simp [sumTo]
  | succ m => rw [sum_eq f m (by omega)]; omega
theorem cls_list (f : UInt8 → Bool) (m : Nat) : upTo (fun c => decide ((cls f c : Int) = (m : Int))) 256 = ofCls f m := by
  unfold ofCls
  exact upTo_congr (fun c => by rw [Bool.eq_iff_iff, decide_eq_true_iff, decide_eq_true_iff]; exact Int.ofNat_inj) 256
theorem cls_rise (f : UInt8 → Bool) (m j : Nat) (b1 b2 : UInt8) (h1 : (ofCls f m)[j]? = some b1) (h2 : (ofCls f m)[j + 1]? = some b2) : b1.toNat < b2.toNat := by
  obtain ⟨q1, rfl⟩ := List.getElem?_eq_some_iff.1 h1
  obtain ⟨q2, rfl⟩ := List.getElem?_eq_some_iff.1 h2
  exact upTo_step _ j q2
theorem cls_of (f : UInt8 → Bool) (m j : Nat) (h : j < (ofCls f m).length) : cls f ((ofCls f m)[j]) = m := (mem_ofCls f m _).1 (List.getElem_mem h)
theorem len_one (f : UInt8 → Bool) (m : Nat) (h0 : 0 < m) (h : m ≤ cnt f) : (ofCls f m).length = 1 := by
  obtain ⟨c, e⟩ := ofCls_one f m h0 h
  rw [e]; rfl
theorem none_list (f : UInt8 → Bool) (k : Int) (h : ¬ (0 ≤ k ∧ k < (cnt f : Int) + 1)) : upTo (fun c => decide ((cls f c : Int) = k)) 256 = [] := by
  refine List.eq_nil_iff_forall_not_mem.2 fun c hc => ?_
  have h1 := of_decide_eq_true ((mem_all _ c).1 hc)
  have h2 := cls_le f c
  omega
set_option maxHeartbeats 8000000 in
theorem small (w : World) (xs : List TxV) (a0 : Option Addr) (cap0 : Nat) (hts : Ts w a0 xs) (h0 : xs.length ≤ 12) (hx : ∀ x ∈ xs, x.text.length ≤ 40) (k : Int) :
    Calls Try.prog 5 #[.slice a0 xs.length cap0, .int .i64 k] w fun e w' => e = .returned (.bool true) ∧ Below w.heap.size w w' := by
  have hx' : ∀ x ∈ xs, x.text.length ≤ maxLen := fun x h => Nat.le_trans (hx x h) (by unfold maxLen; omega)
  have HX := Lib.hid hx
  have HX' := Lib.hid hx'
  have HAW := Lib.hid (awake_any w)
  clear hx hx'
  go_enter Try.func5, Try.ntmps5
  go_wp2_with fail
  refine HAW.out.mono ?_
  rintro e' w1 ⟨rfl, hb2⟩
  have ts1 := hts.keep hb2
  go_wp2_with fail
  refine (ltexts_any xs a0 cap0 w1 ts1 (by omega) HX'.out).mono ?_
  rintro e' w2 ⟨hb3, hcase⟩
  rcases hcase with ⟨hbad, _⟩ | ⟨_, aL, cL, rfl, hsL⟩
  · exact absurd HX.out hbad
  rw [decide_eq_true h0]
  have HTS := Lib.hid (ts1.keep hb3)
  have HB := Lib.hid (hb2.trans (hb3.mono hb2.size))
  have hszw := HB.out.size
  obtain ⟨l, hl⟩ : ∃ l, l = xs.map TxV.text := ⟨_, rfl⟩
  have HOF : Hid (∀ X, Below w2.heap.size w2 X → Calls Try.prog 9 #[.slice a0 xs.length cap0] X fun e w' => e = .returned (.agg (cc (stands l))) ∧ Below X.heap.size X w') := Lib.hid fun X hX => by
    have := of_any9 xs a0 cap0 X (HTS.out.keep hX) (by omega) (fun x h => Nat.le_trans (HX.out x h) (by omega))
    rwa [← hl] at this
  have HST : Hid (∀ X c, Below w2.heap.size w2 X → Calls Try.prog 16 #[.slice a0 xs.length cap0, .int .u8 (c.toNat : Int)] X fun e w' => e = .returned (.bool (stands l c)) ∧ w' = X) := Lib.hid fun X c hX => by
    have := stands_any xs a0 cap0 X (HTS.out.keep hX) (by omega) (fun x h => Nat.le_trans (HX.out x h) (by omega)) c
    rwa [← hl] at this
  have HLN : Hid (xs.length = l.length) := Lib.hid (by rw [hl]; simp)
  have HFL : Hid (l.flatten.length ≤ 480) := Lib.hid (by
    have h := flat_le l 40 (fun t h => by
      rw [hl] at h
      obtain ⟨y, hy, rfl⟩ := List.mem_map.1 h
      exact HX.out y hy)
    have := HLN.out
    omega)
  rw [← hl] at hsL
  have HSL := Lib.hid hsL
  have HLL := Lib.hid hl
  have HX0 := HX
  clear HX HX' HAW hb2 hb3 ts1 hsL hts hl
  have HZ := Lib.hid (cc_size (fun _ => false))
  have hz29 := zero29
  generalize cc (fun _ => false) = z at *
  go_wp2_with fail
  refine (HOF.out w2 (Below.refl _ _)).mono ?_
  rintro e3 w3 ⟨rfl, hb3⟩
  have HS := Lib.hid (cc_size (stands l))
  have HO := Lib.hid (cc_one (stands l))
  generalize stands l = f at *
  have HLE := Lib.hid (fun X => len_any f X)
  have HCL := Lib.hid (fun c X => class_any f c X)
  have HBY := Lib.hid (fun j X => bytes_any f j X)
  generalize cc f = cs at *
  have es : ((w3.alloc (.cells z 29)).setRow w3.heap.size cs) = w3.alloc (.cells cs 29) := World.setRow_alloc_new _ _ _ _
  have HB0 : Hid (Below w2.heap.size w2 ((w3.alloc (.cells z 29)).setRow w3.heap.size cs)) := Lib.hid (by rw [es]; exact hb3.alloc hb3.size _)
  have HR0 : Hid (((w3.alloc (.cells z 29)).setRow w3.heap.size cs).heap[w3.heap.size]? = some (.cells cs 29 (0, 0))) := Lib.hid (by rw [es]; exact heap_alloc_new w3 _)
  have HG := Lib.hid (heap_alloc_new w3 (.cells z 29))
  clear es hb3 HSL HTS HLL HX0 HLN HFL HOF HST
  obtain ⟨fs, hd1⟩ := Cls.some29
  have HD := Lib.hid hd1
  clear hd1
  go_wp2_with (first
    | (with_reducible refine wpList_store_row rfl 29 (.tmp 8) (.tmp 24) rfl w3.heap.size cs rfl rfl 29 z HG.out (by rw [HS.out]; exact size29) (by rw [HS.out, HZ.out]) HO.out ?_))
  generalize ((w3.alloc (.cells z 29)).setRow w3.heap.size cs) = x0 at *
  generalize w3.heap.size = g at *
  clear HG HZ hz29
  have HRX : Hid (∀ X, Below x0.heap.size x0 X → X.heap[g]? = some (.cells cs 29 (0, 0))) := Lib.hid (fun X h => (h.block _ (txt_lt HR0.out)).trans HR0.out)
  have hs0 := HB0.out.size
  have hcn := cnt_le f
  have HSU := Lib.hid (sum_all f)
  have HSE := Lib.hid (sum_eq f)
  have HSL := Lib.hid (sum_le f)
  have HON := Lib.hid (len_one f)
  have HNL := Lib.hid (none_list f k)
  generalize cnt f = N at *
  go_loopw [9, 10] (fun v i wr => ∃ m : Nat, m ≤ N + 1 ∧ i = .int .i64 (m : Int) ∧ v = .int .i64 (sumTo f m : Int) ∧ Below x0.heap.size x0 wr) (fun _ i _ => 300 - (intOf i).toNat)
  case atStart => exact ⟨0, by omega, rfl, rfl, Below.refl _ _⟩
  case round =>
    obtain ⟨m, hm, rfl, rfl, hbm⟩ := hrel
    by_cases hlt : m < N + 1
    · have hlt2 : (m : Int) < (N : Int) + 1 := by omega
      have hlt3 : (m : Int) < 300 := by omega
      go_wp2_with (first
        | (with_reducible refine wpList_load_row rfl 29 (.tmp 8) rfl g rfl 29 cs (0, 0) _ (HRX.out _ (by assumption)) HD.out rfl (by rw [HS.out]; exact size29) ?_)
        | (go_at_call 13; (with_reducible refine (HLE.out _).mono ?_); rintro e5 x1 ⟨rfl, hb1⟩; have hbn := hbm.trans (hb1.mono hbm.size); clear hb1)
        | (go_at_call 15; (with_reducible refine (HBY.out _ _).mono ?_); rintro e5 x2 ⟨al, cl, rfl, hbs, hb2⟩; have hbo := hbn.trans (hb2.mono hbn.size); clear hb2))
      rw [cls_list] at hbs ⊢
      have HM := Lib.hid (cls_of f m)
      have HRS := Lib.hid (cls_rise f m)
      have HS1 : Hid (sumTo f (m + 1) = sumTo f m + (ofCls f m).length) := Lib.hid rfl
      have hs1 := HSL.out (m + 1) (by omega)
      have HO1 := Lib.hid (HON.out m)
      have hll : (ofCls f m).length ≤ 256 := upTo_len _ 256
      rw [HS1.out] at hs1
      generalize ofCls f m = L at *
      generalize sumTo f m = sm at *
      go_loopw [12] (fun j wr => ∃ q : Nat, q ≤ L.length ∧ j = .int .i64 (q : Int) ∧ Below x2.heap.size x2 wr) (fun j _ => L.length - (intOf j).toNat)
      case atStart => exact ⟨0, by omega, rfl, Below.refl _ _⟩
      case round =>
        obtain ⟨q, hq, rfl, hbi⟩ := hrel
        by_cases hlq : q < L.length
        · have hlq2 : (q : Int) < (L.length : Int) := by omega
          obtain ⟨ba, oa, ea, hba, hca⟩ := hbs (by omega)
          subst ea
          have HBI : Hid (Below wr.heap.size wr wr) := Lib.hid (Below.refl _ _)
          have hwi := hbo.trans (hbi.mono hbo.size)
          have HRI : Hid (∀ X, Below wr.heap.size wr X → (loadVar 29 ⟨g, 0, none⟩).run Try.prog X = .ok (.agg cs) X) := Lib.hid (fun X h => load29 HS.out (HRX.out wr hwi) h)
          have HCA : Hid (∀ X, Below wr.heap.size wr X → ∀ j (h : j < L.length), X.cell? ⟨ba, oa + j, none⟩ = some (.int .u8 (L[j].toNat : Int))) := Lib.hid (fun X h j hj => ((hbi.trans (h.mono hbi.size)).cell (p := ⟨ba, oa + j, none⟩) hba).trans (hca j hj))
          have HC2 := Lib.hid (fun X (h : Below wr.heap.size wr X) => HCA.out X h q hlq)
          have HCM : Hid (∀ X, Below wr.heap.size wr X → Calls Try.prog 11 #[.agg cs, .int .u8 (L[q].toNat : Int)] X fun e w' => e = .returned (.int .i64 (m : Int)) ∧ Below X.heap.size X w') := Lib.hid (fun X _ => by
            have h := HCL.out L[q] X
            rw [HM.out q hlq] at h
            exact h)
          have HBIN := Lib.hid hbi
          have hbis := hbi.size
          clear hca hwi hbi
          rcases q with _ | q
          · have HC3 : Hid (∀ X, Below wr.heap.size wr X → X.cell? ⟨ba, oa, none⟩ = some (.int .u8 (L[0].toNat : Int))) := HC2
            clear HC2
            have HC2 := HC3
            clear HC3 HCA
            generalize L[0] = b2 at *
            go_wp2
            refine wp_region_held_drew (S := fun w' => Below wr.drew.heap.size wr.drew w') (by kernel_rfl) (Below.refl _ _) (fun hH0 => ?_)
            have B0 := Lib.hid (below_drews HBI.out 1)
            change Hid (Below _ _ wr.drew) at B0
            generalize wr.drew = y0 at *
            refine held_take (i := 0) (d := 44) (oi := _) (v := _) rfl rfl (by kernel_rfl) (by kernel_rfl) (by kernel_rfl) (fun _ _ _ h => h) (Or.inl ⟨by rfl, fun w hSw => exec_load rfl rfl (HRI.out w (B0.out.trans (hSw.mono B0.out.size)))⟩) (by assumption) ?_
            simp only [Act.put, List.setIfInBounds_toArray, List.set_cons_zero, List.set_cons_succ]
            refine held_take (i := 1) (d := 45) (oi := _) (v := ?_) rfl rfl (by kernel_rfl) (by kernel_rfl) (by kernel_rfl) (fun _ _ _ h => h) (Or.inl ⟨by rfl, ?_⟩) (by assumption) ?_
            rotate_left
            · (intro w hSw; clear hSw; go_simp; (try with_reducible rfl))
            simp only [Act.put, List.setIfInBounds_toArray, List.set_cons_zero, List.set_cons_succ]
            refine held_take (i := 2) (d := 46) (oi := _) (v := ?_) rfl rfl (by kernel_rfl) (by kernel_rfl) (by kernel_rfl) (fun _ _ _ h => h) (Or.inl ⟨by rfl, ?_⟩) (by assumption) ?_
            rotate_left
            · (intro w hSw; clear hSw; go_simp; (try with_reducible rfl))
            simp only [Act.put, List.setIfInBounds_toArray, List.set_cons_zero, List.set_cons_succ]
            refine held_take (i := 3) (d := 47) (oi := _) (v := ?_) rfl rfl (by kernel_rfl) (by kernel_rfl) (by kernel_rfl) (fun _ _ _ h => h) (Or.inl ⟨by rfl, ?_⟩) (by assumption) ?_
            rotate_left
            · (intro w hSw; clear hSw; go_simp; (try with_reducible rfl))
            simp only [Act.put, List.setIfInBounds_toArray, List.set_cons_zero, List.set_cons_succ]
            refine held_take (i := 4) (d := 48) (oi := _) (v := ?_) rfl rfl (by kernel_rfl) (by kernel_rfl) (by kernel_rfl) (fun _ _ _ h => h) (Or.inl ⟨by rfl, ?_⟩) (by assumption) ?_
            rotate_left
            · (intro w hSw; have hld := HC2.out w (B0.out.trans (hSw.mono B0.out.size)); clear hSw; go_simp; (try with_reducible rfl))
            simp only [Act.put, List.setIfInBounds_toArray, List.set_cons_zero, List.set_cons_succ]
            refine held_take (i := 6) (d := 50) (oi := _) (v := ?_) rfl rfl (by kernel_rfl) (by kernel_rfl) (by kernel_rfl) (fun _ _ _ h => h) (Or.inl ⟨by rfl, ?_⟩) (by assumption) ?_
            rotate_left
            · (intro w hSw; clear hSw; go_simp; (try with_reducible rfl))
            simp only [Act.put, List.setIfInBounds_toArray, List.set_cons_zero, List.set_cons_succ]
            refine wpAnyH_ready (rs := [5]) (by kernel_rfl) (by simp) ?_
            refine AllReadyH.cons rfl (fun K hK => ?_) AllReadyH.nil
            go_simp
            go_wp2_with (go_at_call 11; (with_reducible refine (HCM.out _ B0.out).mono ?_); rintro e x1 ⟨rfl, hb⟩)
            refine hK.out _ _ hb (fun _ => ?_)
            have B1 := Lib.hid (B0.out.trans (hb.mono B0.out.size))
            refine wpAnyH_more (S' := fun w' => Below x1.heap.size x1 w') (fun w' h => hb.trans (h.mono hb.size)) _ _ _ _ ?_
            have hH1 : Below x1.heap.size x1 x1 := Below.refl _ _
            clear hK K hH0 hb B0
            refine held_take (i := 7) (d := 51) (oi := _) (v := ?_) rfl rfl (by kernel_rfl) (by kernel_rfl) (by kernel_rfl) (fun _ _ _ h => h) (Or.inl ⟨by rfl, ?_⟩) (by assumption) ?_
            rotate_left
            · (intro w hSw; clear hSw; go_simp; (try with_reducible rfl))
            simp only [Act.put, List.setIfInBounds_toArray, List.set_cons_zero, List.set_cons_succ]
            refine held_take (i := 8) (d := 52) (oi := _) (v := ?_) rfl rfl (by kernel_rfl) (by kernel_rfl) (by kernel_rfl) (fun _ _ _ h => h) (Or.inl ⟨by rfl, ?_⟩) (by assumption) ?_
            rotate_left
            · (intro w hSw; clear hSw; go_simp; (try with_reducible rfl))
            simp only [Act.put, List.setIfInBounds_toArray, List.set_cons_zero, List.set_cons_succ]
            refine held_take (i := 9) (d := 53) (oi := _) (v := ?_) rfl rfl (by kernel_rfl) (by kernel_rfl) (by kernel_rfl) (fun _ _ _ h => h) (Or.inl ⟨by rfl, ?_⟩) (by assumption) ?_
            rotate_left
            · (intro w hSw; clear hSw; go_simp; (try with_reducible rfl))
            simp only [Act.put, List.setIfInBounds_toArray, List.set_cons_zero, List.set_cons_succ]
            refine held_take (i := 10) (d := 54) (oi := _) (v := ?_) rfl rfl (by kernel_rfl) (by kernel_rfl) (by kernel_rfl) (fun _ _ _ h => h) (Or.inl ⟨by rfl, ?_⟩) (by assumption) ?_
            rotate_left
            · (intro w hSw; clear hSw; go_simp; (try with_reducible rfl))
            simp only [Act.put, List.setIfInBounds_toArray, List.set_cons_zero, List.set_cons_succ]
            refine held_take (i := 11) (d := 55) (oi := _) (v := ?_) rfl rfl (by kernel_rfl) (by kernel_rfl) (by kernel_rfl) (fun _ _ _ h => h) (Or.inl ⟨by rfl, ?_⟩) (by assumption) ?_
            rotate_left
            · (intro w hSw; clear hSw; go_simp; (try with_reducible rfl))
            simp only [Act.put, List.setIfInBounds_toArray, List.set_cons_zero, List.set_cons_succ]
            refine held_take (i := 12) (d := 56) (oi := _) (v := undef) rfl rfl (by kernel_rfl) (by kernel_rfl) (by kernel_rfl) (fun _ _ _ h => h) (Or.inr ⟨by rfl, rfl⟩) (by assumption) ?_
            simp only [Act.put, List.setIfInBounds_toArray, List.set_cons_zero, List.set_cons_succ]
            refine held_take (i := 13) (d := 57) (oi := _) (v := undef) rfl rfl (by kernel_rfl) (by kernel_rfl) (by kernel_rfl) (fun _ _ _ h => h) (Or.inr ⟨by rfl, rfl⟩) (by assumption) ?_
            simp only [Act.put, List.setIfInBounds_toArray, List.set_cons_zero, List.set_cons_succ]
            refine held_take (i := 14) (d := 58) (oi := _) (v := undef) rfl rfl (by kernel_rfl) (by kernel_rfl) (by kernel_rfl) (fun _ _ _ h => h) (Or.inr ⟨by rfl, rfl⟩) (by assumption) ?_
            simp only [Act.put, List.setIfInBounds_toArray, List.set_cons_zero, List.set_cons_succ]
            refine held_take (i := 15) (d := 59) (oi := _) (v := undef) rfl rfl (by kernel_rfl) (by kernel_rfl) (by kernel_rfl) (fun _ _ _ h => h) (Or.inr ⟨by rfl, rfl⟩) (by assumption) ?_
            simp only [Act.put, List.setIfInBounds_toArray, List.set_cons_zero, List.set_cons_succ]
            refine held_take (i := 16) (d := 60) (oi := _) (v := undef) rfl rfl (by kernel_rfl) (by kernel_rfl) (by kernel_rfl) (fun _ _ _ h => h) (Or.inr ⟨by rfl, rfl⟩) (by assumption) ?_
            simp only [Act.put, List.setIfInBounds_toArray, List.set_cons_zero, List.set_cons_succ]
            refine held_take (i := 17) (d := 61) (oi := _) (v := undef) rfl rfl (by kernel_rfl) (by kernel_rfl) (by kernel_rfl) (fun _ _ _ h => h) (Or.inr ⟨by rfl, rfl⟩) (by assumption) ?_
            simp only [Act.put, List.setIfInBounds_toArray, List.set_cons_zero, List.set_cons_succ]
            refine held_take (i := 18) (d := 62) (oi := _) (v := undef) rfl rfl (by kernel_rfl) (by kernel_rfl) (by kernel_rfl) (fun _ _ _ h => h) (Or.inr ⟨by rfl, rfl⟩) (by assumption) ?_
            simp only [Act.put, List.setIfInBounds_toArray, List.set_cons_zero, List.set_cons_succ]
            refine held_take (i := 19) (d := 63) (oi := _) (v := undef) rfl rfl (by kernel_rfl) (by kernel_rfl) (by kernel_rfl) (fun _ _ _ h => h) (Or.inr ⟨by rfl, rfl⟩) (by assumption) ?_
            simp only [Act.put, List.setIfInBounds_toArray, List.set_cons_zero, List.set_cons_succ]
            refine held_take (i := 20) (d := 64) (oi := _) (v := undef) rfl rfl (by kernel_rfl) (by kernel_rfl) (by kernel_rfl) (fun _ _ _ h => h) (Or.inr ⟨by rfl, rfl⟩) (by assumption) ?_
            simp only [Act.put, List.setIfInBounds_toArray, List.set_cons_zero, List.set_cons_succ]
            refine held_take (i := 21) (d := 65) (oi := _) (v := undef) rfl rfl (by kernel_rfl) (by kernel_rfl) (by kernel_rfl) (fun _ _ _ h => h) (Or.inr ⟨by rfl, rfl⟩) (by assumption) ?_
            simp only [Act.put, List.setIfInBounds_toArray, List.set_cons_zero, List.set_cons_succ]
            refine held_take (i := 22) (d := 66) (oi := _) (v := ?_) rfl rfl (by kernel_rfl) (by kernel_rfl) (by kernel_rfl) (fun _ _ _ h => h) (Or.inl ⟨by rfl, ?_⟩) (by assumption) ?_
            rotate_left
            · (intro w hSw; clear hSw; go_simp; (try with_reducible rfl))
            simp only [Act.put, List.setIfInBounds_toArray, List.set_cons_zero, List.set_cons_succ]
            refine held_take (i := 23) (d := 67) (oi := _) (v := ?_) rfl rfl (by kernel_rfl) (by kernel_rfl) (by kernel_rfl) (fun _ _ _ h => h) (Or.inl ⟨by rfl, ?_⟩) (by assumption) ?_
            rotate_left
            · (intro w hSw; clear hSw; go_simp; (try with_reducible rfl))
            simp only [Act.put, List.setIfInBounds_toArray, List.set_cons_zero, List.set_cons_succ]
            refine wpAnyH_done (by kernel_rfl) ?_ _
            go_wp2
            exact ⟨⟨1, by omega, rfl, HBIN.out.trans (B1.out.mono hbis)⟩, by simp [intOf]; omega⟩
          · have HC1 := Lib.hid (fun X (h : Below wr.heap.size wr X) => HCA.out X h q (by omega))
            have hlt8 := HRS.out q L[q] L[q + 1] (List.getElem?_eq_getElem (by omega)) (List.getElem?_eq_getElem hlq)
            clear HCA
            generalize L[q + 1] = b2 at *
            generalize L[q]'_ = b1 at *
            have hq0 : (0 : Int) ≤ (q : Int) + 1 := by omega
            have hqg : decide ((0 : Int) < (q : Int) + 1) = true := decide_eq_true (by omega)
            have hqm : (q : Int) + 1 - 1 = (q : Int) := by omega
            have hql : (q : Int) < (L.length : Int) := by omega
            have hqw : IntKind.i64.wrap (q : Int) = (q : Int) := by simp [IntKind.wrap, IntKind.bits, IntKind.signed]; omega
            have hqn : q < L.length := by omega
            have hge : decide (b2.toNat ≤ b1.toNat) = false := decide_eq_false (by omega)
            go_wp2
            refine wp_region_held_drew (S := fun w' => Below wr.drew.heap.size wr.drew w') (by kernel_rfl) (Below.refl _ _) (fun hH0 => ?_)
            have B0 := Lib.hid (below_drews HBI.out 1)
            change Hid (Below _ _ wr.drew) at B0
            generalize wr.drew = y0 at *
            refine held_take (i := 0) (d := 44) (oi := _) (v := _) rfl rfl (by kernel_rfl) (by kernel_rfl) (by kernel_rfl) (fun _ _ _ h => h) (Or.inl ⟨by rfl, fun w hSw => exec_load rfl rfl (HRI.out w (B0.out.trans (hSw.mono B0.out.size)))⟩) (by assumption) ?_
            simp only [Act.put, List.setIfInBounds_toArray, List.set_cons_zero, List.set_cons_succ]
            refine held_take (i := 1) (d := 45) (oi := _) (v := ?_) rfl rfl (by kernel_rfl) (by kernel_rfl) (by kernel_rfl) (fun _ _ _ h => h) (Or.inl ⟨by rfl, ?_⟩) (by assumption) ?_
            rotate_left
            · (intro w hSw; clear hSw; go_simp; (try with_reducible rfl))
            simp only [Act.put, List.setIfInBounds_toArray, List.set_cons_zero, List.set_cons_succ]
            refine held_take (i := 2) (d := 46) (oi := _) (v := ?_) rfl rfl (by kernel_rfl) (by kernel_rfl) (by kernel_rfl) (fun _ _ _ h => h) (Or.inl ⟨by rfl, ?_⟩) (by assumption) ?_
            rotate_left
            · (intro w hSw; clear hSw; go_simp; (try with_reducible rfl))
            simp only [Act.put, List.setIfInBounds_toArray, List.set_cons_zero, List.set_cons_succ]
            refine held_take (i := 3) (d := 47) (oi := _) (v := ?_) rfl rfl (by kernel_rfl) (by kernel_rfl) (by kernel_rfl) (fun _ _ _ h => h) (Or.inl ⟨by rfl, ?_⟩) (by assumption) ?_
            rotate_left
            · (intro w hSw; clear hSw; go_simp; (try with_reducible rfl))
            simp only [Act.put, List.setIfInBounds_toArray, List.set_cons_zero, List.set_cons_succ]
            refine held_take (i := 4) (d := 48) (oi := _) (v := ?_) rfl rfl (by kernel_rfl) (by kernel_rfl) (by kernel_rfl) (fun _ _ _ h => h) (Or.inl ⟨by rfl, ?_⟩) (by assumption) ?_
            rotate_left
            · (intro w hSw; have hld := HC2.out w (B0.out.trans (hSw.mono B0.out.size)); clear hSw; go_simp; (try with_reducible rfl))
            simp only [Act.put, List.setIfInBounds_toArray, List.set_cons_zero, List.set_cons_succ]
            refine held_take (i := 6) (d := 50) (oi := _) (v := ?_) rfl rfl (by kernel_rfl) (by kernel_rfl) (by kernel_rfl) (fun _ _ _ h => h) (Or.inl ⟨by rfl, ?_⟩) (by assumption) ?_
            rotate_left
            · (intro w hSw; clear hSw; go_simp; (try with_reducible rfl))
            simp only [Act.put, List.setIfInBounds_toArray, List.set_cons_zero, List.set_cons_succ]
            refine wpAnyH_ready (rs := [5]) (by kernel_rfl) (by simp) ?_
            refine AllReadyH.cons rfl (fun K hK => ?_) AllReadyH.nil
            go_simp
            go_wp2_with (go_at_call 11; (with_reducible refine (HCM.out _ B0.out).mono ?_); rintro e x1 ⟨rfl, hb⟩)
            refine hK.out _ _ hb (fun _ => ?_)
            have B1 := Lib.hid (B0.out.trans (hb.mono B0.out.size))
            refine wpAnyH_more (S' := fun w' => Below x1.heap.size x1 w') (fun w' h => hb.trans (h.mono hb.size)) _ _ _ _ ?_
            have hH1 : Below x1.heap.size x1 x1 := Below.refl _ _
            clear hK K hH0 hb B0
            refine held_take (i := 7) (d := 51) (oi := _) (v := ?_) rfl rfl (by kernel_rfl) (by kernel_rfl) (by kernel_rfl) (fun _ _ _ h => h) (Or.inl ⟨by rfl, ?_⟩) (by assumption) ?_
            rotate_left
            · (intro w hSw; clear hSw; go_simp; (try with_reducible rfl))
            simp only [Act.put, List.setIfInBounds_toArray, List.set_cons_zero, List.set_cons_succ]
            refine held_take (i := 8) (d := 52) (oi := _) (v := ?_) rfl rfl (by kernel_rfl) (by kernel_rfl) (by kernel_rfl) (fun _ _ _ h => h) (Or.inl ⟨by rfl, ?_⟩) (by assumption) ?_
            rotate_left
            · (intro w hSw; clear hSw; go_simp; (try with_reducible rfl))
            simp only [Act.put, List.setIfInBounds_toArray, List.set_cons_zero, List.set_cons_succ]
            refine held_take (i := 9) (d := 53) (oi := _) (v := ?_) rfl rfl (by kernel_rfl) (by kernel_rfl) (by kernel_rfl) (fun _ _ _ h => h) (Or.inl ⟨by rfl, ?_⟩) (by assumption) ?_
            rotate_left
            · (intro w hSw; clear hSw; go_simp; (try with_reducible rfl))
            simp only [Act.put, List.setIfInBounds_toArray, List.set_cons_zero, List.set_cons_succ]
            refine held_take (i := 10) (d := 54) (oi := _) (v := ?_) rfl rfl (by kernel_rfl) (by kernel_rfl) (by kernel_rfl) (fun _ _ _ h => h) (Or.inl ⟨by rfl, ?_⟩) (by assumption) ?_
            rotate_left
            · (intro w hSw; clear hSw; go_simp; (try with_reducible rfl))
            simp only [Act.put, List.setIfInBounds_toArray, List.set_cons_zero, List.set_cons_succ]
            refine held_take (i := 11) (d := 55) (oi := _) (v := ?_) rfl rfl (by kernel_rfl) (by kernel_rfl) (by kernel_rfl) (fun _ _ _ h => h) (Or.inl ⟨by rfl, ?_⟩) (by assumption) ?_
            rotate_left
            · (intro w hSw; clear hSw; go_simp; (try with_reducible rfl))
            simp only [Act.put, List.setIfInBounds_toArray, List.set_cons_zero, List.set_cons_succ]
            refine held_take (i := 12) (d := 56) (oi := _) (v := ?_) rfl rfl (by kernel_rfl) (by kernel_rfl) (by kernel_rfl) (fun _ _ _ h => h) (Or.inl ⟨by rfl, ?_⟩) (by assumption) ?_
            rotate_left
            · (intro w hSw; clear hSw; go_simp; (try with_reducible rfl))
            simp only [Act.put, List.setIfInBounds_toArray, List.set_cons_zero, List.set_cons_succ]
            refine held_take (i := 13) (d := 57) (oi := _) (v := ?_) rfl rfl (by kernel_rfl) (by kernel_rfl) (by kernel_rfl) (fun _ _ _ h => h) (Or.inl ⟨by rfl, ?_⟩) (by assumption) ?_
            rotate_left
            · (intro w hSw; clear hSw; go_simp; (try with_reducible rfl))
            simp only [Act.put, List.setIfInBounds_toArray, List.set_cons_zero, List.set_cons_succ]
            refine held_take (i := 14) (d := 58) (oi := _) (v := ?_) rfl rfl (by kernel_rfl) (by kernel_rfl) (by kernel_rfl) (fun _ _ _ h => h) (Or.inl ⟨by rfl, ?_⟩) (by assumption) ?_
            rotate_left
            · (intro w hSw; clear hSw; go_simp; (try with_reducible rfl))
            simp only [Act.put, List.setIfInBounds_toArray, List.set_cons_zero, List.set_cons_succ]
            refine held_take (i := 15) (d := 59) (oi := _) (v := ?_) rfl rfl (by kernel_rfl) (by kernel_rfl) (by kernel_rfl) (fun _ _ _ h => h) (Or.inl ⟨by rfl, ?_⟩) (by assumption) ?_
            rotate_left
            · (intro w hSw; clear hSw; go_simp; (try with_reducible rfl))
            simp only [Act.put, List.setIfInBounds_toArray, List.set_cons_zero, List.set_cons_succ]
            refine held_take (i := 16) (d := 60) (oi := _) (v := ?_) rfl rfl (by kernel_rfl) (by kernel_rfl) (by kernel_rfl) (fun _ _ _ h => h) (Or.inl ⟨by rfl, ?_⟩) (by assumption) ?_
            rotate_left
            · (intro w hSw; have hld := HC1.out w (B1.out.trans (hSw.mono B1.out.size)); clear hSw; go_simp; (try with_reducible rfl))
            simp only [Act.put, List.setIfInBounds_toArray, List.set_cons_zero, List.set_cons_succ]
            refine held_take (i := 17) (d := 61) (oi := _) (v := ?_) rfl rfl (by kernel_rfl) (by kernel_rfl) (by kernel_rfl) (fun _ _ _ h => h) (Or.inl ⟨by rfl, ?_⟩) (by assumption) ?_
            rotate_left
            · (intro w hSw; clear hSw; go_simp; (try with_reducible rfl))
            simp only [Act.put, List.setIfInBounds_toArray, List.set_cons_zero, List.set_cons_succ]
            refine held_take (i := 18) (d := 62) (oi := _) (v := ?_) rfl rfl (by kernel_rfl) (by kernel_rfl) (by kernel_rfl) (fun _ _ _ h => h) (Or.inl ⟨by rfl, ?_⟩) (by assumption) ?_
            rotate_left
            · (intro w hSw; clear hSw; go_simp; (try with_reducible rfl))
            simp only [Act.put, List.setIfInBounds_toArray, List.set_cons_zero, List.set_cons_succ]
            refine held_take (i := 19) (d := 63) (oi := _) (v := ?_) rfl rfl (by kernel_rfl) (by kernel_rfl) (by kernel_rfl) (fun _ _ _ h => h) (Or.inl ⟨by rfl, ?_⟩) (by assumption) ?_
            rotate_left
            · (intro w hSw; clear hSw; go_simp; (try with_reducible rfl))
            simp only [Act.put, List.setIfInBounds_toArray, List.set_cons_zero, List.set_cons_succ]
            refine held_take (i := 20) (d := 64) (oi := _) (v := ?_) rfl rfl (by kernel_rfl) (by kernel_rfl) (by kernel_rfl) (fun _ _ _ h => h) (Or.inl ⟨by rfl, ?_⟩) (by assumption) ?_
            rotate_left
            · (intro w hSw; have hld := HC2.out w (B1.out.trans (hSw.mono B1.out.size)); clear hSw; go_simp; (try with_reducible rfl))
            simp only [Act.put, List.setIfInBounds_toArray, List.set_cons_zero, List.set_cons_succ]
            refine held_take (i := 21) (d := 65) (oi := _) (v := ?_) rfl rfl (by kernel_rfl) (by kernel_rfl) (by kernel_rfl) (fun _ _ _ h => h) (Or.inl ⟨by rfl, ?_⟩) (by assumption) ?_
            rotate_left
            · (intro w hSw; clear hSw; go_simp; (try with_reducible rfl))
            simp only [Act.put, List.setIfInBounds_toArray, List.set_cons_zero, List.set_cons_succ]
            refine held_take (i := 22) (d := 66) (oi := _) (v := ?_) rfl rfl (by kernel_rfl) (by kernel_rfl) (by kernel_rfl) (fun _ _ _ h => h) (Or.inl ⟨by rfl, ?_⟩) (by assumption) ?_
            rotate_left
            · (intro w hSw; clear hSw; go_simp; (try with_reducible rfl))
            simp only [Act.put, List.setIfInBounds_toArray, List.set_cons_zero, List.set_cons_succ]
            refine held_take (i := 23) (d := 67) (oi := _) (v := ?_) rfl rfl (by kernel_rfl) (by kernel_rfl) (by kernel_rfl) (fun _ _ _ h => h) (Or.inl ⟨by rfl, ?_⟩) (by assumption) ?_
            rotate_left
            · (intro w hSw; clear hSw; go_simp; (try with_reducible rfl))
            simp only [Act.put, List.setIfInBounds_toArray, List.set_cons_zero, List.set_cons_succ]
            refine wpAnyH_done (by kernel_rfl) ?_ _

            go_wp2
            exact ⟨⟨q + 1 + 1, by omega, by go_num, HBIN.out.trans (B1.out.mono hbis)⟩, by simp [intOf]; omega⟩
        · obtain rfl : q = L.length := by omega
          have hlq2 : ¬ ((L.length : Int) < (L.length : Int)) := by omega
          have hb4 := hbo.trans (hbi.mono hbo.size)
          have HB4 := Lib.hid hb4
          have hsw : IntKind.i64.wrap ((sm : Int) + (L.length : Int)) = (sm : Int) + (L.length : Int) := IntWalk.i64_in _ (by omega)
          have HE : Hid ((sumTo f (m + 1) : Int) = (sm : Int) + (L.length : Int)) := Lib.hid (by rw [HS1.out]; omega)
          clear hb4 hbi hq hlq HS1 HRS HM
          rcases Nat.eq_zero_or_pos m with hm0 | hm0
          · have hmg : decide ((0 : Int) < (m : Int)) = false := decide_eq_false (by omega)
            have hmg2 : decide (0 < m) = false := decide_eq_false (by omega)
            have HM0 := Lib.hid hm0
            clear hm0 HO1
            go_wp2
            exact ⟨⟨m + 1, by omega, by go_num, by rw [HE.out], HB4.out⟩, by simp [intOf]; omega⟩
          · have hmg : decide ((0 : Int) < (m : Int)) = true := decide_eq_true (by omega)
            have hmg2 : decide (0 < m) = true := decide_eq_true hm0
            have hne : ((L.length : Int) != 1) = false := by rw [HO1.out hm0 (by omega)]; rfl
            clear HO1
            go_wp2
            exact ⟨⟨m + 1, by omega, by go_num, by rw [HE.out], HB4.out⟩, by simp [intOf]; omega⟩
    · obtain rfl : m = N + 1 := by omega
      have hlt2 : ¬ (((N + 1 : Nat) : Int) < (N : Int) + 1) := by omega
      have hlt3 : ¬ ((N : Int) + 1 < (N : Int) + 1) := by omega
      rw [HSU.out]
      by_cases hk : 0 ≤ k ∧ k < (N : Int) + 1
      · obtain ⟨hk0, hk1⟩ := hk
        have hd0 := decide_eq_true hk0
        have hd1 := decide_eq_true hk1
        go_wp2_with (first
          | (with_reducible refine wpList_load_row rfl 29 (.tmp 8) rfl g rfl 29 cs (0, 0) _ (HRX.out _ (by assumption)) HD.out rfl (by rw [HS.out]; exact size29) ?_)
          | (go_at_call 13; (with_reducible refine (HLE.out _).mono ?_); rintro e5 x1 ⟨rfl, hb1⟩; have hbn := hbm.trans (hb1.mono hbm.size); clear hb1))
        refine wp_load_row 29 (.tmp 8) rfl g rfl 29 cs (0, 0) _ (HRX.out _ (by assumption)) HD.out rfl (by rw [HS.out]; exact size29) ?_
        go_wp2_with fail
        refine (HLE.out _).mono ?_
        rintro e6 x2 ⟨rfl, hb2⟩
        have hbo := hbn.trans (hb2.mono hbn.size)
        have HF := Lib.hid (HB.out.trans ((HB0.out.trans (hbo.mono hs0)).mono hszw))
        clear hb2
        go_wp2
        go_ret
        exact ⟨rfl, HF.out⟩
      · have hnl := HNL.out hk
        by_cases hk0 : 0 ≤ k
        · have hk1 : ¬ k < (N : Int) + 1 := fun h => hk ⟨hk0, h⟩
          have hd0 := decide_eq_true hk0
          have hd1 := decide_eq_false hk1
          have HBK := Lib.hid (HBY.out k)
          rw [hnl] at HBK
          have HNN := Lib.hid hnl
          clear hk hnl
          go_wp2_with (first
            | (with_reducible refine wpList_load_row rfl 29 (.tmp 8) rfl g rfl 29 cs (0, 0) _ (HRX.out _ (by assumption)) HD.out rfl (by rw [HS.out]; exact size29) ?_)
            | (go_at_call 13; (with_reducible refine (HLE.out _).mono ?_); rintro e5 x1 ⟨rfl, hb1⟩; have hbn := hbm.trans (hb1.mono hbm.size); clear hb1))
          refine wp_load_row 29 (.tmp 8) rfl g rfl 29 cs (0, 0) _ (HRX.out _ (by assumption)) HD.out rfl (by rw [HS.out]; exact size29) ?_
          go_wp2_with fail
          refine (HLE.out _).mono ?_
          rintro e6 x2 ⟨rfl, hb2⟩
          have hbo := hbn.trans (hb2.mono hbn.size)
          clear hb2
          go_wp2_with fail
          refine wp_load_row 29 (.tmp 8) rfl g rfl 29 cs (0, 0) _ (HRX.out _ (by assumption)) HD.out rfl (by rw [HS.out]; exact size29) ?_
          go_wp2_with fail
          refine (HBK.out _).mono ?_
          rintro e7 x3 ⟨al, cl, rfl, hbs, hb3⟩
          have hbp := hbo.trans (hb3.mono hbo.size)
          have HF := Lib.hid (HB.out.trans ((HB0.out.trans (hbp.mono hs0)).mono hszw))
          clear hb3 hbs
          go_wp2
          go_ret
          exact ⟨rfl, HF.out⟩
        · have hd0 := decide_eq_false hk0
          have HBK := Lib.hid (HBY.out k)
          rw [hnl] at HBK
          have HNN := Lib.hid hnl
          clear hk hnl
          go_wp2_with (first
            | (with_reducible refine wpList_load_row rfl 29 (.tmp 8) rfl g rfl 29 cs (0, 0) _ (HRX.out _ (by assumption)) HD.out rfl (by rw [HS.out]; exact size29) ?_)
            | (go_at_call 13; (with_reducible refine (HLE.out _).mono ?_); rintro e5 x1 ⟨rfl, hb1⟩; have hbn := hbm.trans (hb1.mono hbm.size); clear hb1))
          refine wp_load_row 29 (.tmp 8) rfl g rfl 29 cs (0, 0) _ (HRX.out _ (by assumption)) HD.out rfl (by rw [HS.out]; exact size29) ?_
          go_wp2_with fail
          refine (HBK.out _).mono ?_
          rintro e7 x3 ⟨al, cl, rfl, hbs, hb3⟩
          have hbp := hbn.trans (hb3.mono hbn.size)
          have HF := Lib.hid (HB.out.trans ((HB0.out.trans (hbp.mono hs0)).mono hszw))
          clear hb3 hbs
          go_wp2
          go_ret
          exact ⟨rfl, HF.out⟩
set_option maxHeartbeats 8000000 in
theorem walk (w : World) (xs : List TxV) (a0 : Option Addr) (cap0 : Nat) (hz0 : xs.length ≤ 6000000000000) (hx0 : ∀ x ∈ xs, x.text.length ≤ maxLen) (hts : Ts w a0 xs) (k : Int) :
    Calls Try.prog 5 #[.slice a0 xs.length cap0, .int .i64 k] w fun e w' => e = .returned (.bool true) ∧ Below w.heap.size w w' := by
  by_cases hall : xs.length ≤ 12 ∧ (∀ x ∈ xs, x.text.length ≤ 40)
  · exact small w xs a0 cap0 hts hall.1 hall.2 k
  · have HALL := Lib.hid hall
    have HX := Lib.hid hx0
    clear hall hx0
    go_enter Try.func5, Try.ntmps5
    go_wp2_with fail
    refine (awake_any _).mono ?_
    rintro e' w1 ⟨rfl, hb2⟩
    have ts1 := hts.keep hb2
    go_wp2_with fail
    refine (ltexts_any xs a0 cap0 w1 ts1 hz0 HX.out).mono ?_
    rintro e' w2 ⟨hb3, hcase⟩
    have B2 := hb2.trans (hb3.mono hb2.size)
    rcases hcase with ⟨_, rfl⟩ | ⟨hok, aL, cL, rfl, _⟩
    · go_wp2
      go_ret
      exact ⟨rfl, B2⟩
    · have h12 : ¬ xs.length ≤ 12 := fun h => HALL.out ⟨h, hok⟩
      rw [decide_eq_false h12]
      clear HALL hok
      go_wp2
      go_ret
      exact ⟨rfl, B2⟩
end Go.Proofs.Ytlepabeibniabaa.classesBytes
