/- The walk of WindowPlays. -/
import Derived.Test.YtejokmnbijggcaaWinD
namespace Go.Proofs.Ytejokmnbijggcaa.windowPlays
open Go.Proofs.Ytejokmnbijggcaa.Stm Go.Proofs.Ytejokmnbijggcaa.Win Go.Proofs.Ytejokmnbijggcaa.Reg Go.RowKit Go.Maps
set_option maxRecDepth 100000
set_option linter.unusedVariables false

set_option maxHeartbeats 8000000 in
theorem walk (w : World) (xs : List ActV) (a0 : Option Addr) (cap0 : Nat) (hz0 : xs.length ≤ 6000000000000) (hx0 : ∀ y ∈ xs, y.x.text.length ≤ maxLen) (hs : Acts w a0 xs) :
    Calls Try.prog 3 #[.slice a0 xs.length cap0] w fun e w' => e = .returned (.bool true) ∧ Below w.heap.size w w' := by
  have HS := Lib.hid hs
  have HX := Lib.hid hx0
  have HAW := Lib.hid (awake_any w)
  clear hs hx0
  go_enter Try.func3, Try.ntmps3
  go_wp2_with fail
  refine HAW.out.mono ?_
  rintro e' w1 ⟨rfl, hb1⟩
  have HB1 := Lib.hid hb1
  clear HAW hb1
  have HS1 := Lib.hid (HS.out.keep HB1.out)
  go_wp2_with fail
  refine (few_any w1 a0 cap0 xs HS1.out hz0 HX.out).mono ?_
  rintro e' w2 ⟨z, rfl, rfl, hz⟩
  cases z
  · clear hz
    go_wp2_with fail
    go_ret
    exact ⟨rfl, HB1.out⟩
  have HF := Lib.hid (hz rfl)
  clear hz HS1
  go_wp2_with fail
  refine (Met.new_mt w2).mono ?_
  rintro e' w3 ⟨rfl, hM, hb3⟩
  have hsz := HB1.out.size
  have DN := Lib.hid (duo_new w w3 (some ⟨w2.heap.size, 0, none⟩) (HB1.out.trans (hb3.mono hsz)) hM (fun k hk => by cases hk; exact hsz))
  have hgm : w2.heap.size < w3.heap.size := hM.lt (k := w2.heap.size) rfl
  clear hM hb3
  generalize w2.heap.size = gm at *
  go_wp2_with fail
  refine DN.out.mono ?_
  rintro e' w4 ⟨g, rfl, hD4, hb4⟩
  have hgm4 : gm < w4.heap.size := Nat.lt_of_lt_of_le hgm hb4.size
  have hg4 := hD4.wd.lt.1
  have hD5 := hD4.keep (Met.below_new w4 (.cells #[.string ⟨#[]⟩, .int .i64 0, .int .i64 0] 30))
  have hX5 : Box w (w4.alloc (.cells #[.string ⟨#[]⟩, .int .i64 0, .int .i64 0] 30)) gm g none w4.heap.size wnNew :=
    ⟨new3 w4 _ _ _ _, hD4.bel.size, by omega, by simp, by omega⟩
  clear hD4 hb4 DN hsz hgm
  go_wp2_with fail
  generalize hw5 : w4.alloc (.cells #[.string ⟨#[]⟩, .int .i64 0, .int .i64 0] 30) = w5 at *
  generalize hbx : w4.heap.size = bx at *
  have HD5 := Lib.hid hD5
  have HX5 := Lib.hid hX5
  clear hw5 hbx hD5 hX5 hgm4 hg4
  go_loopw [9] (fun i wr => ∃ (k : Nat) (d : Option Nat), k ≤ xs.length ∧ i = .int .i64 (k : Int) ∧ Hid (Duo w wr (some ⟨gm, 0, none⟩) g d (plays (xs.take k))) ∧ Hid (Box w wr gm g d bx (plays (xs.take k)))) (fun i _ => xs.length - (intOf i).toNat)
  case atStart => exact ⟨0, none, Nat.zero_le _, rfl, HD5, HX5⟩
  case round =>
    obtain ⟨k, d, hk, rfl, HD, HB⟩ := hrel
    clear HD5 HX5
    by_cases hlt : k < xs.length
    · have hkl : (k : Int) < (xs.length : Int) := by omega
      obtain ⟨b, off, rfl, hbl, hc⟩ := HS.out.1 (by omega)
      have HC0 : Hid (∀ X, Below w.heap.size w X → X.cell? ⟨b, off + k * 2, none⟩ = some (.bool xs[k].clear)) := Lib.hid fun X h => (h.cell (p := ⟨b, _, none⟩) hbl).trans (hc k hlt).1
      have HC1 : Hid (∀ X, Below w.heap.size w X → X.cell? ⟨b, off + k * 2 + 1, none⟩ = some (.slice xs[k].x.a xs[k].x.text.length xs[k].x.cap)) := Lib.hid fun X h => (h.cell (p := ⟨b, _, none⟩) hbl).trans (hc k hlt).2
      have hsu := plays_succ xs k hlt
      obtain ⟨s1, s2, s3, _⟩ := plays_small HF.out k
      obtain ⟨t1, t2, t3, _⟩ := plays_small HF.out (k + 1)
      have hy2 := HF.out.2.2 _ (List.getElem_mem hlt)
      have HBS : Hid (∀ X, Below w.heap.size w X → Bs X X.heap.size xs[k].x.a xs[k].x.text) := Lib.hid fun X h => (HS.out.keep h).2 _ (List.getElem_mem hlt)
      have HOLD := Lib.hid (acts_old HS.out (List.getElem_mem hlt))
      clear hc
      generalize xs[k] = y at *
      generalize plays (xs.take k) = x at *
      by_cases hcl : y.clear = true
      · rw [hcl] at HC0
        have c0 := HC0.out wr HD.out.bel
        have e1 : play1 x y = x.clear := if_pos hcl
        rw [e1] at hsu
        have HSU := Lib.hid hsu
        clear hsu
        go_wp2_with fail
        refine (duo_clear HD.out (by omega)).mono ?_
        rintro e' w6 ⟨rfl, hD6, ht6⟩
        have HB6 := Lib.hid (HB.out.touch ht6 (by simp) (by simp [Met.blk]) (.inl rfl))
        have HD6 := Lib.hid hD6
        clear hD6 ht6 HD HB c0 HC1 HC0 HBS HOLD hbl
        go_wp2_with fail
        refine (wclear_none w6).mono ?_
        rintro e' w7 ⟨rfl, hb7⟩
        have HB7 := Lib.hid (HB6.out.keep hb7)
        have HD7 := Lib.hid (HD6.out.keep hb7)
        clear HB6 HD6 hb7
        obtain ⟨c0, c1, c2⟩ := HB7.out.blk.cells
        go_wp2_with fail
        refine (rwclear_any w7 x).mono ?_
        rintro e' w8 ⟨rfl, hb8⟩
        have HB8 := Lib.hid (HB7.out.keep hb8)
        have HD8 := Lib.hid (HD7.out.keep hb8)
        clear HB7 HD7 hb8 c0 c1 c2
        obtain ⟨c0, c1, c2⟩ := HB8.out.blk.cells
        obtain ⟨f0, f1, f2⟩ := HB8.out.blk.free
        go_wp2_with fail
        have hD9 := HD8.out.put HB8.out (.string (str x.clear.held)) (.int .i64 (x.clear.room : Int)) (.int .i64 (x.clear.move : Int))
        have hB9 := HB8.out.put x.clear
        generalize hw9 : put3 w8 bx (.string (str x.clear.held)) (.int .i64 (x.clear.room : Int)) (.int .i64 (x.clear.move : Int)) = w9 at *
        unfold put3 at hw9
        rw [hw9]
        have HD9 := Lib.hid hD9
        have HB9 := Lib.hid hB9
        clear hD9 hB9 hw9 HD8 HB8 c0 c1 c2 f0 f1 f2 s1 s2 s3 hcl e1
        rw [HSU.out] at t1 t2 t3
        generalize x.clear = z at *
        have HBB : Hid (Below w9.heap.size w9 w9) := Lib.hid (Below.refl _ _)
        have HRM := Lib.hid t2
        have CB : Hid (∀ X, Below w9.heap.size w9 X → Calls Try.prog 15 #[.pointer (some ⟨g, 0, none⟩)] X (GivesText X z.held)) := Lib.hid fun X h => duo_bytes (HD9.out.keep h) (by have := HRM.out; omega)
        have CL : Hid (∀ X, Below w9.heap.size w9 X → Calls Try.prog 16 #[.pointer (some ⟨g, 0, none⟩)] X fun e w' => e = .returned (.int .i64 (z.held.length : Int)) ∧ Below X.heap.size X w') := Lib.hid fun X h => duo_len (HD9.out.keep h) (by have := HRM.out; omega)
        have CR : Hid (∀ X, Below w9.heap.size w9 X → Calls Try.prog 17 #[.pointer (some ⟨g, 0, none⟩)] X fun e w' => e = .returned (.int .i64 (z.room : Int)) ∧ Below X.heap.size X w') := Lib.hid fun X h => duo_room (HD9.out.keep h) (by have := HRM.out; omega)
        have CC : Hid (∀ X, Below w9.heap.size w9 X → Calls Try.prog 18 #[.pointer (some ⟨gm, 0, none⟩)] X fun e w' => e = .returned (.agg #[.int .i64 0, .int .i64 0, .int .i64 0, .int .i64 (z.move : Int)]) ∧ Below X.heap.size X w') := Lib.hid fun X h => duo_counts (HD9.out.keep h)
        have L0 : Hid (∀ X, Below w9.heap.size w9 X → X.cell? ⟨bx, 0, none⟩ = some (.string (str z.held))) := Lib.hid fun X h => (HB9.out.keep h).blk.cells.1
        have L1 : Hid (∀ X, Below w9.heap.size w9 X → X.cell? ⟨bx, 1, none⟩ = some (.int .i64 (z.room : Int))) := Lib.hid fun X h => (HB9.out.keep h).blk.cells.2.1
        have L2 : Hid (∀ X, Below w9.heap.size w9 X → X.cell? ⟨bx, 2, none⟩ = some (.int .i64 (z.move : Int))) := Lib.hid fun X h => (HB9.out.keep h).blk.cells.2.2
        have hzs := str_size z.held
        have n0 : ((str z.held).toList != (str z.held).toList) = false := by simp
        have n1 : ((z.held.length : Int) != (z.held.length : Int)) = false := by simp
        have n2 : ((z.room : Int) != (z.room : Int)) = false := by simp
        have n3 := neq_counts 0 0 0 (z.move : Int)
        refine wp_region_held_drew (S := fun w' => Below w9.drew.heap.size w9.drew w') (by kernel_rfl) (Below.refl _ _) (fun hH0 => ?_)
        have B0 := Lib.hid (below_drews HBB.out 1)
        change Hid (Below _ _ w9.drew) at B0
        generalize w9.drew = x0 at *
        refine held_take (i := 0) (d := 60) (oi := _) (v := ?_) rfl rfl (by kernel_rfl) (by kernel_rfl) (by kernel_rfl) (fun _ _ _ h => h) (Or.inl ⟨by rfl, ?_⟩) (by assumption) ?_
        rotate_left
        · (intro w hSw; clear hSw; go_simp; (try with_reducible rfl))
        simp only [Act.put, List.setIfInBounds_toArray, List.set_cons_zero, List.set_cons_succ]
        refine held_take (i := 3) (d := 63) (oi := _) (v := ?_) rfl rfl (by kernel_rfl) (by kernel_rfl) (by kernel_rfl) (fun _ _ _ h => h) (Or.inl ⟨by rfl, ?_⟩) (by assumption) ?_
        rotate_left
        · (intro w hSw; clear hSw; go_simp; (try with_reducible rfl))
        simp only [Act.put, List.setIfInBounds_toArray, List.set_cons_zero, List.set_cons_succ]
        refine held_take (i := 4) (d := 64) (oi := _) (v := ?_) rfl rfl (by kernel_rfl) (by kernel_rfl) (by kernel_rfl) (fun _ _ _ h => h) (Or.inl ⟨by rfl, ?_⟩) (by assumption) ?_
        rotate_left
        · (intro w hSw; have hld := L0.out w (B0.out.trans (hSw.mono B0.out.size)); clear hSw; go_simp; (try with_reducible rfl))
        simp only [Act.put, List.setIfInBounds_toArray, List.set_cons_zero, List.set_cons_succ]
        refine wpAnyH_ready (rs := [1]) (by kernel_rfl) (by simp) ?_
        refine AllReadyH.cons rfl (fun K hK => ?_) AllReadyH.nil
        go_simp
        go_wp2_with (go_at_call 15; (with_reducible refine (CB.out _ B0.out).mono ?_); rintro e x1 ⟨aT1, cT1, rfl, htx, _, _, hb⟩)
        have T1 := Lib.hid (fun (w' : World) (h : Below x1.heap.size x1 w') => str_of_bs cT1 (htx.bs.keep h))
        clear htx
        refine hK.out _ _ hb (fun _ => ?_)
        have B1 := Lib.hid (B0.out.trans (hb.mono B0.out.size))
        refine wpAnyH_more (S' := fun w' => Below x1.heap.size x1 w') (fun w' h => hb.trans (h.mono hb.size)) _ _ _ _ ?_
        have hH1 : Below x1.heap.size x1 x1 := Below.refl _ _
        clear hK K hH0 hb B0
        refine held_take (i := 2) (d := 62) (oi := _) (v := ?_) rfl rfl (by kernel_rfl) (by kernel_rfl) (by kernel_rfl) (fun _ _ _ h => h) (Or.inl ⟨by rfl, ?_⟩) (by assumption) ?_
        rotate_left
        · (intro w hSw; have hcvw := T1.out w hSw; clear hSw; go_simp; (try with_reducible rfl))
        simp only [Act.put, List.setIfInBounds_toArray, List.set_cons_zero, List.set_cons_succ]
        refine held_take (i := 5) (d := 65) (oi := _) (v := ?_) rfl rfl (by kernel_rfl) (by kernel_rfl) (by kernel_rfl) (fun _ _ _ h => h) (Or.inl ⟨by rfl, ?_⟩) (by assumption) ?_
        rotate_left
        · (intro w hSw; clear hSw; go_simp; (try with_reducible rfl))
        simp only [Act.put, List.setIfInBounds_toArray, List.set_cons_zero, List.set_cons_succ]
        refine held_take (i := 6) (d := 66) (oi := _) (v := ?_) rfl rfl (by kernel_rfl) (by kernel_rfl) (by kernel_rfl) (fun _ _ _ h => h) (Or.inl ⟨by rfl, ?_⟩) (by assumption) ?_
        rotate_left
        · (intro w hSw; clear hSw; go_simp; (try with_reducible rfl))
        simp only [Act.put, List.setIfInBounds_toArray, List.set_cons_zero, List.set_cons_succ]
        refine held_take (i := 7) (d := 67) (oi := _) (v := ?_) rfl rfl (by kernel_rfl) (by kernel_rfl) (by kernel_rfl) (fun _ _ _ h => h) (Or.inl ⟨by rfl, ?_⟩) (by assumption) ?_
        rotate_left
        · (intro w hSw; clear hSw; go_simp; (try with_reducible rfl))
        simp only [Act.put, List.setIfInBounds_toArray, List.set_cons_zero, List.set_cons_succ]
        refine held_take (i := 9) (d := 69) (oi := _) (v := ?_) rfl rfl (by kernel_rfl) (by kernel_rfl) (by kernel_rfl) (fun _ _ _ h => h) (Or.inl ⟨by rfl, ?_⟩) (by assumption) ?_
        rotate_left
        · (intro w hSw; clear hSw; go_simp; (try with_reducible rfl))
        simp only [Act.put, List.setIfInBounds_toArray, List.set_cons_zero, List.set_cons_succ]
        refine held_take (i := 10) (d := 70) (oi := _) (v := ?_) rfl rfl (by kernel_rfl) (by kernel_rfl) (by kernel_rfl) (fun _ _ _ h => h) (Or.inl ⟨by rfl, ?_⟩) (by assumption) ?_
        rotate_left
        · (intro w hSw; have hld := L0.out w (B1.out.trans (hSw.mono B1.out.size)); clear hSw; go_simp; (try with_reducible rfl))
        simp only [Act.put, List.setIfInBounds_toArray, List.set_cons_zero, List.set_cons_succ]
        refine held_take (i := 11) (d := 71) (oi := _) (v := ?_) rfl rfl (by kernel_rfl) (by kernel_rfl) (by kernel_rfl) (fun _ _ _ h => h) (Or.inl ⟨by rfl, ?_⟩) (by assumption) ?_
        rotate_left
        · (intro w hSw; clear hSw; go_simp; (try with_reducible rfl))
        simp only [Act.put, List.setIfInBounds_toArray, List.set_cons_zero, List.set_cons_succ]
        refine wpAnyH_ready (rs := [8]) (by kernel_rfl) (by simp) ?_
        refine AllReadyH.cons rfl (fun K hK => ?_) AllReadyH.nil
        go_simp
        go_wp2_with (go_at_call 16; (with_reducible refine (CL.out _ B1.out).mono ?_); rintro e x2 ⟨rfl, hb⟩)
        refine hK.out _ _ hb (fun _ => ?_)
        have B2 := Lib.hid (B1.out.trans (hb.mono B1.out.size))
        refine wpAnyH_more (S' := fun w' => Below x2.heap.size x2 w') (fun w' h => hb.trans (h.mono hb.size)) _ _ _ _ ?_
        have hH2 : Below x2.heap.size x2 x2 := Below.refl _ _
        clear hK K hH1 hb B1
        refine held_take (i := 12) (d := 72) (oi := _) (v := ?_) rfl rfl (by kernel_rfl) (by kernel_rfl) (by kernel_rfl) (fun _ _ _ h => h) (Or.inl ⟨by rfl, ?_⟩) (by assumption) ?_
        rotate_left
        · (intro w hSw; clear hSw; go_simp; (try with_reducible rfl))
        simp only [Act.put, List.setIfInBounds_toArray, List.set_cons_zero, List.set_cons_succ]
        refine held_take (i := 13) (d := 73) (oi := _) (v := ?_) rfl rfl (by kernel_rfl) (by kernel_rfl) (by kernel_rfl) (fun _ _ _ h => h) (Or.inl ⟨by rfl, ?_⟩) (by assumption) ?_
        rotate_left
        · (intro w hSw; clear hSw; go_simp; (try with_reducible rfl))
        simp only [Act.put, List.setIfInBounds_toArray, List.set_cons_zero, List.set_cons_succ]
        refine held_take (i := 14) (d := 74) (oi := _) (v := ?_) rfl rfl (by kernel_rfl) (by kernel_rfl) (by kernel_rfl) (fun _ _ _ h => h) (Or.inl ⟨by rfl, ?_⟩) (by assumption) ?_
        rotate_left
        · (intro w hSw; clear hSw; go_simp; (try with_reducible rfl))
        simp only [Act.put, List.setIfInBounds_toArray, List.set_cons_zero, List.set_cons_succ]
        refine held_take (i := 15) (d := 75) (oi := _) (v := ?_) rfl rfl (by kernel_rfl) (by kernel_rfl) (by kernel_rfl) (fun _ _ _ h => h) (Or.inl ⟨by rfl, ?_⟩) (by assumption) ?_
        rotate_left
        · (intro w hSw; clear hSw; go_simp; (try with_reducible rfl))
        simp only [Act.put, List.setIfInBounds_toArray, List.set_cons_zero, List.set_cons_succ]
        refine held_take (i := 17) (d := 77) (oi := _) (v := ?_) rfl rfl (by kernel_rfl) (by kernel_rfl) (by kernel_rfl) (fun _ _ _ h => h) (Or.inl ⟨by rfl, ?_⟩) (by assumption) ?_
        rotate_left
        · (intro w hSw; clear hSw; go_simp; (try with_reducible rfl))
        simp only [Act.put, List.setIfInBounds_toArray, List.set_cons_zero, List.set_cons_succ]
        refine held_take (i := 18) (d := 78) (oi := _) (v := ?_) rfl rfl (by kernel_rfl) (by kernel_rfl) (by kernel_rfl) (fun _ _ _ h => h) (Or.inl ⟨by rfl, ?_⟩) (by assumption) ?_
        rotate_left
        · (intro w hSw; have hld := L1.out w (B2.out.trans (hSw.mono B2.out.size)); clear hSw; go_simp; (try with_reducible rfl))
        simp only [Act.put, List.setIfInBounds_toArray, List.set_cons_zero, List.set_cons_succ]
        refine wpAnyH_ready (rs := [16]) (by kernel_rfl) (by simp) ?_
        refine AllReadyH.cons rfl (fun K hK => ?_) AllReadyH.nil
        go_simp
        go_wp2_with (go_at_call 17; (with_reducible refine (CR.out _ B2.out).mono ?_); rintro e x3 ⟨rfl, hb⟩)
        refine hK.out _ _ hb (fun _ => ?_)
        have B3 := Lib.hid (B2.out.trans (hb.mono B2.out.size))
        refine wpAnyH_more (S' := fun w' => Below x3.heap.size x3 w') (fun w' h => hb.trans (h.mono hb.size)) _ _ _ _ ?_
        have hH3 : Below x3.heap.size x3 x3 := Below.refl _ _
        clear hK K hH2 hb B2
        refine held_take (i := 19) (d := 79) (oi := _) (v := ?_) rfl rfl (by kernel_rfl) (by kernel_rfl) (by kernel_rfl) (fun _ _ _ h => h) (Or.inl ⟨by rfl, ?_⟩) (by assumption) ?_
        rotate_left
        · (intro w hSw; clear hSw; go_simp; (try with_reducible rfl))
        simp only [Act.put, List.setIfInBounds_toArray, List.set_cons_zero, List.set_cons_succ]
        refine held_take (i := 20) (d := 80) (oi := _) (v := ?_) rfl rfl (by kernel_rfl) (by kernel_rfl) (by kernel_rfl) (fun _ _ _ h => h) (Or.inl ⟨by rfl, ?_⟩) (by assumption) ?_
        rotate_left
        · (intro w hSw; clear hSw; go_simp; (try with_reducible rfl))
        simp only [Act.put, List.setIfInBounds_toArray, List.set_cons_zero, List.set_cons_succ]
        refine held_take (i := 21) (d := 81) (oi := _) (v := ?_) rfl rfl (by kernel_rfl) (by kernel_rfl) (by kernel_rfl) (fun _ _ _ h => h) (Or.inl ⟨by rfl, ?_⟩) (by assumption) ?_
        rotate_left
        · (intro w hSw; clear hSw; go_simp; (try with_reducible rfl))
        simp only [Act.put, List.setIfInBounds_toArray, List.set_cons_zero, List.set_cons_succ]
        refine held_take (i := 22) (d := 82) (oi := _) (v := ?_) rfl rfl (by kernel_rfl) (by kernel_rfl) (by kernel_rfl) (fun _ _ _ h => h) (Or.inl ⟨by rfl, ?_⟩) (by assumption) ?_
        rotate_left
        · (intro w hSw; clear hSw; go_simp; (try with_reducible rfl))
        simp only [Act.put, List.setIfInBounds_toArray, List.set_cons_zero, List.set_cons_succ]
        refine held_take (i := 24) (d := 84) (oi := _) (v := ?_) rfl rfl (by kernel_rfl) (by kernel_rfl) (by kernel_rfl) (fun _ _ _ h => h) (Or.inl ⟨by rfl, ?_⟩) (by assumption) ?_
        rotate_left
        · (intro w hSw; clear hSw; go_simp; (try with_reducible rfl))
        simp only [Act.put, List.setIfInBounds_toArray, List.set_cons_zero, List.set_cons_succ]
        refine held_take (i := 25) (d := 85) (oi := _) (v := ?_) rfl rfl (by kernel_rfl) (by kernel_rfl) (by kernel_rfl) (fun _ _ _ h => h) (Or.inl ⟨by rfl, ?_⟩) (by assumption) ?_
        rotate_left
        · (intro w hSw; have hld := L2.out w (B3.out.trans (hSw.mono B3.out.size)); clear hSw; go_simp; (try with_reducible rfl))
        simp only [Act.put, List.setIfInBounds_toArray, List.set_cons_zero, List.set_cons_succ]
        refine held_take (i := 26) (d := 86) (oi := _) (v := ?_) rfl rfl (by kernel_rfl) (by kernel_rfl) (by kernel_rfl) (fun _ _ _ h => h) (Or.inl ⟨by rfl, ?_⟩) (by assumption) ?_
        rotate_left
        · (intro w hSw; clear hSw; go_simp; (try with_reducible rfl))
        simp only [Act.put, List.setIfInBounds_toArray, List.set_cons_zero, List.set_cons_succ]
        refine wpAnyH_ready (rs := [23]) (by kernel_rfl) (by simp) ?_
        refine AllReadyH.cons rfl (fun K hK => ?_) AllReadyH.nil
        go_simp
        go_wp2_with (go_at_call 18; (with_reducible refine (CC.out _ B3.out).mono ?_); rintro e x4 ⟨rfl, hb⟩)
        refine hK.out _ _ hb (fun _ => ?_)
        have B4 := Lib.hid (B3.out.trans (hb.mono B3.out.size))
        refine wpAnyH_more (S' := fun w' => Below x4.heap.size x4 w') (fun w' h => hb.trans (h.mono hb.size)) _ _ _ _ ?_
        have hH4 : Below x4.heap.size x4 x4 := Below.refl _ _
        clear hK K hH3 hb B3
        refine held_take (i := 27) (d := 87) (oi := _) (v := ?_) rfl rfl (by kernel_rfl) (by kernel_rfl) (by kernel_rfl) (fun _ _ _ h => h) (Or.inl ⟨by rfl, ?_⟩) (by assumption) ?_
        rotate_left
        · (intro w hSw; clear hSw; go_simp; (try with_reducible rfl))
        simp only [Act.put, List.setIfInBounds_toArray, List.set_cons_zero, List.set_cons_succ]
        refine held_take (i := 28) (d := 88) (oi := _) (v := ?_) rfl rfl (by kernel_rfl) (by kernel_rfl) (by kernel_rfl) (fun _ _ _ h => h) (Or.inl ⟨by rfl, ?_⟩) (by assumption) ?_
        rotate_left
        · (intro w hSw; clear hSw; go_simp; (try with_reducible rfl))
        simp only [Act.put, List.setIfInBounds_toArray, List.set_cons_zero, List.set_cons_succ]
        refine wpAnyH_done (by kernel_rfl) ?_ _
        go_wp2_with fail
        exact ⟨⟨k + 1, d, by omega, by go_num, Lib.hid (by rw [HSU.out]; exact HD9.out.keep B4.out), Lib.hid (by rw [HSU.out]; exact HB9.out.keep B4.out)⟩, by simp [intOf]; omega⟩
      · have hcf : y.clear = false := by simpa using hcl
        rw [hcf] at HC0
        have e1 : play1 x y = x.add y.x.text := if_neg hcl
        rw [e1] at hsu
        have HSU := Lib.hid hsu
        have c0 := HC0.out wr HD.out.bel
        have c1 := HC1.out wr HD.out.bel
        clear hsu
        go_wp2_with fail
        refine (duo_add HD.out y.x.text y.x.a y.x.cap (HBS.out wr HD.out.bel) (fun h => HD.out.old (HOLD.out h)) (by omega) (by omega) (by omega)).mono ?_
        rintro e' w6 ⟨rfl, d', hd', hD6, ht6⟩
        have HB6 := Lib.hid (HB.out.touch ht6 HB.out.nd (fun e => HB.out.nm (by cases e; rfl)) hd')
        have HD6 := Lib.hid hD6
        clear hD6 ht6 HD HB c0 c1 hd'
        have c1 := HC1.out w6 HD6.out.bel
        go_wp2_with fail
        refine (wadd_none w6 _ _ _).mono ?_
        rintro e' w7 ⟨rfl, hb7⟩
        have HB7 := Lib.hid (HB6.out.keep hb7)
        have HD7 := Lib.hid (HD6.out.keep hb7)
        clear HB6 HD6 hb7 c1
        have c3 := HC1.out w7 HD7.out.bel
        obtain ⟨c0, c1, c2⟩ := HB7.out.blk.cells
        have hcv := str_of_bs y.x.cap (HBS.out w7 HD7.out.bel)
        go_wp2_with fail
        have bd : Below w7.heap.size w7 w7.drew := below_drews (Below.refl _ _) 1
        have HB8 := Lib.hid (HB7.out.keep bd)
        have HD8 := Lib.hid (HD7.out.keep bd)
        have hcvd := str_of_bs y.x.cap (HBS.out w7.drew (HD7.out.keep bd).bel)
        go_still_tail 7, (by kernel_rfl)
        change wpList _ _ _ _ _ w7.drew
        generalize w7.drew = w8 at *
        clear bd HB7 HD7 c0 c1 c2 c3 hcv hcvd
        go_wp2_with fail
        refine (rwadd_any w8 x y.x.text (by omega) (by omega) (by omega) (by omega)).mono ?_
        rintro e' w10 ⟨rfl, hb10⟩
        have HB10 := Lib.hid (HB8.out.keep hb10)
        have HD10 := Lib.hid (HD8.out.keep hb10)
        clear HB8 HD8 hb10
        obtain ⟨c0, c1, c2⟩ := HB10.out.blk.cells
        obtain ⟨f0, f1, f2⟩ := HB10.out.blk.free
        rw [HSU.out] at t1 t2 t3
        generalize x.add y.x.text = z at *
        go_wp2_with fail
        have hD9 := HD10.out.put HB10.out (.string (str z.held)) (.int .i64 (z.room : Int)) (.int .i64 (z.move : Int))
        have hB9 := HB10.out.put z
        generalize hw9 : put3 w10 bx (.string (str z.held)) (.int .i64 (z.room : Int)) (.int .i64 (z.move : Int)) = w9 at *
        unfold put3 at hw9
        rw [hw9]
        have HD9 := Lib.hid hD9
        have HB9 := Lib.hid hB9
        clear hD9 hB9 hw9 HD10 HB10 c0 c1 c2 f0 f1 f2 s1 s2 s3 hcl hcf e1 HC0 HC1 HBS HOLD hbl hy2
        have HBB : Hid (Below w9.heap.size w9 w9) := Lib.hid (Below.refl _ _)
        have HRM := Lib.hid t2
        have CB : Hid (∀ X, Below w9.heap.size w9 X → Calls Try.prog 15 #[.pointer (some ⟨g, 0, none⟩)] X (GivesText X z.held)) := Lib.hid fun X h => duo_bytes (HD9.out.keep h) (by have := HRM.out; omega)
        have CL : Hid (∀ X, Below w9.heap.size w9 X → Calls Try.prog 16 #[.pointer (some ⟨g, 0, none⟩)] X fun e w' => e = .returned (.int .i64 (z.held.length : Int)) ∧ Below X.heap.size X w') := Lib.hid fun X h => duo_len (HD9.out.keep h) (by have := HRM.out; omega)
        have CR : Hid (∀ X, Below w9.heap.size w9 X → Calls Try.prog 17 #[.pointer (some ⟨g, 0, none⟩)] X fun e w' => e = .returned (.int .i64 (z.room : Int)) ∧ Below X.heap.size X w') := Lib.hid fun X h => duo_room (HD9.out.keep h) (by have := HRM.out; omega)
        have CC : Hid (∀ X, Below w9.heap.size w9 X → Calls Try.prog 18 #[.pointer (some ⟨gm, 0, none⟩)] X fun e w' => e = .returned (.agg #[.int .i64 0, .int .i64 0, .int .i64 0, .int .i64 (z.move : Int)]) ∧ Below X.heap.size X w') := Lib.hid fun X h => duo_counts (HD9.out.keep h)
        have L0 : Hid (∀ X, Below w9.heap.size w9 X → X.cell? ⟨bx, 0, none⟩ = some (.string (str z.held))) := Lib.hid fun X h => (HB9.out.keep h).blk.cells.1
        have L1 : Hid (∀ X, Below w9.heap.size w9 X → X.cell? ⟨bx, 1, none⟩ = some (.int .i64 (z.room : Int))) := Lib.hid fun X h => (HB9.out.keep h).blk.cells.2.1
        have L2 : Hid (∀ X, Below w9.heap.size w9 X → X.cell? ⟨bx, 2, none⟩ = some (.int .i64 (z.move : Int))) := Lib.hid fun X h => (HB9.out.keep h).blk.cells.2.2
        have hzs := str_size z.held
        have n0 : ((str z.held).toList != (str z.held).toList) = false := by simp
        have n1 : ((z.held.length : Int) != (z.held.length : Int)) = false := by simp
        have n2 : ((z.room : Int) != (z.room : Int)) = false := by simp
        have n3 := neq_counts 0 0 0 (z.move : Int)
        refine wp_region_held_drew (S := fun w' => Below w9.drew.heap.size w9.drew w') (by kernel_rfl) (Below.refl _ _) (fun hH0 => ?_)
        have B0 := Lib.hid (below_drews HBB.out 1)
        change Hid (Below _ _ w9.drew) at B0
        generalize w9.drew = x0 at *
        refine held_take (i := 0) (d := 60) (oi := _) (v := ?_) rfl rfl (by kernel_rfl) (by kernel_rfl) (by kernel_rfl) (fun _ _ _ h => h) (Or.inl ⟨by rfl, ?_⟩) (by assumption) ?_
        rotate_left
        · (intro w hSw; clear hSw; go_simp; (try with_reducible rfl))
        simp only [Act.put, List.setIfInBounds_toArray, List.set_cons_zero, List.set_cons_succ]
        refine held_take (i := 3) (d := 63) (oi := _) (v := ?_) rfl rfl (by kernel_rfl) (by kernel_rfl) (by kernel_rfl) (fun _ _ _ h => h) (Or.inl ⟨by rfl, ?_⟩) (by assumption) ?_
        rotate_left
        · (intro w hSw; clear hSw; go_simp; (try with_reducible rfl))
        simp only [Act.put, List.setIfInBounds_toArray, List.set_cons_zero, List.set_cons_succ]
        refine held_take (i := 4) (d := 64) (oi := _) (v := ?_) rfl rfl (by kernel_rfl) (by kernel_rfl) (by kernel_rfl) (fun _ _ _ h => h) (Or.inl ⟨by rfl, ?_⟩) (by assumption) ?_
        rotate_left
        · (intro w hSw; have hld := L0.out w (B0.out.trans (hSw.mono B0.out.size)); clear hSw; go_simp; (try with_reducible rfl))
        simp only [Act.put, List.setIfInBounds_toArray, List.set_cons_zero, List.set_cons_succ]
        refine wpAnyH_ready (rs := [1]) (by kernel_rfl) (by simp) ?_
        refine AllReadyH.cons rfl (fun K hK => ?_) AllReadyH.nil
        go_simp
        go_wp2_with (go_at_call 15; (with_reducible refine (CB.out _ B0.out).mono ?_); rintro e x1 ⟨aT1, cT1, rfl, htx, _, _, hb⟩)
        have T1 := Lib.hid (fun (w' : World) (h : Below x1.heap.size x1 w') => str_of_bs cT1 (htx.bs.keep h))
        clear htx
        refine hK.out _ _ hb (fun _ => ?_)
        have B1 := Lib.hid (B0.out.trans (hb.mono B0.out.size))
        refine wpAnyH_more (S' := fun w' => Below x1.heap.size x1 w') (fun w' h => hb.trans (h.mono hb.size)) _ _ _ _ ?_
        have hH1 : Below x1.heap.size x1 x1 := Below.refl _ _
        clear hK K hH0 hb B0
        refine held_take (i := 2) (d := 62) (oi := _) (v := ?_) rfl rfl (by kernel_rfl) (by kernel_rfl) (by kernel_rfl) (fun _ _ _ h => h) (Or.inl ⟨by rfl, ?_⟩) (by assumption) ?_
        rotate_left
        · (intro w hSw; have hcvw := T1.out w hSw; clear hSw; go_simp; (try with_reducible rfl))
        simp only [Act.put, List.setIfInBounds_toArray, List.set_cons_zero, List.set_cons_succ]
        refine held_take (i := 5) (d := 65) (oi := _) (v := ?_) rfl rfl (by kernel_rfl) (by kernel_rfl) (by kernel_rfl) (fun _ _ _ h => h) (Or.inl ⟨by rfl, ?_⟩) (by assumption) ?_
        rotate_left
        · (intro w hSw; clear hSw; go_simp; (try with_reducible rfl))
        simp only [Act.put, List.setIfInBounds_toArray, List.set_cons_zero, List.set_cons_succ]
        refine held_take (i := 6) (d := 66) (oi := _) (v := ?_) rfl rfl (by kernel_rfl) (by kernel_rfl) (by kernel_rfl) (fun _ _ _ h => h) (Or.inl ⟨by rfl, ?_⟩) (by assumption) ?_
        rotate_left
        · (intro w hSw; clear hSw; go_simp; (try with_reducible rfl))
        simp only [Act.put, List.setIfInBounds_toArray, List.set_cons_zero, List.set_cons_succ]
        refine held_take (i := 7) (d := 67) (oi := _) (v := ?_) rfl rfl (by kernel_rfl) (by kernel_rfl) (by kernel_rfl) (fun _ _ _ h => h) (Or.inl ⟨by rfl, ?_⟩) (by assumption) ?_
        rotate_left
        · (intro w hSw; clear hSw; go_simp; (try with_reducible rfl))
        simp only [Act.put, List.setIfInBounds_toArray, List.set_cons_zero, List.set_cons_succ]
        refine held_take (i := 9) (d := 69) (oi := _) (v := ?_) rfl rfl (by kernel_rfl) (by kernel_rfl) (by kernel_rfl) (fun _ _ _ h => h) (Or.inl ⟨by rfl, ?_⟩) (by assumption) ?_
        rotate_left
        · (intro w hSw; clear hSw; go_simp; (try with_reducible rfl))
        simp only [Act.put, List.setIfInBounds_toArray, List.set_cons_zero, List.set_cons_succ]
        refine held_take (i := 10) (d := 70) (oi := _) (v := ?_) rfl rfl (by kernel_rfl) (by kernel_rfl) (by kernel_rfl) (fun _ _ _ h => h) (Or.inl ⟨by rfl, ?_⟩) (by assumption) ?_
        rotate_left
        · (intro w hSw; have hld := L0.out w (B1.out.trans (hSw.mono B1.out.size)); clear hSw; go_simp; (try with_reducible rfl))
        simp only [Act.put, List.setIfInBounds_toArray, List.set_cons_zero, List.set_cons_succ]
        refine held_take (i := 11) (d := 71) (oi := _) (v := ?_) rfl rfl (by kernel_rfl) (by kernel_rfl) (by kernel_rfl) (fun _ _ _ h => h) (Or.inl ⟨by rfl, ?_⟩) (by assumption) ?_
        rotate_left
        · (intro w hSw; clear hSw; go_simp; (try with_reducible rfl))
        simp only [Act.put, List.setIfInBounds_toArray, List.set_cons_zero, List.set_cons_succ]
        refine wpAnyH_ready (rs := [8]) (by kernel_rfl) (by simp) ?_
        refine AllReadyH.cons rfl (fun K hK => ?_) AllReadyH.nil
        go_simp
        go_wp2_with (go_at_call 16; (with_reducible refine (CL.out _ B1.out).mono ?_); rintro e x2 ⟨rfl, hb⟩)
        refine hK.out _ _ hb (fun _ => ?_)
        have B2 := Lib.hid (B1.out.trans (hb.mono B1.out.size))
        refine wpAnyH_more (S' := fun w' => Below x2.heap.size x2 w') (fun w' h => hb.trans (h.mono hb.size)) _ _ _ _ ?_
        have hH2 : Below x2.heap.size x2 x2 := Below.refl _ _
        clear hK K hH1 hb B1
        refine held_take (i := 12) (d := 72) (oi := _) (v := ?_) rfl rfl (by kernel_rfl) (by kernel_rfl) (by kernel_rfl) (fun _ _ _ h => h) (Or.inl ⟨by rfl, ?_⟩) (by assumption) ?_
        rotate_left
        · (intro w hSw; clear hSw; go_simp; (try with_reducible rfl))
        simp only [Act.put, List.setIfInBounds_toArray, List.set_cons_zero, List.set_cons_succ]
        refine held_take (i := 13) (d := 73) (oi := _) (v := ?_) rfl rfl (by kernel_rfl) (by kernel_rfl) (by kernel_rfl) (fun _ _ _ h => h) (Or.inl ⟨by rfl, ?_⟩) (by assumption) ?_
        rotate_left
        · (intro w hSw; clear hSw; go_simp; (try with_reducible rfl))
        simp only [Act.put, List.setIfInBounds_toArray, List.set_cons_zero, List.set_cons_succ]
        refine held_take (i := 14) (d := 74) (oi := _) (v := ?_) rfl rfl (by kernel_rfl) (by kernel_rfl) (by kernel_rfl) (fun _ _ _ h => h) (Or.inl ⟨by rfl, ?_⟩) (by assumption) ?_
        rotate_left
        · (intro w hSw; clear hSw; go_simp; (try with_reducible rfl))
        simp only [Act.put, List.setIfInBounds_toArray, List.set_cons_zero, List.set_cons_succ]
        refine held_take (i := 15) (d := 75) (oi := _) (v := ?_) rfl rfl (by kernel_rfl) (by kernel_rfl) (by kernel_rfl) (fun _ _ _ h => h) (Or.inl ⟨by rfl, ?_⟩) (by assumption) ?_
        rotate_left
        · (intro w hSw; clear hSw; go_simp; (try with_reducible rfl))
        simp only [Act.put, List.setIfInBounds_toArray, List.set_cons_zero, List.set_cons_succ]
        refine held_take (i := 17) (d := 77) (oi := _) (v := ?_) rfl rfl (by kernel_rfl) (by kernel_rfl) (by kernel_rfl) (fun _ _ _ h => h) (Or.inl ⟨by rfl, ?_⟩) (by assumption) ?_
        rotate_left
        · (intro w hSw; clear hSw; go_simp; (try with_reducible rfl))
        simp only [Act.put, List.setIfInBounds_toArray, List.set_cons_zero, List.set_cons_succ]
        refine held_take (i := 18) (d := 78) (oi := _) (v := ?_) rfl rfl (by kernel_rfl) (by kernel_rfl) (by kernel_rfl) (fun _ _ _ h => h) (Or.inl ⟨by rfl, ?_⟩) (by assumption) ?_
        rotate_left
        · (intro w hSw; have hld := L1.out w (B2.out.trans (hSw.mono B2.out.size)); clear hSw; go_simp; (try with_reducible rfl))
        simp only [Act.put, List.setIfInBounds_toArray, List.set_cons_zero, List.set_cons_succ]
        refine wpAnyH_ready (rs := [16]) (by kernel_rfl) (by simp) ?_
        refine AllReadyH.cons rfl (fun K hK => ?_) AllReadyH.nil
        go_simp
        go_wp2_with (go_at_call 17; (with_reducible refine (CR.out _ B2.out).mono ?_); rintro e x3 ⟨rfl, hb⟩)
        refine hK.out _ _ hb (fun _ => ?_)
        have B3 := Lib.hid (B2.out.trans (hb.mono B2.out.size))
        refine wpAnyH_more (S' := fun w' => Below x3.heap.size x3 w') (fun w' h => hb.trans (h.mono hb.size)) _ _ _ _ ?_
        have hH3 : Below x3.heap.size x3 x3 := Below.refl _ _
        clear hK K hH2 hb B2
        refine held_take (i := 19) (d := 79) (oi := _) (v := ?_) rfl rfl (by kernel_rfl) (by kernel_rfl) (by kernel_rfl) (fun _ _ _ h => h) (Or.inl ⟨by rfl, ?_⟩) (by assumption) ?_
        rotate_left
        · (intro w hSw; clear hSw; go_simp; (try with_reducible rfl))
        simp only [Act.put, List.setIfInBounds_toArray, List.set_cons_zero, List.set_cons_succ]
        refine held_take (i := 20) (d := 80) (oi := _) (v := ?_) rfl rfl (by kernel_rfl) (by kernel_rfl) (by kernel_rfl) (fun _ _ _ h => h) (Or.inl ⟨by rfl, ?_⟩) (by assumption) ?_
        rotate_left
        · (intro w hSw; clear hSw; go_simp; (try with_reducible rfl))
        simp only [Act.put, List.setIfInBounds_toArray, List.set_cons_zero, List.set_cons_succ]
        refine held_take (i := 21) (d := 81) (oi := _) (v := ?_) rfl rfl (by kernel_rfl) (by kernel_rfl) (by kernel_rfl) (fun _ _ _ h => h) (Or.inl ⟨by rfl, ?_⟩) (by assumption) ?_
        rotate_left
        · (intro w hSw; clear hSw; go_simp; (try with_reducible rfl))
        simp only [Act.put, List.setIfInBounds_toArray, List.set_cons_zero, List.set_cons_succ]
        refine held_take (i := 22) (d := 82) (oi := _) (v := ?_) rfl rfl (by kernel_rfl) (by kernel_rfl) (by kernel_rfl) (fun _ _ _ h => h) (Or.inl ⟨by rfl, ?_⟩) (by assumption) ?_
        rotate_left
        · (intro w hSw; clear hSw; go_simp; (try with_reducible rfl))
        simp only [Act.put, List.setIfInBounds_toArray, List.set_cons_zero, List.set_cons_succ]
        refine held_take (i := 24) (d := 84) (oi := _) (v := ?_) rfl rfl (by kernel_rfl) (by kernel_rfl) (by kernel_rfl) (fun _ _ _ h => h) (Or.inl ⟨by rfl, ?_⟩) (by assumption) ?_
        rotate_left
        · (intro w hSw; clear hSw; go_simp; (try with_reducible rfl))
        simp only [Act.put, List.setIfInBounds_toArray, List.set_cons_zero, List.set_cons_succ]
        refine held_take (i := 25) (d := 85) (oi := _) (v := ?_) rfl rfl (by kernel_rfl) (by kernel_rfl) (by kernel_rfl) (fun _ _ _ h => h) (Or.inl ⟨by rfl, ?_⟩) (by assumption) ?_
        rotate_left
        · (intro w hSw; have hld := L2.out w (B3.out.trans (hSw.mono B3.out.size)); clear hSw; go_simp; (try with_reducible rfl))
        simp only [Act.put, List.setIfInBounds_toArray, List.set_cons_zero, List.set_cons_succ]
        refine held_take (i := 26) (d := 86) (oi := _) (v := ?_) rfl rfl (by kernel_rfl) (by kernel_rfl) (by kernel_rfl) (fun _ _ _ h => h) (Or.inl ⟨by rfl, ?_⟩) (by assumption) ?_
        rotate_left
        · (intro w hSw; clear hSw; go_simp; (try with_reducible rfl))
        simp only [Act.put, List.setIfInBounds_toArray, List.set_cons_zero, List.set_cons_succ]
        refine wpAnyH_ready (rs := [23]) (by kernel_rfl) (by simp) ?_
        refine AllReadyH.cons rfl (fun K hK => ?_) AllReadyH.nil
        go_simp
        go_wp2_with (go_at_call 18; (with_reducible refine (CC.out _ B3.out).mono ?_); rintro e x4 ⟨rfl, hb⟩)
        refine hK.out _ _ hb (fun _ => ?_)
        have B4 := Lib.hid (B3.out.trans (hb.mono B3.out.size))
        refine wpAnyH_more (S' := fun w' => Below x4.heap.size x4 w') (fun w' h => hb.trans (h.mono hb.size)) _ _ _ _ ?_
        have hH4 : Below x4.heap.size x4 x4 := Below.refl _ _
        clear hK K hH3 hb B3
        refine held_take (i := 27) (d := 87) (oi := _) (v := ?_) rfl rfl (by kernel_rfl) (by kernel_rfl) (by kernel_rfl) (fun _ _ _ h => h) (Or.inl ⟨by rfl, ?_⟩) (by assumption) ?_
        rotate_left
        · (intro w hSw; clear hSw; go_simp; (try with_reducible rfl))
        simp only [Act.put, List.setIfInBounds_toArray, List.set_cons_zero, List.set_cons_succ]
        refine held_take (i := 28) (d := 88) (oi := _) (v := ?_) rfl rfl (by kernel_rfl) (by kernel_rfl) (by kernel_rfl) (fun _ _ _ h => h) (Or.inl ⟨by rfl, ?_⟩) (by assumption) ?_
        rotate_left
        · (intro w hSw; clear hSw; go_simp; (try with_reducible rfl))
        simp only [Act.put, List.setIfInBounds_toArray, List.set_cons_zero, List.set_cons_succ]
        refine wpAnyH_done (by kernel_rfl) ?_ _
        go_wp2_with fail
        exact ⟨⟨k + 1, d', by omega, by go_num, Lib.hid (by rw [HSU.out]; exact HD9.out.keep B4.out), Lib.hid (by rw [HSU.out]; exact HB9.out.keep B4.out)⟩, by simp [intOf]; omega⟩
    · obtain rfl : k = xs.length := by omega
      have HBW := Lib.hid HD.out.bel
      clear HB HD
      go_wp2_with (first
        | (go_at_call 15; (with_reducible refine (wbytes_none _).mono ?_); rintro e7 w7 ⟨a7, c7, rfl, _, _, _, hb7⟩; have HB7 := Lib.hid (HBW.out.trans (hb7.mono HBW.out.size)); clear hb7)
        | (go_at_call 16; (with_reducible refine (wlen_none _).mono ?_); rintro e8 w8 ⟨rfl, hb8⟩; have HB8 := Lib.hid (HB7.out.trans (hb8.mono HB7.out.size)); clear hb8)
        | (go_at_call 17; (with_reducible refine (wroom_none _).mono ?_); rintro e9 w9 ⟨rfl, hb9⟩; have HB9 := Lib.hid (HB8.out.trans (hb9.mono HB8.out.size)); clear hb9))
      go_ret
      exact ⟨ret_bool (by simp), HB9.out⟩
end Go.Proofs.Ytejokmnbijggcaa.windowPlays
