/- The loop of a text that is moved by its period. -/
import Derived.Test.YtcoghcfhkndijaaJ3
namespace Go.Proofs.Ytcoghcfhkndijaa.Two
open Go.RowKit Go.Maps Go.Proofs.Ytcoghcfhkndijaa.Crt Go.Proofs.Ytcoghcfhkndijaa.Suf Go.Proofs.Ytcoghcfhkndijaa.Prs Go.Proofs.Ytcoghcfhkndijaa.Reg
set_option maxRecDepth 100000
set_option linter.unusedVariables false

theorem way_next2 {b line : Tx} {pos : Nat} (h0 : b ≠ []) (hs : Small b) (h : Stands line b pos) : Crt.Way b line (pos + 1) (pos + movePer b) (b.length - movePer b) := by
  have hm := move_small h0 hs
  rw [← small_is h0 hs] at hm
  have hp := per_pos h0
  rw [hm]
  exact ⟨by omega, fun q h2 h3 => (h.next h0).1 q (by omega) (by omega), fun i h1 => (h.next h0).2 i (by omega)⟩
set_option maxHeartbeats 4000000 in
theorem near_any (w : World) (b line : Tx) (fn : FuncId) (caps : Array Value) (I : Nat → World → Prop) (D : World → Prop) (s t : Nat) (a : Option Addr) (c : Nat) (al : Option Addr) (cl : Nat)
    (hT : Tell b line fn caps I D) (hI : ∀ fr W, I fr W → Fx s t b a c line al cl W) (hD : ∀ W, D W → Fx s t b a c line al cl W) (h0 : b ≠ []) (hl : b.length ≤ 1000) (hll : line.length ≤ 1000) (hsm : Small b)
    (x : Nat) (hx : x ≤ 9223372036854775807) (hw : I x w) :
    Calls Try.prog 21 #[.pointer (some ⟨t, 0, none⟩), .slice al line.length cl, .int .i64 (x : Int), .func (.func fn) #[] caps] w (GivesOver b line I D) := by
  have HT := Lib.hid hT
  have HI := Lib.hid hI
  have HD := Lib.hid hD
  have HW := Lib.hid hw
  have hc1 : w.cell? ⟨t, 1, none⟩ = some (.int .i64 (cutAt b : Int)) := by rw [cell_of_row w t 1 _ 51 (0, 0) (hI _ _ hw).row]; rfl
  clear hT hI hD hw
  go_enter Try.func21, Try.ntmps21
  go_wp2
  go_step3; go_wp2; go_step3; go_wp2
  go_loopw [9, 10] (fun vk v wr => ∃ fr pos mem : Nat, vk = .int .i64 (mem : Int) ∧ mem ≤ b.length ∧ v = .int .i64 (pos : Int) ∧ pos ≤ 9223372036854775807 ∧ Crt.Way b line fr pos mem ∧ I fr wr) (fun _ v _ => line.length + 1 - (intOf v).toNat)
  case atStart => exact ⟨x, x, 0, rfl, Nat.zero_le _, rfl, hx, way_start b line x, HW.out⟩
  case round =>
    obtain ⟨fr, pos, mem, rfl, hmem, rfl, hpos, hway, hir⟩ := hrel
    have HFX := Lib.hid (HI.out _ _ hir)
    have ht := HFX.out.row
    have hc0 : wr.cell? ⟨t, 0, none⟩ = some (.slice a b.length c) := by rw [cell_of_row wr t 0 _ 51 (0, 0) ht]; rfl
    have hc2 : wr.cell? ⟨t, 2, none⟩ = some (.int .i64 (movePer b : Int)) := by rw [cell_of_row wr t 2 _ 51 (0, 0) ht]; rfl
    have HWAY := Lib.hid hway
    have HIR := Lib.hid hir
    clear hway hir ht
    obtain ⟨M, hM⟩ : ∃ M : Int, M = (line.length : Int) - (b.length : Int) := ⟨_, rfl⟩
    have hwM : IntKind.i64.wrap ((line.length : Int) - (b.length : Int)) = M := by rw [IntWalk.i64_in _ (by omega)]; omega
    have HM := Lib.hid hM
    clear hM
    by_cases hlt : (pos : Int) ≤ M
    · have hpl : pos + b.length ≤ line.length := by have := HM.out; omega
      have HCUT := Lib.hid (cut_len h0)
      go_wp2
      go_loopw [9, 10, 11] (fun vk va v wi => ∃ i q : Nat, vk = .int .i64 (mem : Int) ∧ va = .int .i64 (pos : Int) ∧ max (cutAt b) mem ≤ i ∧ i ≤ b.length ∧ v = .int .i64 (i : Int) ∧ (∀ k, cutAt b ≤ k → mem ≤ k → k < i → line[pos + k]? = b[k]?) ∧ wi = wr.drewN q) (fun _ _ v _ => b.length - (intOf v).toNat)
      case atStart => exact ⟨max (cutAt b) mem, 0, rfl, rfl, Nat.le_refl _, by have := HCUT.out; omega, by congr 1; omega, fun k h1 h2 h3 => by omega, rfl⟩
      case round =>
        obtain ⟨i, q, rfl, rfl, hi1, hi2, rfl, hag, rfl⟩ := hrel
        have hd0 : (wr.drewN q).cell? ⟨t, 0, none⟩ = some (.slice a b.length c) := hc0
        by_cases hib : i < b.length
        · have hib2 : (i : Int) < (b.length : Int) := by omega
          obtain ⟨bt, ot, rfl, _, hr2⟩ := bs_at HFX.out.txt.bs i hib
          obtain ⟨bl, ol, rfl, _, hr1⟩ := bs_at HFX.out.ln.1 (pos + i) (by omega)
          obtain ⟨P, hP⟩ : ∃ P, P = pos + i := ⟨_, rfl⟩
          obtain ⟨y1, hy1⟩ : ∃ y, y = line[pos + i]'(by omega) := ⟨_, rfl⟩
          obtain ⟨y2, hy2⟩ : ∃ y, y = b[i] := ⟨_, rfl⟩
          have hk1 : wr.cell? ⟨bl, ol + P, none⟩ = some (.int .u8 (y1.toNat : Int)) := by rw [hP, hy1]; exact hr1
          have hk2 : wr.cell? ⟨bt, ot + i, none⟩ = some (.int .u8 (y2.toNat : Int)) := by rw [hy2]; exact hr2
          have hwP : IntKind.i64.wrap ((pos : Int) + (i : Int)) = (P : Int) := by rw [IntWalk.i64_in _ (by omega)]; omega
          have hPl : (P : Int) < (line.length : Int) := by omega
          have hd := u8_bne y1 y2
          have hg1 : line[pos + i]? = some y1 := by rw [hy1]; exact List.getElem?_eq_getElem (by omega)
          have hg2 : b[i]? = some y2 := by rw [hy2]; exact List.getElem?_eq_getElem hib
          have HAG := Lib.hid hag
          have HPP := Lib.hid hP
          clear hag hP hy1 hy2 hr1 hr2
          by_cases he : y1 = y2
          · rw [decide_eq_false (fun h => h he)] at hd
            have HE : Hid (line[pos + i]? = b[i]?) := Lib.hid (by rw [hg1, hg2, he])
            clear hg1 hg2 he
            go_wp2
            go_quiet (fail)
            go_wp2
            exact ⟨⟨i + 1, q + nq, rfl, rfl, by omega, by omega, by go_num, fun k h1 h2 h3 => by
              by_cases e : k = i
              · rw [e]; exact HE.out
              · exact HAG.out k h1 h2 (by omega), rfl⟩, by simp [intOf]; omega⟩
          · rw [decide_eq_true he] at hd
            have HE : Hid (line[pos + i]? ≠ b[i]?) := Lib.hid (by rw [hg1, hg2]; exact fun h => he (Option.some.inj h))
            clear hg1 hg2 he
            go_wp2
            go_quiet (fail)
            go_wp2
            have HR := Lib.hid (HWAY.out.right h0 (fun k h1 h2 h3 => HAG.out k h1 h2 h3) (by omega) hib HE.out)
            exact ⟨⟨fr, pos + (i - cutAt b + 1), 0, rfl, Nat.zero_le _, by go_num, by omega, HR.out, HT.out.drew _ _ _ HIR.out⟩, by simp [intOf]; omega⟩
        · have hie : ¬ (i : Int) < (b.length : Int) := by omega
          have hiL : i = b.length := by omega
          subst hiL
          have hcp := HCUT.out
          obtain ⟨E, hE⟩ : ∃ E, E = pos + cutAt b := ⟨_, rfl⟩
          have hwE : IntKind.i64.wrap ((pos : Int) + (cutAt b : Int)) = (E : Int) := by rw [IntWalk.i64_in _ (by omega)]; omega
          obtain ⟨A, hmid, hA⟩ := cut_mid1 al line cl pos E (by omega) (by omega) HFX.out.ln.2.1 wr _ HFX.out.ln.1
          have hfront := (Cut.cut_front a b c (cutAt b) (by omega) HFX.out.len wr _ HFX.out.txt.bs).1
          have hFXd : Fx s t b a c line al cl (wr.drewN q).drew := HFX.out.drewN (q + 1)
          have HEQ := Lib.hid (equal_cut b line a al c cl s t pos E A hE hcp hpl hl hll (fun X => hA X _) (cl - pos) (wr.drewN q).drew hFXd (fun k h1 h2 => (Nat.lt_or_ge k mem).elim (fun h3 => HWAY.out.fit k h3) fun h3 => hag k h1 h3 h2))
          have HAG := Lib.hid hag
          have HE := Lib.hid hE
          have HIR2 : Hid (I fr (wr.drewN q).drew) := Lib.hid (HT.out.drew fr wr (q + 1) HIR.out)
          have hd1 : (wr.drewN q).drew.cell? ⟨t, 0, none⟩ = some (.slice a b.length c) := hd0
          have HC2 : Hid (∀ fr W, I fr W → W.cell? ⟨t, 2, none⟩ = some (.int .i64 (movePer b : Int))) := Lib.hid fun fr W h => by rw [cell_of_row W t 2 _ 51 (0, 0) (HI.out _ _ h).row]; rfl
          have hmv := move_bounds h0
          have HMV := Lib.hid hmv
          obtain ⟨Q, hQ⟩ : ∃ Q, Q = pos + movePer b := ⟨_, rfl⟩
          have hwQ : IntKind.i64.wrap ((pos : Int) + (movePer b : Int)) = (Q : Int) := by rw [IntWalk.i64_in _ (by omega)]; omega
          have HQ := Lib.hid hQ
          obtain ⟨R, hR⟩ : ∃ R, R = b.length - movePer b := ⟨_, rfl⟩
          have hwR : IntKind.i64.wrap ((b.length : Int) - (movePer b : Int)) = (R : Int) := by rw [IntWalk.i64_in _ (by omega)]; omega
          have HR := Lib.hid hR
          clear hag hE hA hFXd hcp hmv hQ hR
          go_wp2
          refine wp_region_held_drew (S := fun w' => w'.cell? ⟨t, 0, none⟩ = some (.slice a b.length c)) (by kernel_rfl) hd1 (fun hH0 => ?_)
          generalize (wr.drewN q).drew = wd at *
          refine held_take (i := 0) (d := 60) (oi := _) (v := ?_) rfl rfl (by kernel_rfl) (by kernel_rfl) (by kernel_rfl) (fun _ _ _ h => h) (Or.inl ⟨by rfl, ?_⟩) (by assumption) ?_
          rotate_left
          · (intro w hSw; clear hSw; go_simp; (try with_reducible rfl))
          simp only [Act.put, List.setIfInBounds_toArray, List.set_cons_zero, List.set_cons_succ]
          refine held_take (i := 1) (d := 61) (oi := _) (v := ?_) rfl rfl (by kernel_rfl) (by kernel_rfl) (by kernel_rfl) (fun _ _ _ h => h) (Or.inl ⟨by rfl, ?_⟩) (by assumption) ?_
          rotate_left
          · (intro w hSw; clear hSw; go_simp; (try with_reducible rfl))
          simp only [Act.put, List.setIfInBounds_toArray, List.set_cons_zero, List.set_cons_succ]
          refine held_take (i := 2) (d := 62) (oi := _) (v := ?_) rfl rfl (by kernel_rfl) (by kernel_rfl) (by kernel_rfl) (fun _ _ _ h => h) (Or.inl ⟨by rfl, ?_⟩) (by assumption) ?_
          rotate_left
          · (intro w hSw; clear hSw; go_simp; (try with_reducible rfl))
          simp only [Act.put, List.setIfInBounds_toArray, List.set_cons_zero, List.set_cons_succ]
          refine held_take (i := 3) (d := 63) (oi := _) (v := ?_) rfl rfl (by kernel_rfl) (by kernel_rfl) (by kernel_rfl) (fun _ _ _ h => h) (Or.inl ⟨by rfl, ?_⟩) (by assumption) ?_
          rotate_left
          · (intro w hSw; clear hSw; go_simp; (try with_reducible rfl))
          simp only [Act.put, List.setIfInBounds_toArray, List.set_cons_zero, List.set_cons_succ]
          refine held_take (i := 4) (d := 64) (oi := _) (v := ?_) rfl rfl (by kernel_rfl) (by kernel_rfl) (by kernel_rfl) (fun _ _ _ h => h) (Or.inl ⟨by rfl, ?_⟩) (by assumption) ?_
          rotate_left
          · (intro w hSw; clear hSw; go_simp; (try with_reducible rfl))
          simp only [Act.put, List.setIfInBounds_toArray, List.set_cons_zero, List.set_cons_succ]
          refine held_take (i := 5) (d := 65) (oi := _) (v := ?_) rfl rfl (by kernel_rfl) (by kernel_rfl) (by kernel_rfl) (fun _ _ _ h => h) (Or.inl ⟨by rfl, ?_⟩) (by assumption) ?_
          rotate_left
          · (intro w hSw; clear hSw; go_simp; (try with_reducible rfl))
          simp only [Act.put, List.setIfInBounds_toArray, List.set_cons_zero, List.set_cons_succ]
          refine held_take (i := 6) (d := 66) (oi := _) (v := ?_) rfl rfl (by kernel_rfl) (by kernel_rfl) (by kernel_rfl) (fun _ _ _ h => h) (Or.inl ⟨by rfl, ?_⟩) (by assumption) ?_
          rotate_left
          · (intro w hSw; clear hSw; go_simp; (try with_reducible rfl))
          simp only [Act.put, List.setIfInBounds_toArray, List.set_cons_zero, List.set_cons_succ]
          refine held_take (i := 7) (d := 67) (oi := _) (v := ?_) rfl rfl (by kernel_rfl) (by kernel_rfl) (by kernel_rfl) (fun _ _ _ h => h) (Or.inl ⟨by rfl, ?_⟩) (by assumption) ?_
          rotate_left
          · (intro w hSw; clear hSw; go_simp; (try with_reducible rfl))
          simp only [Act.put, List.setIfInBounds_toArray, List.set_cons_zero, List.set_cons_succ]
          refine held_take (i := 8) (d := 68) (oi := _) (v := ?_) rfl rfl (by kernel_rfl) (by kernel_rfl) (by kernel_rfl) (fun _ _ _ h => h) (Or.inl ⟨by rfl, ?_⟩) (by assumption) ?_
          rotate_left
          · (intro w hSw; clear hSw; go_simp; (try with_reducible rfl))
          simp only [Act.put, List.setIfInBounds_toArray, List.set_cons_zero, List.set_cons_succ]
          refine held_take (i := 9) (d := 69) (oi := _) (v := ?_) rfl rfl (by kernel_rfl) (by kernel_rfl) (by kernel_rfl) (fun _ _ _ h => h) (Or.inl ⟨by rfl, ?_⟩) (by assumption) ?_
          rotate_left
          · (intro w hSw; go_simp; (try with_reducible rfl))
          simp only [Act.put, List.setIfInBounds_toArray, List.set_cons_zero, List.set_cons_succ]
          refine held_take (i := 10) (d := 70) (oi := _) (v := ?_) rfl rfl (by kernel_rfl) (by kernel_rfl) (by kernel_rfl) (fun _ _ _ h => h) (Or.inl ⟨by rfl, ?_⟩) (by assumption) ?_
          rotate_left
          · (intro w hSw; clear hSw; go_simp; (try with_reducible rfl))
          simp only [Act.put, List.setIfInBounds_toArray, List.set_cons_zero, List.set_cons_succ]
          refine held_take (i := 11) (d := 71) (oi := _) (v := ?_) rfl rfl (by kernel_rfl) (by kernel_rfl) (by kernel_rfl) (fun _ _ _ h => h) (Or.inl ⟨by rfl, ?_⟩) (by assumption) ?_
          rotate_left
          · (intro w hSw; clear hSw; go_simp; (try with_reducible rfl))
          simp only [Act.put, List.setIfInBounds_toArray, List.set_cons_zero, List.set_cons_succ]
          refine wpAnyH_ready (rs := [12]) (by kernel_rfl) (by simp) ?_
          refine AllReadyH.cons rfl (fun K hK => ?_) AllReadyH.nil
          go_simp
          go_wp2_with (go_at_call 39; (with_reducible refine (HEQ.out).mono ?_); rintro e x' ⟨rfl, rfl⟩)
          refine hK.out _ _ hH0 (fun _ => ?_)
          clear hK K
          refine held_take (i := 13) (d := 73) (oi := _) (v := ?_) rfl rfl (by kernel_rfl) (by kernel_rfl) (by kernel_rfl) (fun _ _ _ h => h) (Or.inl ⟨by rfl, ?_⟩) (by assumption) ?_
          rotate_left
          · (intro w hSw; clear hSw; go_simp; (try with_reducible rfl))
          simp only [Act.put, List.setIfInBounds_toArray, List.set_cons_zero, List.set_cons_succ]
          by_cases hst : Stands line b pos
          · have hdec : decide (Stands line b pos) = true := decide_eq_true hst
            rw [hdec]
            refine held_take (i := 14) (d := 74) (oi := _) (v := ?_) rfl rfl (by kernel_rfl) (by kernel_rfl) (by kernel_rfl) (fun _ _ _ h => h) (Or.inl ⟨by rfl, ?_⟩) (by assumption) ?_
            rotate_left
            · (intro w hSw; clear hSw; go_simp; (try with_reducible rfl))
            simp only [Act.put, List.setIfInBounds_toArray, List.set_cons_zero, List.set_cons_succ]
            refine held_take (i := 15) (d := 75) (oi := _) (v := ?_) rfl rfl (by kernel_rfl) (by kernel_rfl) (by kernel_rfl) (fun _ _ _ h => h) (Or.inl ⟨by rfl, ?_⟩) (by assumption) ?_
            rotate_left
            · (intro w hSw; clear hSw; go_simp; (try with_reducible rfl))
            simp only [Act.put, List.setIfInBounds_toArray, List.set_cons_zero, List.set_cons_succ]
            refine wpAnyH_ready (rs := [16]) (by kernel_rfl) (by simp) ?_
            refine AllReadyH.cons rfl (fun K hK => ?_) AllReadyH.nil
            go_simp
            have hcf := HT.out.call
            have HHIT := Lib.hid (HT.out.hit fr pos wd HIR2.out (HWAY.out.hit hst) (by omega))
            have HST := Lib.hid hst
            clear hst
            rw [hcf]
            go_wp2_with fail
            refine HHIT.out.mono ?_
            rintro e x1 (⟨rfl, hi2⟩ | ⟨rfl, hd2⟩)
            · have hH1 : x1.cell? ⟨t, 0, none⟩ = some (.slice a b.length c) := by rw [cell_of_row x1 t 0 _ 51 (0, 0) (HI.out _ _ hi2).row]; rfl
              refine hK.out _ _ hH1 (fun _ => ?_)
              clear hK K hcf
              refine held_take (i := 17) (d := 77) (oi := _) (v := ?_) rfl rfl (by kernel_rfl) (by kernel_rfl) (by kernel_rfl) (fun _ _ _ h => h) (Or.inl ⟨by rfl, ?_⟩) (by assumption) ?_
              rotate_left
              · (intro w hSw; clear hSw; go_simp; (try with_reducible rfl))
              simp only [Act.put, List.setIfInBounds_toArray, List.set_cons_zero, List.set_cons_succ]
              refine held_take (i := 18) (d := 78) (oi := _) (v := ?_) rfl rfl (by kernel_rfl) (by kernel_rfl) (by kernel_rfl) (fun _ _ _ h => h) (Or.inl ⟨by rfl, ?_⟩) (by assumption) ?_
              rotate_left
              · (intro w hSw; clear hSw; go_simp; (try with_reducible rfl))
              simp only [Act.put, List.setIfInBounds_toArray, List.set_cons_zero, List.set_cons_succ]
              refine wpAnyH_done (by kernel_rfl) ?_ _
              have hc3 := HC2.out _ _ hi2
              clear hc2 hc0 hd0 hd1
              have HI2 := Lib.hid hi2
              clear hi2
              go_wp2
              go_quiet (fail)
              go_wp2
              exact ⟨⟨pos + 1, Q, R, rfl, by have := HR.out; omega, rfl, by have := HQ.out; have := HMV.out; omega, HQ.out ▸ HR.out ▸ way_next2 h0 hsm HST.out, HT.out.drew _ _ _ HI2.out⟩, by have := HQ.out; have := HMV.out; simp [intOf]; omega⟩
            · have hH1 : x1.cell? ⟨t, 0, none⟩ = some (.slice a b.length c) := by rw [cell_of_row x1 t 0 _ 51 (0, 0) (HD.out _ hd2).row]; rfl
              refine hK.out _ _ hH1 (fun _ => ?_)
              clear hK K hcf
              refine held_take (i := 17) (d := 77) (oi := _) (v := ?_) rfl rfl (by kernel_rfl) (by kernel_rfl) (by kernel_rfl) (fun _ _ _ h => h) (Or.inl ⟨by rfl, ?_⟩) (by assumption) ?_
              rotate_left
              · (intro w hSw; clear hSw; go_simp; (try with_reducible rfl))
              simp only [Act.put, List.setIfInBounds_toArray, List.set_cons_zero, List.set_cons_succ]
              refine held_take (i := 18) (d := 78) (oi := _) (v := ?_) rfl rfl (by kernel_rfl) (by kernel_rfl) (by kernel_rfl) (fun _ _ _ h => h) (Or.inl ⟨by rfl, ?_⟩) (by assumption) ?_
              rotate_left
              · (intro w hSw; clear hSw; go_simp; (try with_reducible rfl))
              simp only [Act.put, List.setIfInBounds_toArray, List.set_cons_zero, List.set_cons_succ]
              refine wpAnyH_done (by kernel_rfl) ?_ _
              have HD2 := Lib.hid hd2
              clear hd2
              go_wp2
              simp only [Exit.noGoto]
              exact bodyPost_ret (results_none rfl _ _ _) rfl ⟨rfl, Or.inr HD2.out⟩
          · have hdec : decide (Stands line b pos) = false := decide_eq_false hst
            rw [hdec]
            refine held_take (i := 14) (d := 74) (oi := _) (v := undef) rfl rfl (by kernel_rfl) (by kernel_rfl) (by kernel_rfl) (fun _ _ _ h => h) (Or.inr ⟨by rfl, rfl⟩) (by assumption) ?_
            simp only [Act.put, List.setIfInBounds_toArray, List.set_cons_zero, List.set_cons_succ]
            refine held_take (i := 15) (d := 75) (oi := _) (v := undef) rfl rfl (by kernel_rfl) (by kernel_rfl) (by kernel_rfl) (fun _ _ _ h => h) (Or.inr ⟨by rfl, rfl⟩) (by assumption) ?_
            simp only [Act.put, List.setIfInBounds_toArray, List.set_cons_zero, List.set_cons_succ]
            refine held_take (i := 16) (d := 76) (oi := _) (v := undef) rfl rfl (by kernel_rfl) (by kernel_rfl) (by kernel_rfl) (fun _ _ _ h => h) (Or.inr ⟨by rfl, rfl⟩) (by assumption) ?_
            simp only [Act.put, List.setIfInBounds_toArray, List.set_cons_zero, List.set_cons_succ]
            refine held_take (i := 17) (d := 77) (oi := _) (v := undef) rfl rfl (by kernel_rfl) (by kernel_rfl) (by kernel_rfl) (fun _ _ _ h => h) (Or.inr ⟨by rfl, rfl⟩) (by assumption) ?_
            simp only [Act.put, List.setIfInBounds_toArray, List.set_cons_zero, List.set_cons_succ]
            refine held_take (i := 18) (d := 78) (oi := _) (v := ?_) rfl rfl (by kernel_rfl) (by kernel_rfl) (by kernel_rfl) (fun _ _ _ h => h) (Or.inl ⟨by rfl, ?_⟩) (by assumption) ?_
            rotate_left
            · (intro w hSw; clear hSw; go_simp; (try with_reducible rfl))
            simp only [Act.put, List.setIfInBounds_toArray, List.set_cons_zero, List.set_cons_succ]
            refine wpAnyH_done (by kernel_rfl) ?_ _
            have hc3 := HC2.out _ _ HIR2.out
            clear hc2 hc0 hd0 hd1
            have HNS := Lib.hid hst
            clear hst
            go_wp2
            obtain ⟨i1, hi3, hi4⟩ := not_stands HNS.out
            have hnear := HWAY.out.near h0 hsm (fun k h1 h2 h3 => HAG.out k h1 h2 h3) hi3 hi4
            rw [← move_small h0 hsm, ← HQ.out, ← HR.out] at hnear
            have HN := Lib.hid hnear
            clear hnear hi3 hi4
            go_quiet (fail)
            go_wp2
            exact ⟨⟨fr, Q, R, rfl, by have := HR.out; omega, rfl, by have := HQ.out; have := HMV.out; omega, HN.out, HT.out.drew _ _ _ HIR2.out⟩, by have := HQ.out; have := HMV.out; simp [intOf]; omega⟩
    · go_wp2
      go_end0
      have HO := HWAY.out.over h0 (by have := HM.out; omega)
      exact ⟨rfl, Or.inl ⟨fr, HIR.out, HO⟩⟩
end Go.Proofs.Ytcoghcfhkndijaa.Two
