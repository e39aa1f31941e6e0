/- The walk of TwowayStands. -/
import Derived.Test.YtcoghcfhkndijaaJc
namespace Go.Proofs.Ytcoghcfhkndijaa.twowayStands
open Go.Proofs.Ytcoghcfhkndijaa.Two Go.Proofs.Ytcoghcfhkndijaa.Suf Go.Proofs.Ytcoghcfhkndijaa.Crt Go.Proofs.Ytcoghcfhkndijaa.Prs Go.RowKit Go.Maps
set_option maxRecDepth 100000
set_option linter.unusedVariables false
open Go.Proofs.Ytcoghcfhkndijaa.Reg
theorem first_least {b line : Tx} : ∀ (n q : Nat), q < n → Stands line b q → ∃ p, p ≤ q ∧ First b line 0 p
  | 0, q, h, _ => absurd h (by omega)
  | n + 1, q, h, hs => by
    rcases Classical.em (∃ r, r < q ∧ Stands line b r) with ⟨r, hr, hsr⟩ | hno
    · obtain ⟨p, hp, hf⟩ := first_least n r (by omega) hsr
      exact ⟨p, by omega, hf⟩
    · exact ⟨q, Nat.le_refl _, Nat.zero_le _, hs, fun r _ hr hsr => hno ⟨r, hr, hsr⟩⟩
theorem ln_own {w : World} {base n : Nat} {v : Value} {l : Tx} (h : w.ownsRow base 5 1 v n (vals l)) : ∃ a c, v = .slice a l.length c ∧ Ln w a l c := by
  obtain ⟨a, c, e, ht, hc, hn⟩ := own_txt h
  exact ⟨a, c, e, ht.bs, hc, hn⟩

set_option maxHeartbeats 8000000 in
theorem walk (w : World) (x : Tx) (ax : Option Addr) (cx : Nat) (hmx : x.length ≤ maxLen) (hbx : Bs w w.heap.size ax x) (hnx : ax = none → cx = 0) (hcx : x.length ≤ cx) (b : Tx) (ab : Option Addr) (cb : Nat) (hmb : b.length ≤ maxLen) (hbb : Bs w w.heap.size ab b) (hnb : ab = none → cb = 0) (hcb : b.length ≤ cb) (y : Tx) (ay : Option Addr) (cy : Nat) (hmy : y.length ≤ maxLen) (hby : Bs w w.heap.size ay y) (hny : ay = none → cy = 0) (hcy : y.length ≤ cy) :
    Calls Try.prog 6 #[.slice ax x.length cx, .slice ab b.length cb, .slice ay y.length cy] w fun e w' => e = .returned (.bool true) ∧ Below w.heap.size w w' := by
  have HAW := Lib.hid (awake_any w)
  have Kx : Hid (Ln w ax x cx) := Lib.hid ⟨hbx, hcx, hnx⟩
  clear hbx hcx hnx
  have Kb : Hid (Ln w ab b cb) := Lib.hid ⟨hbb, hcb, hnb⟩
  clear hbb hcb hnb
  have Ky : Hid (Ln w ay y cy) := Lib.hid ⟨hby, hcy, hny⟩
  clear hby hcy hny

  go_enter Try.func6, Try.ntmps6
  go_wp2_with fail
  refine HAW.out.mono ?_
  rintro e' w1 ⟨rfl, hb1⟩
  have HW := Lib.hid hb1
  have Lx : Hid (∀ X, Below w1.heap.size w1 X → Ln X ax x cx) := Lib.hid fun X hX => (Kx.out.keep hb1).keep hX
  have Lb : Hid (∀ X, Below w1.heap.size w1 X → Ln X ab b cb) := Lib.hid fun X hX => (Kb.out.keep hb1).keep hX
  have Ly : Hid (∀ X, Below w1.heap.size w1 X → Ln X ay y cy) := Lib.hid fun X hX => (Ky.out.keep hb1).keep hX
  clear hb1 HAW Kx Kb Ky
  by_cases hx1 : x.length ≤ 100
  · have hx2 : ¬ (100 : Int) < (x.length : Int) := by omega
    by_cases hb1 : b.length ≤ 100
    · have hb2 : ¬ (100 : Int) < (b.length : Int) := by omega
      by_cases hy1 : y.length ≤ 100
      · have hy2 : ¬ (100 : Int) < (y.length : Int) := by omega
        by_cases h0 : b = []
        · have hz : ((b.length : Int) == 0) = true := by rw [h0]; rfl
          go_wp2
          go_ret
          exact ⟨rfl, HW.out⟩
        · have hz : ((b.length : Int) == 0) = false := by simpa using h0
          have hbp := List.length_pos_iff.2 h0
          have LX := Lx.out w1 (Below.refl _ _)
          have LB := Lb.out w1 (Below.refl _ _)
          have LY := Ly.out w1 (Below.refl _ _)
          have hnx := LX.2.2
          have hnb := LB.2.2
          have hny := LY.2.2
          have LX1 := Lib.hid LX.1
          have LB1 := Lib.hid LB.1
          have LY1 := Lib.hid LY.1
          clear LX LB LY
          go_wp2_with (first
            | (at_builtin; refine app_bs rfl _ _ rfl w1.heap.size (.slice none 0 0) 0 [] rfl (World.ownsRow_nil _ _ _ _) ax x cx w1.heap.size rfl LX1.out hnx (by omega) (Nat.le_refl _) ?_; intro v1 w2 ho1 hg1; have H1 : Hid (w2.ownsRow w1.heap.size 5 1 v1 x.length (vals x)) := Lib.hid (by simpa using ho1); have X2 := Lib.hid (Go.Proofs.Ytcoghcfhkndijaa.app_below (Below.refl w1.heap.size w1) (World.ownsRow_nil _ _ _ _) hg1 (Nat.le_refl _) (Nat.le_refl _)); clear ho1 hg1)
            | (at_builtin; refine app_bs rfl _ _ rfl w1.heap.size v1 x.length (vals x) rfl H1.out ab b cb w1.heap.size rfl (LB1.out.keep X2.out) hnb (by omega) X2.out.size ?_; intro v2 w3 ho2 hg2; have X3 := Lib.hid (Go.Proofs.Ytcoghcfhkndijaa.app_below X2.out H1.out hg2 X2.out.size (Nat.le_refl _)); have H2 : Hid (w3.ownsRow w1.heap.size 5 1 v2 (x.length + b.length) (vals (x ++ b))) := Lib.hid (by simpa [vals] using ho2); clear ho2 hg2)
            | (at_builtin; refine app_bs rfl _ _ rfl w1.heap.size v2 (x.length + b.length) (vals (x ++ b)) rfl H2.out ay y cy w1.heap.size rfl (LY1.out.keep X3.out) hny (by omega) X3.out.size ?_; intro v3 w4 ho3 hg3; have X4 := Lib.hid (Go.Proofs.Ytcoghcfhkndijaa.app_below X3.out H2.out hg3 X3.out.size (Nat.le_refl _)); have H3 : Hid (w4.ownsRow w1.heap.size 5 1 v3 (x.length + b.length + y.length) (vals (x ++ b ++ y))) := Lib.hid (by simpa [vals] using ho3); clear ho3 hg3; obtain ⟨L, hL⟩ : ∃ L : Tx, L = x ++ b ++ y := ⟨_, rfl⟩; rw [← hL] at H3; obtain ⟨al, cl, rfl, LN⟩ := ln_own H3.out; have LN4 := Lib.hid LN; have HL := Lib.hid hL; clear LN hL)
            | fail)
          refine (new_some w4 b ab cb (Lb.out w4 X4.out) h0 (by omega)).mono ?_
          rintro e w5 ⟨t, rfl, ht, hb5⟩
          have LN5 := Lib.hid (LN4.out.keep hb5)
          have HT5 := Lib.hid ht
          have X5 := Lib.hid (X4.out.trans (hb5.mono X4.out.size))
          clear ht hb5 LN4 X4 H1 H2 H3 X2 X3
          have hst := stands_mid x b y
          have hL := HL.out
          rw [← hL] at hst
          obtain ⟨p, hpx, hpf⟩ := first_least _ _ (Nat.lt_succ_self x.length) hst
          have hLl : L.length = x.length + b.length + y.length := by rw [hL]; simp; omega
          have hn0 := nextOf_first h0 hpf
          have hn1 := nextOf_first h0 (first_self hst)
          have HN0 : Hid (∀ X, Below w5.heap.size w5 X → Calls Try.prog 12 #[.pointer (some ⟨t, 0, none⟩), .slice al L.length cl, .int .i64 0] X fun e w' => e = .returned (.int .i64 (p : Int)) ∧ Below X.heap.size X w') := Lib.hid (fun X hX => by
            have := next_some X t b (HT5.out.keep hX) h0 (by omega) L al cl (LN5.out.keep hX) (by omega) 0 (by omega)
            rwa [show (0 : Int).toNat = 0 from rfl, hn0] at this)
          have HN1 : Hid (∀ X, Below w5.heap.size w5 X → Calls Try.prog 12 #[.pointer (some ⟨t, 0, none⟩), .slice al L.length cl, .int .i64 (x.length : Int)] X fun e w' => e = .returned (.int .i64 (x.length : Int)) ∧ Below X.heap.size X w') := Lib.hid (fun X hX => by
            have := next_some X t b (HT5.out.keep hX) h0 (by omega) L al cl (LN5.out.keep hX) (by omega) (x.length : Int) (by omega)
            rwa [show (x.length : Int).toNat = x.length by omega, hn1] at this)
          have hsd := (stands_take L b p).1 hpf.2.1
          have hple := hpf.2.1.le h0
          have HSD := Lib.hid hsd
          have HLL := Lib.hid hLl
          have HPL := Lib.hid (And.intro hple hpx)
          have hLi : (L.length : Int) ≤ 300 := by omega
          clear hn0 hn1 hpf hst hL hsd hLl hple
          go_wp2_with fail
          refine (HN0.out w5 (Below.refl _ _)).mono ?_
          rintro e w6 ⟨rfl, hb6⟩
          have HB6 := Lib.hid hb6
          clear hb6
          obtain ⟨E, hE⟩ : ∃ E, E = p + b.length := ⟨_, rfl⟩
          have hEL : E ≤ L.length := by have := HPL.out.1; omega
          obtain ⟨A, hcut, hbA⟩ := cut_mid al L cl p E (by omega) hEL LN5.out.2.1 w5 w5.heap.size LN5.out.1
          have HBA := Lib.hid hbA
          have hwE : IntKind.i64.wrap ((p : Int) + (b.length : Int)) = (E : Int) := by rw [IntWalk.i64_in _ (by omega)]; omega
          have hbe := Tri.str_beq ((L.drop p).take b.length) b
          rw [decide_eq_true HSD.out] at hbe
          have hpi : (p : Int) ≤ (x.length : Int) := by omega
          have hEi : (E : Int) ≤ (L.length : Int) := by omega
          have hpE : (p : Int) ≤ (E : Int) := by omega
          have HE := Lib.hid hE
          have HEL := Lib.hid hEL
          clear hbA hE hEL
          go_wp2_with fail
          refine wp_region_held_drew (S := fun w' => Below w6.drew.heap.size w6.drew w') (by kernel_rfl) (Below.refl _ _) (fun hH0 => ?_)
          have B0 := Lib.hid (below_drews HB6.out 1)
          change Hid (Below _ _ w6.drew) at B0
          generalize w6.drew = x0 at *
          refine held_take (i := 0) (d := 50) (oi := _) (v := ?_) rfl rfl (by kernel_rfl) (by kernel_rfl) (by kernel_rfl) (fun _ _ _ h => h) (Or.inl ⟨by rfl, ?_⟩) (by assumption) ?_
          rotate_left
          · (intro w hSw; clear hSw; go_simp; (try with_reducible rfl))
          simp only [Act.put, List.setIfInBounds_toArray, List.set_cons_zero, List.set_cons_succ]
          refine held_take (i := 1) (d := 51) (oi := _) (v := ?_) rfl rfl (by kernel_rfl) (by kernel_rfl) (by kernel_rfl) (fun _ _ _ h => h) (Or.inl ⟨by rfl, ?_⟩) (by assumption) ?_
          rotate_left
          · (intro w hSw; clear hSw; go_simp; (try with_reducible rfl))
          simp only [Act.put, List.setIfInBounds_toArray, List.set_cons_zero, List.set_cons_succ]
          refine held_take (i := 2) (d := 52) (oi := _) (v := ?_) rfl rfl (by kernel_rfl) (by kernel_rfl) (by kernel_rfl) (fun _ _ _ h => h) (Or.inl ⟨by rfl, ?_⟩) (by assumption) ?_
          rotate_left
          · (intro w hSw; clear hSw; go_simp; (try with_reducible rfl))
          simp only [Act.put, List.setIfInBounds_toArray, List.set_cons_zero, List.set_cons_succ]
          refine held_take (i := 3) (d := 53) (oi := _) (v := ?_) rfl rfl (by kernel_rfl) (by kernel_rfl) (by kernel_rfl) (fun _ _ _ h => h) (Or.inl ⟨by rfl, ?_⟩) (by assumption) ?_
          rotate_left
          · (intro w hSw; clear hSw; go_simp; (try with_reducible rfl))
          simp only [Act.put, List.setIfInBounds_toArray, List.set_cons_zero, List.set_cons_succ]
          refine held_take (i := 4) (d := 54) (oi := _) (v := ?_) rfl rfl (by kernel_rfl) (by kernel_rfl) (by kernel_rfl) (fun _ _ _ h => h) (Or.inl ⟨by rfl, ?_⟩) (by assumption) ?_
          rotate_left
          · (intro w hSw; clear hSw; go_simp; (try with_reducible rfl))
          simp only [Act.put, List.setIfInBounds_toArray, List.set_cons_zero, List.set_cons_succ]
          refine held_take (i := 5) (d := 55) (oi := _) (v := ?_) rfl rfl (by kernel_rfl) (by kernel_rfl) (by kernel_rfl) (fun _ _ _ h => h) (Or.inl ⟨by rfl, ?_⟩) (by assumption) ?_
          rotate_left
          · (intro w hSw; clear hSw; go_simp; (try with_reducible rfl))
          simp only [Act.put, List.setIfInBounds_toArray, List.set_cons_zero, List.set_cons_succ]
          refine held_take (i := 6) (d := 56) (oi := _) (v := ?_) rfl rfl (by kernel_rfl) (by kernel_rfl) (by kernel_rfl) (fun _ _ _ h => h) (Or.inl ⟨by rfl, ?_⟩) (by assumption) ?_
          rotate_left
          · (intro w hSw; clear hSw; go_simp; (try with_reducible rfl))
          simp only [Act.put, List.setIfInBounds_toArray, List.set_cons_zero, List.set_cons_succ]
          refine held_take (i := 8) (d := 58) (oi := _) (v := ?_) rfl rfl (by kernel_rfl) (by kernel_rfl) (by kernel_rfl) (fun _ _ _ h => h) (Or.inl ⟨by rfl, ?_⟩) (by assumption) ?_
          rotate_left
          · (intro w hSw; clear hSw; go_simp; (try with_reducible rfl))
          simp only [Act.put, List.setIfInBounds_toArray, List.set_cons_zero, List.set_cons_succ]
          refine held_take (i := 9) (d := 59) (oi := _) (v := ?_) rfl rfl (by kernel_rfl) (by kernel_rfl) (by kernel_rfl) (fun _ _ _ h => h) (Or.inl ⟨by rfl, ?_⟩) (by assumption) ?_
          rotate_left
          · (intro w hSw; clear hSw; go_simp; (try with_reducible rfl))
          simp only [Act.put, List.setIfInBounds_toArray, List.set_cons_zero, List.set_cons_succ]
          refine wpAnyH_ready (rs := [7]) (by kernel_rfl) (by simp) ?_
          refine AllReadyH.cons rfl (fun K hK => ?_) AllReadyH.nil
          go_simp
          go_wp2_with (go_at_call 12; (with_reducible refine (HN1.out _ B0.out).mono ?_); rintro e x1 ⟨rfl, hb⟩)
          refine hK.out _ _ hb (fun _ => ?_)
          have B1 := Lib.hid (B0.out.trans (hb.mono B0.out.size))
          refine wpAnyH_more (S' := fun w' => Below x1.heap.size x1 w') (fun w' h => hb.trans (h.mono hb.size)) _ _ _ _ ?_
          have hH1 : Below x1.heap.size x1 x1 := Below.refl _ _
          clear hK K hH0 hb B0
          refine held_take (i := 10) (d := 60) (oi := _) (v := ?_) rfl rfl (by kernel_rfl) (by kernel_rfl) (by kernel_rfl) (fun _ _ _ h => h) (Or.inl ⟨by rfl, ?_⟩) (by assumption) ?_
          rotate_left
          · (intro w hSw; clear hSw; go_simp; (try with_reducible rfl))
          simp only [Act.put, List.setIfInBounds_toArray, List.set_cons_zero, List.set_cons_succ]
          refine held_take (i := 11) (d := 61) (oi := _) (v := ?_) rfl rfl (by kernel_rfl) (by kernel_rfl) (by kernel_rfl) (fun _ _ _ h => h) (Or.inl ⟨by rfl, ?_⟩) (by assumption) ?_
          rotate_left
          · (intro w hSw; clear hSw; go_simp; (try with_reducible rfl))
          simp only [Act.put, List.setIfInBounds_toArray, List.set_cons_zero, List.set_cons_succ]
          refine held_take (i := 12) (d := 62) (oi := _) (v := ?_) rfl rfl (by kernel_rfl) (by kernel_rfl) (by kernel_rfl) (fun _ _ _ h => h) (Or.inl ⟨by rfl, ?_⟩) (by assumption) ?_
          rotate_left
          · (intro w hSw; clear hSw; go_simp; (try with_reducible rfl))
          simp only [Act.put, List.setIfInBounds_toArray, List.set_cons_zero, List.set_cons_succ]
          refine held_take (i := 13) (d := 63) (oi := _) (v := ?_) rfl rfl (by kernel_rfl) (by kernel_rfl) (by kernel_rfl) (fun _ _ _ h => h) (Or.inl ⟨by rfl, ?_⟩) (by assumption) ?_
          rotate_left
          · (intro w hSw; clear hSw; go_simp; (try with_reducible rfl))
          simp only [Act.put, List.setIfInBounds_toArray, List.set_cons_zero, List.set_cons_succ]
          refine held_take (i := 14) (d := 64) (oi := _) (v := ?_) rfl rfl (by kernel_rfl) (by kernel_rfl) (by kernel_rfl) (fun _ _ _ h => h) (Or.inl ⟨by rfl, ?_⟩) (by assumption) ?_
          rotate_left
          · (intro w hSw; clear hSw; go_simp; (try with_reducible rfl))
          simp only [Act.put, List.setIfInBounds_toArray, List.set_cons_zero, List.set_cons_succ]
          refine held_take (i := 15) (d := 65) (oi := _) (v := ?_) rfl rfl (by kernel_rfl) (by kernel_rfl) (by kernel_rfl) (fun _ _ _ h => h) (Or.inl ⟨by rfl, ?_⟩) (by assumption) ?_
          rotate_left
          · (intro w hSw; clear hSw; go_simp; (try with_reducible rfl))
          simp only [Act.put, List.setIfInBounds_toArray, List.set_cons_zero, List.set_cons_succ]
          refine held_take (i := 16) (d := 66) (oi := _) (v := ?_) rfl rfl (by kernel_rfl) (by kernel_rfl) (by kernel_rfl) (fun _ _ _ h => h) (Or.inl ⟨by rfl, ?_⟩) (by assumption) ?_
          rotate_left
          · (intro w hSw; clear hSw; go_simp; (try with_reducible rfl))
          simp only [Act.put, List.setIfInBounds_toArray, List.set_cons_zero, List.set_cons_succ]
          refine held_take (i := 17) (d := 67) (oi := _) (v := ?_) rfl rfl (by kernel_rfl) (by kernel_rfl) (by kernel_rfl) (fun _ _ _ h => h) (Or.inl ⟨by rfl, ?_⟩) (by assumption) ?_
          rotate_left
          · (intro w hSw; clear hSw; go_simp; (try with_reducible rfl))
          simp only [Act.put, List.setIfInBounds_toArray, List.set_cons_zero, List.set_cons_succ]
          refine held_take (i := 18) (d := 68) (oi := _) (v := ?_) rfl rfl (by kernel_rfl) (by kernel_rfl) (by kernel_rfl) (fun _ _ _ h => h) (Or.inl ⟨by rfl, ?_⟩) (by assumption) ?_
          rotate_left
          · (intro w hSw; clear hSw; go_simp; (try with_reducible rfl))
          simp only [Act.put, List.setIfInBounds_toArray, List.set_cons_zero, List.set_cons_succ]
          refine held_take (i := 19) (d := 69) (oi := _) (v := ?_) rfl rfl (by kernel_rfl) (by kernel_rfl) (by kernel_rfl) (fun _ _ _ h => h) (Or.inl ⟨by rfl, ?_⟩) (by assumption) ?_
          rotate_left
          · (intro w hSw; clear hSw; go_simp; (try with_reducible rfl))
          simp only [Act.put, List.setIfInBounds_toArray, List.set_cons_zero, List.set_cons_succ]
          refine held_take (i := 20) (d := 70) (oi := _) (v := ?_) rfl rfl (by kernel_rfl) (by kernel_rfl) (by kernel_rfl) (fun _ _ _ h => h) (Or.inl ⟨by rfl, ?_⟩) (by assumption) ?_
          rotate_left
          · (intro w hSw; clear hSw; go_simp; (try with_reducible rfl))
          simp only [Act.put, List.setIfInBounds_toArray, List.set_cons_zero, List.set_cons_succ]
          refine held_take (i := 21) (d := 71) (oi := _) (v := ?_) rfl rfl (by kernel_rfl) (by kernel_rfl) (by kernel_rfl) (fun _ _ _ h => h) (Or.inl ⟨by rfl, ?_⟩) (by assumption) ?_
          rotate_left
          · (intro w hSw; clear hSw; go_simp; (try with_reducible rfl))
          simp only [Act.put, List.setIfInBounds_toArray, List.set_cons_zero, List.set_cons_succ]
          refine held_take (i := 22) (d := 72) (oi := _) (v := ?_) rfl rfl (by kernel_rfl) (by kernel_rfl) (by kernel_rfl) (fun _ _ _ h => h) (Or.inl ⟨by rfl, ?_⟩) (by assumption) ?_
          rotate_left
          · (intro w hSw; clear hSw; go_simp; (try with_reducible rfl))
          simp only [Act.put, List.setIfInBounds_toArray, List.set_cons_zero, List.set_cons_succ]
          refine held_take (i := 23) (d := 73) (oi := _) (v := ?_) rfl rfl (by kernel_rfl) (by kernel_rfl) (by kernel_rfl) (fun _ _ _ h => h) (Or.inl ⟨by rfl, ?_⟩) (by assumption) ?_
          rotate_left
          · (intro w hSw; clear hSw; go_simp; (try with_reducible rfl))
          simp only [Act.put, List.setIfInBounds_toArray, List.set_cons_zero, List.set_cons_succ]
          refine held_take (i := 24) (d := 74) (oi := _) (v := ?_) rfl rfl (by kernel_rfl) (by kernel_rfl) (by kernel_rfl) (fun _ _ _ h => h) (Or.inl ⟨by rfl, ?_⟩) (by assumption) ?_
          rotate_left
          · (intro w hSw; clear hSw; go_simp; (try with_reducible rfl))
          simp only [Act.put, List.setIfInBounds_toArray, List.set_cons_zero, List.set_cons_succ]
          refine held_take (i := 25) (d := 75) (oi := _) (v := ?_) rfl rfl (by kernel_rfl) (by kernel_rfl) (by kernel_rfl) (fun _ _ _ h => h) (Or.inl ⟨by rfl, ?_⟩) (by assumption) ?_
          rotate_left
          · (intro w hSw; clear hSw; go_simp; (try with_reducible rfl))
          simp only [Act.put, List.setIfInBounds_toArray, List.set_cons_zero, List.set_cons_succ]
          refine held_take (i := 26) (d := 76) (oi := _) (v := ?_) rfl rfl (by kernel_rfl) (by kernel_rfl) (by kernel_rfl) (fun _ _ _ h => h) (Or.inl ⟨by rfl, ?_⟩) (by assumption) ?_
          rotate_left
          · (intro w hSw; clear hSw; go_simp; (try with_reducible rfl))
          simp only [Act.put, List.setIfInBounds_toArray, List.set_cons_zero, List.set_cons_succ]
          refine held_take (i := 27) (d := 77) (oi := _) (v := ?_) rfl rfl (by kernel_rfl) (by kernel_rfl) (by kernel_rfl) (fun _ _ _ h => h) (Or.inl ⟨by rfl, ?_⟩) (by assumption) ?_
          rotate_left
          · (intro w hSw; clear hSw; go_simp; (try with_reducible rfl))
          simp only [Act.put, List.setIfInBounds_toArray, List.set_cons_zero, List.set_cons_succ]
          refine held_take (i := 28) (d := 78) (oi := _) (v := ?_) rfl rfl (by kernel_rfl) (by kernel_rfl) (by kernel_rfl) (fun _ _ _ h => h) (Or.inl ⟨by rfl, ?_⟩) (by assumption) ?_
          rotate_left
          · (intro w hSw; clear hSw; go_simp; (try with_reducible rfl))
          simp only [Act.put, List.setIfInBounds_toArray, List.set_cons_zero, List.set_cons_succ]
          have HCV1 := Lib.hid (fun w' (h : Below x1.heap.size x1 w') => mid_str (c := cl - p) HE.out HEL.out (HBA.out w' (LN5.out.1.keep (B1.out.trans (h.mono B1.out.size)))))
          have HCV2 := Lib.hid (fun w' (h : Below x1.heap.size x1 w') => str_of_bs cb (Lb.out w' (X5.out.trans ((B1.out.trans (h.mono B1.out.size)).mono X5.out.size))).1)
          refine held_take (i := 29) (d := 79) (oi := _) (v := ?_) rfl rfl (by kernel_rfl) (by kernel_rfl) (by kernel_rfl) (fun _ _ _ h => h) (Or.inl ⟨by rfl, ?_⟩) (by assumption) ?_
          rotate_left
          · (intro w hSw; clear hSw; go_simp; (try with_reducible rfl))
          simp only [Act.put, List.setIfInBounds_toArray, List.set_cons_zero, List.set_cons_succ]
          refine held_take (i := 30) (d := 80) (oi := _) (v := ?_) rfl rfl (by kernel_rfl) (by kernel_rfl) (by kernel_rfl) (fun _ _ _ h => h) (Or.inl ⟨by rfl, ?_⟩) (by assumption) ?_
          rotate_left
          · (intro w hSw; have hcvw := HCV1.out w hSw; clear hSw; go_simp; (try with_reducible rfl))
          simp only [Act.put, List.setIfInBounds_toArray, List.set_cons_zero, List.set_cons_succ]
          refine held_take (i := 31) (d := 81) (oi := _) (v := ?_) rfl rfl (by kernel_rfl) (by kernel_rfl) (by kernel_rfl) (fun _ _ _ h => h) (Or.inl ⟨by rfl, ?_⟩) (by assumption) ?_
          rotate_left
          · (intro w hSw; clear hSw; go_simp; (try with_reducible rfl))
          simp only [Act.put, List.setIfInBounds_toArray, List.set_cons_zero, List.set_cons_succ]
          refine held_take (i := 32) (d := 82) (oi := _) (v := ?_) rfl rfl (by kernel_rfl) (by kernel_rfl) (by kernel_rfl) (fun _ _ _ h => h) (Or.inl ⟨by rfl, ?_⟩) (by assumption) ?_
          rotate_left
          · (intro w hSw; have hcvw := HCV2.out w hSw; clear hSw; go_simp; (try with_reducible rfl))
          simp only [Act.put, List.setIfInBounds_toArray, List.set_cons_zero, List.set_cons_succ]
          refine held_take (i := 33) (d := 83) (oi := _) (v := ?_) rfl rfl (by kernel_rfl) (by kernel_rfl) (by kernel_rfl) (fun _ _ _ h => h) (Or.inl ⟨by rfl, ?_⟩) (by assumption) ?_
          rotate_left
          · (intro w hSw; clear hSw; go_simp; (try with_reducible rfl))
          simp only [Act.put, List.setIfInBounds_toArray, List.set_cons_zero, List.set_cons_succ]
          refine held_take (i := 34) (d := 84) (oi := _) (v := ?_) rfl rfl (by kernel_rfl) (by kernel_rfl) (by kernel_rfl) (fun _ _ _ h => h) (Or.inl ⟨by rfl, ?_⟩) (by assumption) ?_
          rotate_left
          · (intro w hSw; clear hSw; go_simp; (try with_reducible rfl))
          simp only [Act.put, List.setIfInBounds_toArray, List.set_cons_zero, List.set_cons_succ]
          refine held_take (i := 35) (d := 6) (oi := _) (v := ?_) rfl rfl (by kernel_rfl) (by kernel_rfl) (by kernel_rfl) (fun _ _ _ h => h) (Or.inl ⟨by rfl, ?_⟩) (by assumption) ?_
          rotate_left
          · (intro w hSw; clear hSw; go_simp; (try with_reducible rfl))
          simp only [Act.put, List.setIfInBounds_toArray, List.set_cons_zero, List.set_cons_succ]
          refine wpAnyH_done (by kernel_rfl) ?_ _
          go_wp2
          go_ret
          exact ⟨rfl, HW.out.trans ((X5.out.trans (B1.out.mono X5.out.size)).mono HW.out.size)⟩
      · have hy2 : (100 : Int) < (y.length : Int) := by omega
        go_wp2
        go_ret
        exact ⟨rfl, HW.out⟩
    · have hb2 : (100 : Int) < (b.length : Int) := by omega
      go_wp2
      go_ret
      exact ⟨rfl, HW.out⟩
  · have hx2 : (100 : Int) < (x.length : Int) := by omega
    go_wp2
    go_ret
    exact ⟨rfl, HW.out⟩
end Go.Proofs.Ytcoghcfhkndijaa.twowayStands
