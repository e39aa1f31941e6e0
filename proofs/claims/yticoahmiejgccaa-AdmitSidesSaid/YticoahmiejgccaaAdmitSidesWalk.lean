/- AdmitSides, walked. -/
import Derived.Test.YticoahmiejgccaaAdmS
namespace Go.Proofs.Yticoahmiejgccaa.admitSides
open Go.RowKit Go.Proofs.Yticoahmiejgccaa.Prs Adm Reg
set_option maxRecDepth 100000
theorem boxes (W : World) (va vb vc : Value) {w1 : World} (hb1 : Below (((W.alloc (.cells #[va] 22)).alloc (.cells #[vb] 22)).alloc (.cells #[vc] 22)).heap.size (((W.alloc (.cells #[va] 22)).alloc (.cells #[vb] 22)).alloc (.cells #[vc] 22)) w1) :
    w1.cell? ⟨W.heap.size, 0, none⟩ = some va ∧ w1.cell? ⟨W.heap.size + 1, 0, none⟩ = some vb ∧ w1.cell? ⟨W.heap.size + 1 + 1, 0, none⟩ = some vc ∧ W.heap.size + 3 ≤ w1.heap.size ∧ Below W.heap.size W w1 := by
  have hs := hb1.size
  have n3 := heap_alloc_new ((W.alloc (.cells #[va] 22)).alloc (.cells #[vb] 22)) (.cells #[vc] 22)
  have n2 := heap_alloc_new (W.alloc (.cells #[va] 22)) (.cells #[vb] 22)
  have n1 := heap_alloc_new W (.cells #[va] 22)
  have B2 : Below (W.alloc (.cells #[va] 22)).heap.size (W.alloc (.cells #[va] 22)) ((W.alloc (.cells #[va] 22)).alloc (.cells #[vb] 22)) := (Below.refl _ _).alloc (Nat.le_refl _) _
  have B3 : Below ((W.alloc (.cells #[va] 22)).alloc (.cells #[vb] 22)).heap.size ((W.alloc (.cells #[va] 22)).alloc (.cells #[vb] 22)) (((W.alloc (.cells #[va] 22)).alloc (.cells #[vb] 22)).alloc (.cells #[vc] 22)) := (Below.refl _ _).alloc (Nat.le_refl _) _
  have B1 : Below W.heap.size W (W.alloc (.cells #[va] 22)) := (Below.refl _ _).alloc (Nat.le_refl _) _
  have q3 := (hb1.block _ (txt_lt n3)).trans n3
  have B31 := B3.trans (hb1.mono B3.size)
  have q2 := (B31.block _ (txt_lt n2)).trans n2
  have B21 := B2.trans (B31.mono B2.size)
  have q1 := (B21.block _ (txt_lt n1)).trans n1
  have e1 : (W.alloc (.cells #[va] 22)).heap.size = W.heap.size + 1 := by simp
  have e2 : ((W.alloc (.cells #[va] 22)).alloc (.cells #[vb] 22)).heap.size = W.heap.size + 1 + 1 := by simp
  have e3 : (((W.alloc (.cells #[va] 22)).alloc (.cells #[vb] 22)).alloc (.cells #[vc] 22)).heap.size = W.heap.size + 1 + 1 + 1 := by simp
  rw [e2] at q3
  rw [e1] at q2
  rw [e3] at hs
  refine ⟨?_, ?_, ?_, by omega, B1.trans (B21.mono B1.size)⟩
  · rw [cell_of_row w1 _ _ _ _ _ q1]; rfl
  · rw [cell_of_row w1 _ _ _ _ _ q2]; rfl
  · rw [cell_of_row w1 _ _ _ _ _ q3]; rfl
set_option maxHeartbeats 4000000 in
theorem walk (W : World) (a : List UInt8) (aa : Option Addr) (ca : Nat) (_hma : a.length ≤ maxLen) (hba : Bs W W.heap.size aa a) (hna : aa = none → ca = 0) (b : List UInt8) (ab : Option Addr) (cb : Nat) (_hmb : b.length ≤ maxLen) (hbb : Bs W W.heap.size ab b) (hnb : ab = none → cb = 0) (c : List UInt8) (ac : Option Addr) (cc : Nat) (_hmc : c.length ≤ maxLen) (hbc : Bs W W.heap.size ac c) (hnc : ac = none → cc = 0) :
    Calls Try.prog 6 #[.slice aa a.length ca, .slice ab b.length cb, .slice ac c.length cc] W fun r w' => r = .returned (.bool true) ∧ Below W.heap.size W w' := by
  have HA := Lib.hid hba
  have HB := Lib.hid hbb
  have HC := Lib.hid hbc
  clear hba hbb hbc
  by_cases hall : a.length ≤ 100 ∧ b.length ≤ 100 ∧ c.length ≤ 100 ∧ b.length ≠ 0
  rotate_left
  · obtain ⟨d1, hd1⟩ : ∃ d, decide ((100 : Int) < (a.length : Int)) = d := ⟨_, rfl⟩
    obtain ⟨d2, hd2⟩ : ∃ d, decide ((100 : Int) < (b.length : Int)) = d := ⟨_, rfl⟩
    obtain ⟨d3, hd3⟩ : ∃ d, decide ((100 : Int) < (c.length : Int)) = d := ⟨_, rfl⟩
    obtain ⟨d4, hd4⟩ : ∃ d, ((b.length : Int) == 0) = d := ⟨_, rfl⟩
    have hd : (d1 || d2 || d3 || d4) = true := by rw [← hd1, ← hd2, ← hd3, ← hd4]; simp only [Bool.or_eq_true, decide_eq_true_eq, beq_iff_eq]; omega
    cases d1 <;> cases d2 <;> cases d3 <;> cases d4
    all_goals first
      | (simp at hd; done)
      | (go_enter Try.func6, Try.ntmps6
         go_wp2_with (go_at_call 8; (with_reducible refine (awake_any _).mono ?_); rintro r w1 ⟨rfl, hb1⟩; obtain ⟨k1, k2, k3, hsz, hbW⟩ := boxes W _ _ _ hb1)
         go_ret
         exact ⟨rfl, hbW⟩)
  obtain ⟨hla, hlb, hlc, hlz⟩ := hall
  have hd1 : decide ((100 : Int) < (a.length : Int)) = false := decide_eq_false (by omega)
  have hd2 : decide ((100 : Int) < (b.length : Int)) = false := decide_eq_false (by omega)
  have hd3 : decide ((100 : Int) < (c.length : Int)) = false := decide_eq_false (by omega)
  have hd4 : ((b.length : Int) == 0) = false := by simpa using hlz
  go_enter Try.func6, Try.ntmps6
  have hmf : ∀ (fn : Fn) (first cap : Array Value) (w : World), (Instr.makeFunc fn first cap).run Try.prog w = .ok (.func fn first cap) w := fun _ _ _ _ => rfl
  go_wp2_with (go_at_call 8; (with_reducible refine (awake_any _).mono ?_); rintro r w1 ⟨rfl, hb1⟩; obtain ⟨k1, k2, k3, hsz, hbW⟩ := boxes W _ _ _ hb1)
  have hP := pb_new w1 ((a.length : Int) + 1) ((a.length : Int) + 1 + (b.length : Int))
  have hb2 : Below w1.heap.size w1 (w1.alloc (.cells #[.int .i64 ((a.length : Int) + 1), .int .i64 ((a.length : Int) + 1 + (b.length : Int))] 31)) := (Below.refl _ _).alloc (Nat.le_refl _) _
  generalize w1.alloc (.cells #[.int .i64 ((a.length : Int) + 1), .int .i64 ((a.length : Int) + 1 + (b.length : Int))] 31) = w2 at *
  have hs2 := hb2.size
  have hlt := hP.lt
  have bW : ∀ X, Below w2.heap.size w2 X → Below w1.heap.size w1 X := fun X h => hb2.trans (h.mono hs2)
  have HK : Hid (∀ X, Below w2.heap.size w2 X → X.cell? ⟨W.heap.size + 1, 0, none⟩ = some (.slice ab b.length cb)) := Lib.hid fun X h => ((bW X h).cell (p := ⟨W.heap.size + 1, 0, none⟩) (by show W.heap.size + 1 < w1.heap.size; omega)).trans k2
  have HPc : Hid (∀ X, Below w2.heap.size w2 X → X.cell? ⟨w1.heap.size, 0, none⟩ = some (.int .i64 ((a.length : Int) + 1)) ∧ X.cell? ⟨w1.heap.size, 1, none⟩ = some (.int .i64 ((a.length : Int) + 1 + (b.length : Int)))) := Lib.hid fun X h => (hP.keep h hlt).cells
  have HWX : Hid (∀ X, Below w2.heap.size w2 X → Below W.heap.size W X) := Lib.hid fun X h => hbW.trans ((bW X h).mono hbW.size)
  have HJ : ∀ (s o : UInt8) X, Below w2.heap.size w2 X → Calls Try.prog 19 #[.int .u8 (s.toNat : Int), .int .u8 (o.toNat : Int), .pointer (some ⟨W.heap.size, 0, none⟩), .pointer (some ⟨W.heap.size + 1, 0, none⟩), .pointer (some ⟨W.heap.size + 1 + 1, 0, none⟩)] X (GivesText X (a ++ [s] ++ b ++ [o] ++ c)) := fun s o X h => by
    have hX := (bW X h)
    have hXs := hX.size
    have hWX := HWX.out X h
    exact join_any a b c aa ab ac ca cb cc W.heap.size (W.heap.size + 1) (W.heap.size + 1 + 1) s o X (by omega) (by omega) (by omega) ((hX.cell (p := ⟨W.heap.size, 0, none⟩) (by show W.heap.size < w1.heap.size; omega)).trans k1) ((hX.cell (p := ⟨W.heap.size + 1, 0, none⟩) (by show W.heap.size + 1 < w1.heap.size; omega)).trans k2) ((hX.cell (p := ⟨W.heap.size + 1 + 1, 0, none⟩) (by show W.heap.size + 1 + 1 < w1.heap.size; omega)).trans k3) ((HA.out.keep hWX).more hWX.size) ((HB.out.keep hWX).more hWX.size) ((HC.out.keep hWX).more hWX.size) hna hnb hnc hla hlb hlc
  have hbne : b ≠ [] := by intro e; rw [e] at hlz; exact hlz rfl
  have hp : (⟨(a.length : Int) + 1, (a.length : Int) + 1 + (b.length : Int)⟩ : Pr) = ⟨((a.length + 1 : Nat) : Int), ((a.length + 1 + b.length : Nat) : Int)⟩ := by simp
  obtain ⟨L1, hL1⟩ : ∃ L, a ++ [(32 : UInt8)] ++ b ++ [(45 : UInt8)] ++ c = L := ⟨_, rfl⟩
  have HLl1 : Hid (L1.length ≤ 1000000000) := Lib.hid (by rw [← hL1]; simp; omega)
  have HF1 : Hid (free isWd L1 ⟨(a.length : Int) + 1, (a.length : Int) + 1 + (b.length : Int)⟩ = true) := Lib.hid (by rw [← hL1, hp, free_sides isWd a b c 32 45 hbne]; decide +kernel)
  have J1 : Hid (∀ X, Below w2.heap.size w2 X → Calls Try.prog 19 #[.int .u8 32, .int .u8 45, .pointer (some ⟨W.heap.size, 0, none⟩), .pointer (some ⟨W.heap.size + 1, 0, none⟩), .pointer (some ⟨W.heap.size + 1 + 1, 0, none⟩)] X (GivesText X L1)) := Lib.hid fun X h => by rw [← hL1]; exact HJ 32 45 X h
  clear hL1
  obtain ⟨L2, hL2⟩ : ∃ L, a ++ [(120 : UInt8)] ++ b ++ [(32 : UInt8)] ++ c = L := ⟨_, rfl⟩
  have HLl2 : Hid (L2.length ≤ 1000000000) := Lib.hid (by rw [← hL2]; simp; omega)
  have HF2 : Hid (free isWd L2 ⟨(a.length : Int) + 1, (a.length : Int) + 1 + (b.length : Int)⟩ = false) := Lib.hid (by rw [← hL2, hp, free_sides isWd a b c 120 32 hbne]; decide +kernel)
  have J2 : Hid (∀ X, Below w2.heap.size w2 X → Calls Try.prog 19 #[.int .u8 120, .int .u8 32, .pointer (some ⟨W.heap.size, 0, none⟩), .pointer (some ⟨W.heap.size + 1, 0, none⟩), .pointer (some ⟨W.heap.size + 1 + 1, 0, none⟩)] X (GivesText X L2)) := Lib.hid fun X h => by rw [← hL2]; exact HJ 120 32 X h
  clear hL2
  obtain ⟨L3, hL3⟩ : ∃ L, a ++ [(32 : UInt8)] ++ b ++ [(95 : UInt8)] ++ c = L := ⟨_, rfl⟩
  have HLl3 : Hid (L3.length ≤ 1000000000) := Lib.hid (by rw [← hL3]; simp; omega)
  have HF3 : Hid (free isWd L3 ⟨(a.length : Int) + 1, (a.length : Int) + 1 + (b.length : Int)⟩ = false) := Lib.hid (by rw [← hL3, hp, free_sides isWd a b c 32 95 hbne]; decide +kernel)
  have J3 : Hid (∀ X, Below w2.heap.size w2 X → Calls Try.prog 19 #[.int .u8 32, .int .u8 95, .pointer (some ⟨W.heap.size, 0, none⟩), .pointer (some ⟨W.heap.size + 1, 0, none⟩), .pointer (some ⟨W.heap.size + 1 + 1, 0, none⟩)] X (GivesText X L3)) := Lib.hid fun X h => by rw [← hL3]; exact HJ 32 95 X h
  clear hL3
  obtain ⟨L4, hL4⟩ : ∃ L, a ++ [(48 : UInt8)] ++ b ++ [(90 : UInt8)] ++ c = L := ⟨_, rfl⟩
  have HLl4 : Hid (L4.length ≤ 1000000000) := Lib.hid (by rw [← hL4]; simp; omega)
  have HF4 : Hid (free isWd L4 ⟨(a.length : Int) + 1, (a.length : Int) + 1 + (b.length : Int)⟩ = false) := Lib.hid (by rw [← hL4, hp, free_sides isWd a b c 48 90 hbne]; decide +kernel)
  have J4 : Hid (∀ X, Below w2.heap.size w2 X → Calls Try.prog 19 #[.int .u8 48, .int .u8 90, .pointer (some ⟨W.heap.size, 0, none⟩), .pointer (some ⟨W.heap.size + 1, 0, none⟩), .pointer (some ⟨W.heap.size + 1 + 1, 0, none⟩)] X (GivesText X L4)) := Lib.hid fun X h => by rw [← hL4]; exact HJ 48 90 X h
  clear hL4
  have CB : Hid (∀ X, Below w2.heap.size w2 X → Calls Try.prog 13 #[.slice ab b.length cb, .agg #[.int .i64 0, .int .i64 (b.length : Int)]] X fun e w' => e = .returned (.bool true) ∧ Below X.heap.size X w') := Lib.hid fun X h => eqv (free_whole isWd b hbne) (free_any b ab cb ⟨0, (b.length : Int)⟩ X (by omega) ((HB.out.keep (HWX.out X h)).more (HWX.out X h).size))
  have HB2 : Hid (Below w2.heap.size w2 w2) := Lib.hid (Below.refl _ _)
  clear HJ hp hbne bW hP hb1 hb2 hbW k1 k2 k3 hs2 hlt hsz
  refine wp_region_held_drew (S := fun w' => Below w2.drew.heap.size w2.drew w') (by kernel_rfl) (Below.refl _ _) (fun hH0 => ?_)
  have B0 := Lib.hid (below_drews HB2.out 1)
  change Hid (Below _ _ w2.drew) at B0
  generalize w2.drew = x0 at *
  refine held_take (i := 0) (d := 42) (oi := _) (v := ?_) rfl rfl (by kernel_rfl) (by kernel_rfl) (by kernel_rfl) (fun _ _ _ h => h) (Or.inl ⟨by rfl, ?_⟩) (by assumption) ?_
  rotate_left
  · (intro w hSw; clear hSw; go_simp; (try with_reducible rfl))
  simp only [Act.put, List.setIfInBounds_toArray, List.set_cons_zero, List.set_cons_succ]
  refine held_take (i := 2) (d := 44) (oi := _) (v := ?_) rfl rfl (by kernel_rfl) (by kernel_rfl) (by kernel_rfl) (fun _ _ _ h => h) (Or.inl ⟨by rfl, ?_⟩) (by assumption) ?_
  rotate_left
  · (intro w hSw; obtain ⟨hl0, hl1⟩ := HPc.out w (B0.out.trans (hSw.mono B0.out.size)); clear hSw; go_simp; (try with_reducible rfl))
  simp only [Act.put, List.setIfInBounds_toArray, List.set_cons_zero, List.set_cons_succ]
  refine wpAnyH_ready (rs := [1]) (by kernel_rfl) (by simp) ?_
  refine AllReadyH.cons rfl (fun K hK => ?_) AllReadyH.nil
  go_simp
  go_wp2_with (go_at_call 19; (with_reducible refine (J1.out _ B0.out).mono ?_); rintro e x1 ⟨b1, c1, rfl, htx, _, _, hb⟩)
  have T1 := Lib.hid (fun (X : World) (h : Below x1.heap.size x1 X) => (htx.bs.keep h).more h.size)
  clear htx
  refine hK.out _ _ hb (fun _ => ?_)
  have B1 := Lib.hid (B0.out.trans (hb.mono B0.out.size))
  refine wpAnyH_more (S' := fun w' => Below x1.heap.size x1 w') (fun w' h => hb.trans (h.mono hb.size)) _ _ _ _ ?_
  have hH1 : Below x1.heap.size x1 x1 := Below.refl _ _
  clear hK K hH0 hb B0
  refine wpAnyH_ready (rs := [3]) (by kernel_rfl) (by simp) ?_
  refine AllReadyH.cons rfl (fun K hK => ?_) AllReadyH.nil
  go_simp
  go_wp2_with (go_at_call 13; (with_reducible refine (eqv HF1.out (free_any L1 b1 c1 ⟨(a.length : Int) + 1, (a.length : Int) + 1 + (b.length : Int)⟩ x1 HLl1.out (T1.out x1 (Below.refl _ _)))).mono ?_); rintro e x2 ⟨rfl, hb⟩)
  refine hK.out _ _ hb (fun _ => ?_)
  have B2 := Lib.hid (B1.out.trans (hb.mono B1.out.size))
  refine wpAnyH_more (S' := fun w' => Below x2.heap.size x2 w') (fun w' h => hb.trans (h.mono hb.size)) _ _ _ _ ?_
  have hH2 : Below x2.heap.size x2 x2 := Below.refl _ _
  clear hK K hH1 hb B1
  refine held_take (i := 4) (d := 46) (oi := _) (v := ?_) rfl rfl (by kernel_rfl) (by kernel_rfl) (by kernel_rfl) (fun _ _ _ h => h) (Or.inl ⟨by rfl, ?_⟩) (by assumption) ?_
  rotate_left
  · (intro w hSw; clear hSw; go_simp; (try with_reducible rfl))
  simp only [Act.put, List.setIfInBounds_toArray, List.set_cons_zero, List.set_cons_succ]
  refine held_take (i := 5) (d := 47) (oi := _) (v := ?_) rfl rfl (by kernel_rfl) (by kernel_rfl) (by kernel_rfl) (fun _ _ _ h => h) (Or.inl ⟨by rfl, ?_⟩) (by assumption) ?_
  rotate_left
  · (intro w hSw; clear hSw; go_simp; (try with_reducible rfl))
  simp only [Act.put, List.setIfInBounds_toArray, List.set_cons_zero, List.set_cons_succ]
  refine held_take (i := 7) (d := 49) (oi := _) (v := ?_) rfl rfl (by kernel_rfl) (by kernel_rfl) (by kernel_rfl) (fun _ _ _ h => h) (Or.inl ⟨by rfl, ?_⟩) (by assumption) ?_
  rotate_left
  · (intro w hSw; obtain ⟨hl0, hl1⟩ := HPc.out w (B2.out.trans (hSw.mono B2.out.size)); clear hSw; go_simp; (try with_reducible rfl))
  simp only [Act.put, List.setIfInBounds_toArray, List.set_cons_zero, List.set_cons_succ]
  refine wpAnyH_ready (rs := [6]) (by kernel_rfl) (by simp) ?_
  refine AllReadyH.cons rfl (fun K hK => ?_) AllReadyH.nil
  go_simp
  go_wp2_with (go_at_call 19; (with_reducible refine (J2.out _ B2.out).mono ?_); rintro e x3 ⟨b2, c2, rfl, htx, _, _, hb⟩)
  have T2 := Lib.hid (fun (X : World) (h : Below x3.heap.size x3 X) => (htx.bs.keep h).more h.size)
  clear htx
  refine hK.out _ _ hb (fun _ => ?_)
  have B3 := Lib.hid (B2.out.trans (hb.mono B2.out.size))
  refine wpAnyH_more (S' := fun w' => Below x3.heap.size x3 w') (fun w' h => hb.trans (h.mono hb.size)) _ _ _ _ ?_
  have hH3 : Below x3.heap.size x3 x3 := Below.refl _ _
  clear hK K hH2 hb B2
  refine wpAnyH_ready (rs := [8]) (by kernel_rfl) (by simp) ?_
  refine AllReadyH.cons rfl (fun K hK => ?_) AllReadyH.nil
  go_simp
  go_wp2_with (go_at_call 13; (with_reducible refine (eqv HF2.out (free_any L2 b2 c2 ⟨(a.length : Int) + 1, (a.length : Int) + 1 + (b.length : Int)⟩ x3 HLl2.out (T2.out x3 (Below.refl _ _)))).mono ?_); rintro e x4 ⟨rfl, hb⟩)
  refine hK.out _ _ hb (fun _ => ?_)
  have B4 := Lib.hid (B3.out.trans (hb.mono B3.out.size))
  refine wpAnyH_more (S' := fun w' => Below x4.heap.size x4 w') (fun w' h => hb.trans (h.mono hb.size)) _ _ _ _ ?_
  have hH4 : Below x4.heap.size x4 x4 := Below.refl _ _
  clear hK K hH3 hb B3
  refine held_take (i := 9) (d := 51) (oi := _) (v := ?_) rfl rfl (by kernel_rfl) (by kernel_rfl) (by kernel_rfl) (fun _ _ _ h => h) (Or.inl ⟨by rfl, ?_⟩) (by assumption) ?_
  rotate_left
  · (intro w hSw; clear hSw; go_simp; (try with_reducible rfl))
  simp only [Act.put, List.setIfInBounds_toArray, List.set_cons_zero, List.set_cons_succ]
  refine held_take (i := 10) (d := 52) (oi := _) (v := ?_) rfl rfl (by kernel_rfl) (by kernel_rfl) (by kernel_rfl) (fun _ _ _ h => h) (Or.inl ⟨by rfl, ?_⟩) (by assumption) ?_
  rotate_left
  · (intro w hSw; clear hSw; go_simp; (try with_reducible rfl))
  simp only [Act.put, List.setIfInBounds_toArray, List.set_cons_zero, List.set_cons_succ]
  refine held_take (i := 11) (d := 53) (oi := _) (v := ?_) rfl rfl (by kernel_rfl) (by kernel_rfl) (by kernel_rfl) (fun _ _ _ h => h) (Or.inl ⟨by rfl, ?_⟩) (by assumption) ?_
  rotate_left
  · (intro w hSw; clear hSw; go_simp; (try with_reducible rfl))
  simp only [Act.put, List.setIfInBounds_toArray, List.set_cons_zero, List.set_cons_succ]
  refine held_take (i := 12) (d := 54) (oi := _) (v := ?_) rfl rfl (by kernel_rfl) (by kernel_rfl) (by kernel_rfl) (fun _ _ _ h => h) (Or.inl ⟨by rfl, ?_⟩) (by assumption) ?_
  rotate_left
  · (intro w hSw; clear hSw; go_simp; (try with_reducible rfl))
  simp only [Act.put, List.setIfInBounds_toArray, List.set_cons_zero, List.set_cons_succ]
  refine held_take (i := 14) (d := 56) (oi := _) (v := ?_) rfl rfl (by kernel_rfl) (by kernel_rfl) (by kernel_rfl) (fun _ _ _ h => h) (Or.inl ⟨by rfl, ?_⟩) (by assumption) ?_
  rotate_left
  · (intro w hSw; obtain ⟨hl0, hl1⟩ := HPc.out w (B4.out.trans (hSw.mono B4.out.size)); clear hSw; go_simp; (try with_reducible rfl))
  simp only [Act.put, List.setIfInBounds_toArray, List.set_cons_zero, List.set_cons_succ]
  refine wpAnyH_ready (rs := [13]) (by kernel_rfl) (by simp) ?_
  refine AllReadyH.cons rfl (fun K hK => ?_) AllReadyH.nil
  go_simp
  go_wp2_with (go_at_call 19; (with_reducible refine (J3.out _ B4.out).mono ?_); rintro e x5 ⟨b3, c3, rfl, htx, _, _, hb⟩)
  have T3 := Lib.hid (fun (X : World) (h : Below x5.heap.size x5 X) => (htx.bs.keep h).more h.size)
  clear htx
  refine hK.out _ _ hb (fun _ => ?_)
  have B5 := Lib.hid (B4.out.trans (hb.mono B4.out.size))
  refine wpAnyH_more (S' := fun w' => Below x5.heap.size x5 w') (fun w' h => hb.trans (h.mono hb.size)) _ _ _ _ ?_
  have hH5 : Below x5.heap.size x5 x5 := Below.refl _ _
  clear hK K hH4 hb B4
  refine wpAnyH_ready (rs := [15]) (by kernel_rfl) (by simp) ?_
  refine AllReadyH.cons rfl (fun K hK => ?_) AllReadyH.nil
  go_simp
  go_wp2_with (go_at_call 13; (with_reducible refine (eqv HF3.out (free_any L3 b3 c3 ⟨(a.length : Int) + 1, (a.length : Int) + 1 + (b.length : Int)⟩ x5 HLl3.out (T3.out x5 (Below.refl _ _)))).mono ?_); rintro e x6 ⟨rfl, hb⟩)
  refine hK.out _ _ hb (fun _ => ?_)
  have B6 := Lib.hid (B5.out.trans (hb.mono B5.out.size))
  refine wpAnyH_more (S' := fun w' => Below x6.heap.size x6 w') (fun w' h => hb.trans (h.mono hb.size)) _ _ _ _ ?_
  have hH6 : Below x6.heap.size x6 x6 := Below.refl _ _
  clear hK K hH5 hb B5
  refine held_take (i := 16) (d := 58) (oi := _) (v := ?_) rfl rfl (by kernel_rfl) (by kernel_rfl) (by kernel_rfl) (fun _ _ _ h => h) (Or.inl ⟨by rfl, ?_⟩) (by assumption) ?_
  rotate_left
  · (intro w hSw; clear hSw; go_simp; (try with_reducible rfl))
  simp only [Act.put, List.setIfInBounds_toArray, List.set_cons_zero, List.set_cons_succ]
  refine held_take (i := 17) (d := 59) (oi := _) (v := ?_) rfl rfl (by kernel_rfl) (by kernel_rfl) (by kernel_rfl) (fun _ _ _ h => h) (Or.inl ⟨by rfl, ?_⟩) (by assumption) ?_
  rotate_left
  · (intro w hSw; clear hSw; go_simp; (try with_reducible rfl))
  simp only [Act.put, List.setIfInBounds_toArray, List.set_cons_zero, List.set_cons_succ]
  refine held_take (i := 18) (d := 60) (oi := _) (v := ?_) rfl rfl (by kernel_rfl) (by kernel_rfl) (by kernel_rfl) (fun _ _ _ h => h) (Or.inl ⟨by rfl, ?_⟩) (by assumption) ?_
  rotate_left
  · (intro w hSw; clear hSw; go_simp; (try with_reducible rfl))
  simp only [Act.put, List.setIfInBounds_toArray, List.set_cons_zero, List.set_cons_succ]
  refine held_take (i := 19) (d := 61) (oi := _) (v := ?_) rfl rfl (by kernel_rfl) (by kernel_rfl) (by kernel_rfl) (fun _ _ _ h => h) (Or.inl ⟨by rfl, ?_⟩) (by assumption) ?_
  rotate_left
  · (intro w hSw; clear hSw; go_simp; (try with_reducible rfl))
  simp only [Act.put, List.setIfInBounds_toArray, List.set_cons_zero, List.set_cons_succ]
  refine held_take (i := 21) (d := 63) (oi := _) (v := ?_) rfl rfl (by kernel_rfl) (by kernel_rfl) (by kernel_rfl) (fun _ _ _ h => h) (Or.inl ⟨by rfl, ?_⟩) (by assumption) ?_
  rotate_left
  · (intro w hSw; obtain ⟨hl0, hl1⟩ := HPc.out w (B6.out.trans (hSw.mono B6.out.size)); clear hSw; go_simp; (try with_reducible rfl))
  simp only [Act.put, List.setIfInBounds_toArray, List.set_cons_zero, List.set_cons_succ]
  refine wpAnyH_ready (rs := [20]) (by kernel_rfl) (by simp) ?_
  refine AllReadyH.cons rfl (fun K hK => ?_) AllReadyH.nil
  go_simp
  go_wp2_with (go_at_call 19; (with_reducible refine (J4.out _ B6.out).mono ?_); rintro e x7 ⟨b4, c4, rfl, htx, _, _, hb⟩)
  have T4 := Lib.hid (fun (X : World) (h : Below x7.heap.size x7 X) => (htx.bs.keep h).more h.size)
  clear htx
  refine hK.out _ _ hb (fun _ => ?_)
  have B7 := Lib.hid (B6.out.trans (hb.mono B6.out.size))
  refine wpAnyH_more (S' := fun w' => Below x7.heap.size x7 w') (fun w' h => hb.trans (h.mono hb.size)) _ _ _ _ ?_
  have hH7 : Below x7.heap.size x7 x7 := Below.refl _ _
  clear hK K hH6 hb B6
  refine wpAnyH_ready (rs := [22]) (by kernel_rfl) (by simp) ?_
  refine AllReadyH.cons rfl (fun K hK => ?_) AllReadyH.nil
  go_simp
  go_wp2_with (go_at_call 13; (with_reducible refine (eqv HF4.out (free_any L4 b4 c4 ⟨(a.length : Int) + 1, (a.length : Int) + 1 + (b.length : Int)⟩ x7 HLl4.out (T4.out x7 (Below.refl _ _)))).mono ?_); rintro e x8 ⟨rfl, hb⟩)
  refine hK.out _ _ hb (fun _ => ?_)
  have B8 := Lib.hid (B7.out.trans (hb.mono B7.out.size))
  refine wpAnyH_more (S' := fun w' => Below x8.heap.size x8 w') (fun w' h => hb.trans (h.mono hb.size)) _ _ _ _ ?_
  have hH8 : Below x8.heap.size x8 x8 := Below.refl _ _
  clear hK K hH7 hb B7
  refine held_take (i := 23) (d := 65) (oi := _) (v := ?_) rfl rfl (by kernel_rfl) (by kernel_rfl) (by kernel_rfl) (fun _ _ _ h => h) (Or.inl ⟨by rfl, ?_⟩) (by assumption) ?_
  rotate_left
  · (intro w hSw; clear hSw; go_simp; (try with_reducible rfl))
  simp only [Act.put, List.setIfInBounds_toArray, List.set_cons_zero, List.set_cons_succ]
  refine held_take (i := 24) (d := 66) (oi := _) (v := ?_) rfl rfl (by kernel_rfl) (by kernel_rfl) (by kernel_rfl) (fun _ _ _ h => h) (Or.inl ⟨by rfl, ?_⟩) (by assumption) ?_
  rotate_left
  · (intro w hSw; clear hSw; go_simp; (try with_reducible rfl))
  simp only [Act.put, List.setIfInBounds_toArray, List.set_cons_zero, List.set_cons_succ]
  refine held_take (i := 25) (d := 67) (oi := _) (v := ?_) rfl rfl (by kernel_rfl) (by kernel_rfl) (by kernel_rfl) (fun _ _ _ h => h) (Or.inl ⟨by rfl, ?_⟩) (by assumption) ?_
  rotate_left
  · (intro w hSw; clear hSw; go_simp; (try with_reducible rfl))
  simp only [Act.put, List.setIfInBounds_toArray, List.set_cons_zero, List.set_cons_succ]
  refine held_take (i := 26) (d := 68) (oi := _) (v := ?_) rfl rfl (by kernel_rfl) (by kernel_rfl) (by kernel_rfl) (fun _ _ _ h => h) (Or.inl ⟨by rfl, ?_⟩) (by assumption) ?_
  rotate_left
  · (intro w hSw; have hld := HK.out w (B8.out.trans (hSw.mono B8.out.size)); clear hSw; go_simp; (try with_reducible rfl))
  simp only [Act.put, List.setIfInBounds_toArray, List.set_cons_zero, List.set_cons_succ]
  refine held_take (i := 27) (d := 69) (oi := _) (v := ?_) rfl rfl (by kernel_rfl) (by kernel_rfl) (by kernel_rfl) (fun _ _ _ h => h) (Or.inl ⟨by rfl, ?_⟩) (by assumption) ?_
  rotate_left
  · (intro w hSw; have hld := HK.out w (B8.out.trans (hSw.mono B8.out.size)); clear hSw; go_simp; (try with_reducible rfl))
  simp only [Act.put, List.setIfInBounds_toArray, List.set_cons_zero, List.set_cons_succ]
  refine held_take (i := 28) (d := 70) (oi := _) (v := ?_) rfl rfl (by kernel_rfl) (by kernel_rfl) (by kernel_rfl) (fun _ _ _ h => h) (Or.inl ⟨by rfl, ?_⟩) (by assumption) ?_
  rotate_left
  · (intro w hSw; clear hSw; go_simp; (try with_reducible rfl))
  simp only [Act.put, List.setIfInBounds_toArray, List.set_cons_zero, List.set_cons_succ]
  refine held_take (i := 29) (d := 71) (oi := _) (v := ?_) rfl rfl (by kernel_rfl) (by kernel_rfl) (by kernel_rfl) (fun _ _ _ h => h) (Or.inl ⟨by rfl, ?_⟩) (by assumption) ?_
  rotate_left
  · (intro w hSw; clear hSw; go_simp; (try with_reducible rfl))
  simp only [Act.put, List.setIfInBounds_toArray, List.set_cons_zero, List.set_cons_succ]
  refine wpAnyH_ready (rs := [30]) (by kernel_rfl) (by simp) ?_
  refine AllReadyH.cons rfl (fun K hK => ?_) AllReadyH.nil
  go_simp
  go_wp2_with (go_at_call 13; (with_reducible refine (CB.out _ B8.out).mono ?_); rintro e x9 ⟨rfl, hb⟩)
  refine hK.out _ _ hb (fun _ => ?_)
  have B9 := Lib.hid (B8.out.trans (hb.mono B8.out.size))
  refine wpAnyH_more (S' := fun w' => Below x9.heap.size x9 w') (fun w' h => hb.trans (h.mono hb.size)) _ _ _ _ ?_
  have hH9 : Below x9.heap.size x9 x9 := Below.refl _ _
  clear hK K hH8 hb B8
  refine held_take (i := 31) (d := 73) (oi := _) (v := ?_) rfl rfl (by kernel_rfl) (by kernel_rfl) (by kernel_rfl) (fun _ _ _ h => h) (Or.inl ⟨by rfl, ?_⟩) (by assumption) ?_
  rotate_left
  · (intro w hSw; clear hSw; go_simp; (try with_reducible rfl))
  simp only [Act.put, List.setIfInBounds_toArray, List.set_cons_zero, List.set_cons_succ]
  refine held_take (i := 32) (d := 6) (oi := _) (v := ?_) rfl rfl (by kernel_rfl) (by kernel_rfl) (by kernel_rfl) (fun _ _ _ h => h) (Or.inl ⟨by rfl, ?_⟩) (by assumption) ?_
  rotate_left
  · (intro w hSw; clear hSw; go_simp; (try with_reducible rfl))
  simp only [Act.put, List.setIfInBounds_toArray, List.set_cons_zero, List.set_cons_succ]
  refine wpAnyH_done (by kernel_rfl) ?_ _
  go_wp2_with fail
  go_ret
  exact ⟨rfl, HWX.out _ B9.out⟩

end Go.Proofs.Yticoahmiejgccaa.admitSides
