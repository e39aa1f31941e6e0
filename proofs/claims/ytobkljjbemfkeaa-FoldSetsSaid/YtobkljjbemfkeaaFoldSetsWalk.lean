/- The walk of the law FoldSets. -/
import Derived.Test.YtobkljjbemfkeaaLists
import Derived.Deep.DeepCutAuto
import Derived.Deep.RegionHeld3
import Derived.IntWalk
namespace Go.Proofs.Ytobkljjbemfkeaa.foldSets
open Go.RowKit

theorem setOf_append (a b : List UInt8) : setOf (a ++ b) = setOf a ||| setOf b := by
  apply Nat.eq_of_testBit_eq
  intro k
  rw [Nat.testBit_or, setOf_bit, setOf_bit, setOf_bit, List.any_append]
theorem blk_alloc {w : World} {g N : Nat} (h : Blk4 w g N) (o : Obj) : Blk4 (w.alloc o) g N := h.keep (B := w.heap.size) ((Below.refl _ _).alloc (Nat.le_refl _) _) h.lt

set_option maxRecDepth 100000 in
set_option maxHeartbeats 16000000 in
theorem mainT (w : World) (a : List UInt8) (a0 : Option Addr) (cap0 : Nat) (hm0 : a.length ≤ 300) (hb0 : Bs w w.heap.size a0 a) (b : List UInt8) (a1 : Option Addr) (cap1 : Nat) (hm1 : b.length ≤ 300) (hb1 : Bs w w.heap.size a1 b) (c : UInt8) :
    Calls Try.prog 5 #[.slice a0 a.length cap0, .slice a1 b.length cap1, .int .u8 c.toNat, .int .u8 c.toNat] w fun e w' => e = .returned (.bool true) ∧ Below w.heap.size w w' := by
  obtain ⟨A, hA⟩ : ∃ A, A = setOf a := ⟨_, rfl⟩
  obtain ⟨B, hB⟩ : ∃ B, B = setOf b := ⟨_, rfl⟩
  obtain ⟨U, hU⟩ : ∃ U, U = A ||| B := ⟨_, rfl⟩
  obtain ⟨V, hV⟩ : ∃ V, V = A ||| 2 ^ c.toNat := ⟨_, rfl⟩
  obtain ⟨L, hL⟩ : ∃ L, L = listTo U 256 := ⟨_, rfl⟩
  have hab : setOf (a ++ b) = U := by rw [setOf_append, ← hA, ← hB, hU]
  have hll : L.length ≤ 256 := by rw [hL]; exact listTo_le U 256
  have hal : (a ++ b).length ≤ 1000000000000 := by rw [List.length_append]; omega
  obtain ⟨hc, hhc⟩ : ∃ r, r = A.testBit c.toNat := ⟨_, rfl⟩
  obtain ⟨uc, huc⟩ : ∃ r, r = U.testBit c.toNat := ⟨_, rfl⟩
  have hvd : V.testBit c.toNat = true := by rw [hV]; exact with_has A _
  have OFA : Hid (∀ w : World, Bs w w.heap.size a0 a → Calls Try.prog 17 #[.slice a0 a.length cap0] w fun e w' => e = .returned (setV A) ∧ Below w.heap.size w w') := fun w h => by rw [hA]; exact of_any a a0 cap0 w (by omega) h
  have OFB : Hid (∀ w : World, Bs w w.heap.size a1 b → Calls Try.prog 17 #[.slice a1 b.length cap1] w fun e w' => e = .returned (setV B) ∧ Below w.heap.size w w') := fun w h => by rw [hB]; exact of_any b a1 cap1 w (by omega) h
  have UNI : Hid (∀ w : World, Calls Try.prog 18 #[setV A, setV B] w fun e w' => e = .returned (setV U) ∧ Below w.heap.size w w') := fun w => by rw [hU]; exact union_any A B w
  have WIT : Hid (∀ w : World, Calls Try.prog 19 #[setV A, .int .u8 c.toNat] w fun e w' => e = .returned (setV V) ∧ Below w.heap.size w w') := fun w => by rw [hV]; exact with_any A c.toNat w c.toNat_lt
  have RLI : Hid (∀ w : World, Calls Try.prog 20 #[.string (str (a ++ b))] w fun e w' => e = .returned (.string (str L)) ∧ Below w.heap.size w w') := fun w => by rw [hL, ← hab]; exact rlist_any (a ++ b) w hal
  have HAC : Hid (∀ w : World, Calls Try.prog 21 #[.agg #[.int .u64 (wd A 0), .int .u64 (wd A 1), .int .u64 (wd A 2), .int .u64 (wd A 3)], .int .u8 c.toNat] w fun e w' => e = .returned (.bool hc) ∧ Below w.heap.size w w') := fun w => by rw [hhc]; exact has_any A c.toNat w c.toNat_lt
  have HVD : Hid (∀ w : World, Calls Try.prog 21 #[.agg #[.int .u64 (wd V 0), .int .u64 (wd V 1), .int .u64 (wd V 2), .int .u64 (wd V 3)], .int .u8 c.toNat] w fun e w' => e = .returned (.bool true) ∧ Below w.heap.size w w') := fun w => by rw [← hvd]; exact has_any V c.toNat w c.toNat_lt
  have HUC : Hid (∀ w : World, Calls Try.prog 21 #[.agg #[.int .u64 (wd U 0), .int .u64 (wd U 1), .int .u64 (wd U 2), .int .u64 (wd U 3)], .int .u8 c.toNat] w fun e w' => e = .returned (.bool uc) ∧ Below w.heap.size w w') := fun w => by rw [huc]; exact has_any U c.toNat w c.toNat_lt
  have INC : Hid (∀ w : World, Calls Try.prog 22 #[.string (str a), .int .u8 c.toNat] w fun e w' => e = .returned (.bool hc) ∧ w = w') := fun w => by rw [hhc, hA]; exact in_any a c.toNat w (by omega)
  have INU : Hid (∀ w : World, Calls Try.prog 22 #[.string (str (a ++ b)), .int .u8 c.toNat] w fun e w' => e = .returned (.bool uc) ∧ w = w') := fun w => by rw [huc, ← hab]; exact in_any (a ++ b) c.toNat w hal
  have LEN : Hid (∀ w : World, Calls Try.prog 23 #[.agg #[.int .u64 (wd U 0), .int .u64 (wd U 1), .int .u64 (wd U 2), .int .u64 (wd U 3)]] w fun e w' => e = .returned (.int .i64 (L.length : Int)) ∧ Below w.heap.size w w') := fun w => by
    have h := len_any U w
    have e : pc 64 (wd U 0) + pc 64 (wd U 1) + pc 64 (wd U 2) + pc 64 (wd U 3) = L.length := by rw [hL]; exact len_list U
    rw [e] at h; exact h
  have LIS : Hid (∀ w : World, Calls Try.prog 24 #[.agg #[.int .u64 (wd U 0), .int .u64 (wd U 1), .int .u64 (wd U 2), .int .u64 (wd U 3)]] w (GivesBytes w L)) := fun w => by rw [hL]; exact list_any U w
  clear hA hB hU hV hL hab hhc huc hvd
  have hsz1 : (str a).size = a.length := str_size a
  have hsz2 : (str b).size = b.length := str_size b
  have hszL : (str L).size = L.length := str_size L
  have hadd : str a ++ str b = str (a ++ b) := str_add a b
  have hsl := str_list L
  go_enter Try.func5, Try.ntmps5
  go_wp2_with fail
  go_at_call 9
  refine (awake_any w).mono ?_
  rintro e w1 ⟨rfl, B1⟩
  go_wp2_with fail
  go_at_call 17
  refine (OFA.out w1 ((hb0.keep B1).more B1.size)).mono ?_
  rintro e w2 ⟨rfl, hw2⟩
  rw [setV_eq A]
  have B2 : Below w.heap.size w w2 := B1.trans (hw2.mono B1.size)
  have A3 := Blk4.made w2 A
  have B3 : Below w.heap.size w (w2.alloc (Obj.cells #[.int .u64 (wd A 0), .int .u64 (wd A 1), .int .u64 (wd A 2), .int .u64 (wd A 3)] 31)) := B2.alloc B2.size _
  go_wp2_with fail
  go_at_call 17
  refine (OFB.out _ ((hb1.keep B3).more B3.size)).mono ?_
  rintro e w4 ⟨rfl, hw4⟩
  rw [setV_eq B]
  have B4 : Below w.heap.size w w4 := B3.trans (hw4.mono B3.size)
  have A4 := A3.keep hw4 A3.lt
  have A5 := blk_alloc A4 (Obj.cells #[.int .u64 (wd B 0), .int .u64 (wd B 1), .int .u64 (wd B 2), .int .u64 (wd B 3)] 31)
  have Y5 := Blk4.made w4 B
  have B5 : Below w.heap.size w (w4.alloc (Obj.cells #[.int .u64 (wd B 0), .int .u64 (wd B 1), .int .u64 (wd B 2), .int .u64 (wd B 3)] 31)) := B4.alloc B4.size _
  clear A3 B3 hw4 hw2 B1 B2
  obtain ⟨c0, c1, c2, c3⟩ := A5.cells
  go_wp2_with fail
  clear c0 c1 c2 c3
  go_at_call 18
  refine (UNI.out _).mono ?_
  rintro e w6 ⟨rfl, hw6⟩
  rw [setV_eq U]
  have B6 : Below w.heap.size w w6 := B5.trans (hw6.mono B5.size)
  have A6 := A5.keep hw6 A5.lt
  have A7 := blk_alloc A6 (Obj.cells #[.int .u64 (wd U 0), .int .u64 (wd U 1), .int .u64 (wd U 2), .int .u64 (wd U 3)] 31)
  have U7 := Blk4.made w6 U
  have B7 : Below w.heap.size w (w6.alloc (Obj.cells #[.int .u64 (wd U 0), .int .u64 (wd U 1), .int .u64 (wd U 2), .int .u64 (wd U 3)] 31)) := B6.alloc B6.size _
  clear A4 A5 Y5 B5 hw6 B4 A6
  obtain ⟨c0, c1, c2, c3⟩ := A7.cells
  have k0 := str_of_bs cap0 (hb0.keep B7)
  have k1 := str_of_bs cap1 (hb1.keep B7)
  go_wp2_with fail
  clear c0 c1 c2 c3 k0 k1
  go_at_call 19
  refine (WIT.out _).mono ?_
  rintro e w8 ⟨rfl, hw8⟩
  rw [setV_eq V]
  have B8 : Below w.heap.size w w8 := B7.trans (hw8.mono B7.size)
  have A8 := A7.keep hw8 A7.lt
  have U8 := U7.keep hw8 U7.lt
  have A9 := blk_alloc A8 (Obj.cells #[.int .u64 (wd V 0), .int .u64 (wd V 1), .int .u64 (wd V 2), .int .u64 (wd V 3)] 31)
  have U9 := blk_alloc U8 (Obj.cells #[.int .u64 (wd V 0), .int .u64 (wd V 1), .int .u64 (wd V 2), .int .u64 (wd V 3)] 31)
  have V9 := Blk4.made w8 V
  have B9 : Below w.heap.size w (w8.alloc (Obj.cells #[.int .u64 (wd V 0), .int .u64 (wd V 1), .int .u64 (wd V 2), .int .u64 (wd V 3)] 31)) := B8.alloc B8.size _
  clear A7 U7 B7 hw8 A8 U8 B8 B6
  go_wp2_with fail
  go_at_call 20
  refine (RLI.out _).mono ?_
  rintro e wa ⟨rfl, hwa⟩
  have Ba : Below w.heap.size w wa := B9.trans (hwa.mono B9.size)
  have Aa := A9.keep hwa A9.lt
  have Ua := U9.keep hwa U9.lt
  have Va := V9.keep hwa V9.lt
  clear A9 U9 V9 B9 hwa
  go_upto_region 12 with fail
  have Ad : Blk4 wa.drew w2.heap.size A := Aa
  have Ud : Blk4 wa.drew w6.heap.size U := Ua
  have Vd : Blk4 wa.drew w8.heap.size V := Va
  have Bd : Below w.heap.size w wa.drew := Ba.drew
  obtain ⟨p0, p1, p2, p3⟩ := Ad.cells
  obtain ⟨q0, q1, q2, q3⟩ := Ud.cells
  obtain ⟨r0, r1, r2, r3⟩ := Vd.cells
  have kd := str_of_bs cap0 (hb0.keep Bd)
  first
  | (go_region_held (fun w' => w'.cell? ⟨w2.heap.size, 0, none⟩ = some (.int .u64 (wd A 0)) ∧ w'.cell? ⟨w2.heap.size, 1, none⟩ = some (.int .u64 (wd A 1)) ∧ w'.cell? ⟨w2.heap.size, 2, none⟩ = some (.int .u64 (wd A 2)) ∧ w'.cell? ⟨w2.heap.size, 3, none⟩ = some (.int .u64 (wd A 3)) ∧ w'.cell? ⟨w6.heap.size, 0, none⟩ = some (.int .u64 (wd U 0)) ∧ w'.cell? ⟨w6.heap.size, 1, none⟩ = some (.int .u64 (wd U 1)) ∧ w'.cell? ⟨w6.heap.size, 2, none⟩ = some (.int .u64 (wd U 2)) ∧ w'.cell? ⟨w6.heap.size, 3, none⟩ = some (.int .u64 (wd U 3)) ∧ w'.cell? ⟨w8.heap.size, 0, none⟩ = some (.int .u64 (wd V 0)) ∧ w'.cell? ⟨w8.heap.size, 1, none⟩ = some (.int .u64 (wd V 1)) ∧ w'.cell? ⟨w8.heap.size, 2, none⟩ = some (.int .u64 (wd V 2)) ∧ w'.cell? ⟨w8.heap.size, 3, none⟩ = some (.int .u64 (wd V 3)) ∧ (convert 22 9 (.slice a0 a.length cap0)).run Try.prog w' = .ok (.string (str a)) w')
    (((repeat' apply And.intro) <;> assumption))
    (first
      | (go_at_call 22; ((with_reducible refine (INC.out _).mono ?_)); rintro e wx ⟨rfl, rfl⟩)
      | (go_at_call 22; ((with_reducible refine (INU.out _).mono ?_)); rintro e wx ⟨rfl, rfl⟩)
      | (go_at_call 21; ((with_reducible refine (HAC.out _).mono ?_)); rintro e wb ⟨rfl, hwb⟩; have Ab := Ad.keep hwb Ad.lt; have Ub := Ud.keep hwb Ud.lt; have Vb := Vd.keep hwb Vd.lt; have Bb := Bd.trans (hwb.mono Bd.size); have kb := str_of_bs cap0 (hb0.keep Bb); obtain ⟨pb0, pb1, pb2, pb3⟩ := Ab.cells; obtain ⟨qb0, qb1, qb2, qb3⟩ := Ub.cells; obtain ⟨rb0, rb1, rb2, rb3⟩ := Vb.cells)
      | (go_at_call 21; ((with_reducible refine (HVD.out _).mono ?_)); rintro e wc ⟨rfl, hwc⟩; have Ac := Ab.keep hwc Ab.lt; have Uc := Ub.keep hwc Ub.lt; have Vc := Vb.keep hwc Vb.lt; have Bc := Bb.trans (hwc.mono Bb.size); have kc := str_of_bs cap0 (hb0.keep Bc); obtain ⟨pc0, pc1, pc2, pc3⟩ := Ac.cells; obtain ⟨qc0, qc1, qc2, qc3⟩ := Uc.cells; obtain ⟨rc0, rc1, rc2, rc3⟩ := Vc.cells)
      | (go_at_call 21; ((with_reducible refine (HUC.out _).mono ?_)); rintro e we ⟨rfl, hwe⟩; have Ae := Ac.keep hwe Ac.lt; have Ue := Uc.keep hwe Uc.lt; have Ve := Vc.keep hwe Vc.lt; have Be := Bc.trans (hwe.mono Bc.size); have ke := str_of_bs cap0 (hb0.keep Be); obtain ⟨pe0, pe1, pe2, pe3⟩ := Ae.cells; obtain ⟨qe0, qe1, qe2, qe3⟩ := Ue.cells; obtain ⟨re0, re1, re2, re3⟩ := Ve.cells)
      | (go_at_call 23; ((with_reducible refine (LEN.out _).mono ?_)); rintro e wf ⟨rfl, hwf⟩; have Af := Ae.keep hwf Ae.lt; have Uf := Ue.keep hwf Ue.lt; have Vf := Ve.keep hwf Ve.lt; have Bf := Be.trans (hwf.mono Be.size); have kf := str_of_bs cap0 (hb0.keep Bf); obtain ⟨pf0, pf1, pf2, pf3⟩ := Af.cells; obtain ⟨qf0, qf1, qf2, qf3⟩ := Uf.cells; obtain ⟨rf0, rf1, rf2, rf3⟩ := Vf.cells)
      | (go_at_call 24; ((with_reducible refine (LIS.out _).mono ?_)); rintro e wg ⟨ag, capg, rfl, hbg, hwg⟩; have Ag := Af.keep hwg Af.lt; have Ug := Uf.keep hwg Uf.lt; have Vg := Vf.keep hwg Vf.lt; have Bg := Bf.trans (hwg.mono Bf.size); have kg := str_of_bs cap0 (hb0.keep Bg); have kg2 := str_of_bs capg hbg; obtain ⟨pg0, pg1, pg2, pg3⟩ := Ag.cells; obtain ⟨qg0, qg1, qg2, qg3⟩ := Ug.cells; obtain ⟨rg0, rg1, rg2, rg3⟩ := Vg.cells)))
  | fail
  all_goals
    go_wp2
    go_ret
    refine ⟨by simp, Bg⟩
set_option maxRecDepth 100000 in
set_option maxHeartbeats 16000000 in
theorem mainF (w : World) (a : List UInt8) (a0 : Option Addr) (cap0 : Nat) (hm0 : a.length ≤ 300) (hb0 : Bs w w.heap.size a0 a) (b : List UInt8) (a1 : Option Addr) (cap1 : Nat) (hm1 : b.length ≤ 300) (hb1 : Bs w w.heap.size a1 b) (c d : UInt8) (heq : ((c.toNat : Int) == (d.toNat : Int)) = false) :
    Calls Try.prog 5 #[.slice a0 a.length cap0, .slice a1 b.length cap1, .int .u8 c.toNat, .int .u8 d.toNat] w fun e w' => e = .returned (.bool true) ∧ Below w.heap.size w w' := by
  obtain ⟨A, hA⟩ : ∃ A, A = setOf a := ⟨_, rfl⟩
  obtain ⟨B, hB⟩ : ∃ B, B = setOf b := ⟨_, rfl⟩
  obtain ⟨U, hU⟩ : ∃ U, U = A ||| B := ⟨_, rfl⟩
  obtain ⟨V, hV⟩ : ∃ V, V = A ||| 2 ^ c.toNat := ⟨_, rfl⟩
  obtain ⟨L, hL⟩ : ∃ L, L = listTo U 256 := ⟨_, rfl⟩
  have hab : setOf (a ++ b) = U := by rw [setOf_append, ← hA, ← hB, hU]
  have hll : L.length ≤ 256 := by rw [hL]; exact listTo_le U 256
  have hal : (a ++ b).length ≤ 1000000000000 := by rw [List.length_append]; omega
  obtain ⟨hc, hhc⟩ : ∃ r, r = A.testBit c.toNat := ⟨_, rfl⟩
  obtain ⟨hd, hhd⟩ : ∃ r, r = A.testBit d.toNat := ⟨_, rfl⟩
  obtain ⟨uc, huc⟩ : ∃ r, r = U.testBit c.toNat := ⟨_, rfl⟩
  have hvd : V.testBit d.toNat = hd := by
    rw [show hd = (false || hd) from by simp]
    rw [hV, Nat.testBit_or, Nat.testBit_two_pow, ← hhd, ← heq, Bool.or_comm]
    congr 1
    rw [Bool.eq_iff_iff]; simp; omega
  have OFA : Hid (∀ w : World, Bs w w.heap.size a0 a → Calls Try.prog 17 #[.slice a0 a.length cap0] w fun e w' => e = .returned (setV A) ∧ Below w.heap.size w w') := fun w h => by rw [hA]; exact of_any a a0 cap0 w (by omega) h
  have OFB : Hid (∀ w : World, Bs w w.heap.size a1 b → Calls Try.prog 17 #[.slice a1 b.length cap1] w fun e w' => e = .returned (setV B) ∧ Below w.heap.size w w') := fun w h => by rw [hB]; exact of_any b a1 cap1 w (by omega) h
  have UNI : Hid (∀ w : World, Calls Try.prog 18 #[setV A, setV B] w fun e w' => e = .returned (setV U) ∧ Below w.heap.size w w') := fun w => by rw [hU]; exact union_any A B w
  have WIT : Hid (∀ w : World, Calls Try.prog 19 #[setV A, .int .u8 c.toNat] w fun e w' => e = .returned (setV V) ∧ Below w.heap.size w w') := fun w => by rw [hV]; exact with_any A c.toNat w c.toNat_lt
  have RLI : Hid (∀ w : World, Calls Try.prog 20 #[.string (str (a ++ b))] w fun e w' => e = .returned (.string (str L)) ∧ Below w.heap.size w w') := fun w => by rw [hL, ← hab]; exact rlist_any (a ++ b) w hal
  have HAC : Hid (∀ w : World, Calls Try.prog 21 #[.agg #[.int .u64 (wd A 0), .int .u64 (wd A 1), .int .u64 (wd A 2), .int .u64 (wd A 3)], .int .u8 c.toNat] w fun e w' => e = .returned (.bool hc) ∧ Below w.heap.size w w') := fun w => by rw [hhc]; exact has_any A c.toNat w c.toNat_lt
  have HVD : Hid (∀ w : World, Calls Try.prog 21 #[.agg #[.int .u64 (wd V 0), .int .u64 (wd V 1), .int .u64 (wd V 2), .int .u64 (wd V 3)], .int .u8 d.toNat] w fun e w' => e = .returned (.bool hd) ∧ Below w.heap.size w w') := fun w => by rw [← hvd]; exact has_any V d.toNat w d.toNat_lt
  have HUC : Hid (∀ w : World, Calls Try.prog 21 #[.agg #[.int .u64 (wd U 0), .int .u64 (wd U 1), .int .u64 (wd U 2), .int .u64 (wd U 3)], .int .u8 c.toNat] w fun e w' => e = .returned (.bool uc) ∧ Below w.heap.size w w') := fun w => by rw [huc]; exact has_any U c.toNat w c.toNat_lt
  have INC : Hid (∀ w : World, Calls Try.prog 22 #[.string (str a), .int .u8 c.toNat] w fun e w' => e = .returned (.bool hc) ∧ w = w') := fun w => by rw [hhc, hA]; exact in_any a c.toNat w (by omega)
  have IND : Hid (∀ w : World, Calls Try.prog 22 #[.string (str a), .int .u8 d.toNat] w fun e w' => e = .returned (.bool hd) ∧ w = w') := fun w => by rw [hhd, hA]; exact in_any a d.toNat w (by omega)
  have INU : Hid (∀ w : World, Calls Try.prog 22 #[.string (str (a ++ b)), .int .u8 c.toNat] w fun e w' => e = .returned (.bool uc) ∧ w = w') := fun w => by rw [huc, ← hab]; exact in_any (a ++ b) c.toNat w hal
  have LEN : Hid (∀ w : World, Calls Try.prog 23 #[.agg #[.int .u64 (wd U 0), .int .u64 (wd U 1), .int .u64 (wd U 2), .int .u64 (wd U 3)]] w fun e w' => e = .returned (.int .i64 (L.length : Int)) ∧ Below w.heap.size w w') := fun w => by
    have h := len_any U w
    have e : pc 64 (wd U 0) + pc 64 (wd U 1) + pc 64 (wd U 2) + pc 64 (wd U 3) = L.length := by rw [hL]; exact len_list U
    rw [e] at h; exact h
  have LIS : Hid (∀ w : World, Calls Try.prog 24 #[.agg #[.int .u64 (wd U 0), .int .u64 (wd U 1), .int .u64 (wd U 2), .int .u64 (wd U 3)]] w (GivesBytes w L)) := fun w => by rw [hL]; exact list_any U w
  clear hA hB hU hV hL hab hhc hhd huc hvd
  have hsz1 : (str a).size = a.length := str_size a
  have hsz2 : (str b).size = b.length := str_size b
  have hszL : (str L).size = L.length := str_size L
  have hadd : str a ++ str b = str (a ++ b) := str_add a b
  have hsl := str_list L
  go_enter Try.func5, Try.ntmps5
  go_wp2_with fail
  go_at_call 9
  refine (awake_any w).mono ?_
  rintro e w1 ⟨rfl, B1⟩
  go_wp2_with fail
  go_at_call 17
  refine (OFA.out w1 ((hb0.keep B1).more B1.size)).mono ?_
  rintro e w2 ⟨rfl, hw2⟩
  rw [setV_eq A]
  have B2 : Below w.heap.size w w2 := B1.trans (hw2.mono B1.size)
  have A3 := Blk4.made w2 A
  have B3 : Below w.heap.size w (w2.alloc (Obj.cells #[.int .u64 (wd A 0), .int .u64 (wd A 1), .int .u64 (wd A 2), .int .u64 (wd A 3)] 31)) := B2.alloc B2.size _
  go_wp2_with fail
  go_at_call 17
  refine (OFB.out _ ((hb1.keep B3).more B3.size)).mono ?_
  rintro e w4 ⟨rfl, hw4⟩
  rw [setV_eq B]
  have B4 : Below w.heap.size w w4 := B3.trans (hw4.mono B3.size)
  have A4 := A3.keep hw4 A3.lt
  have A5 := blk_alloc A4 (Obj.cells #[.int .u64 (wd B 0), .int .u64 (wd B 1), .int .u64 (wd B 2), .int .u64 (wd B 3)] 31)
  have Y5 := Blk4.made w4 B
  have B5 : Below w.heap.size w (w4.alloc (Obj.cells #[.int .u64 (wd B 0), .int .u64 (wd B 1), .int .u64 (wd B 2), .int .u64 (wd B 3)] 31)) := B4.alloc B4.size _
  clear A3 B3 hw4 hw2 B1 B2
  obtain ⟨c0, c1, c2, c3⟩ := A5.cells
  go_wp2_with fail
  clear c0 c1 c2 c3
  go_at_call 18
  refine (UNI.out _).mono ?_
  rintro e w6 ⟨rfl, hw6⟩
  rw [setV_eq U]
  have B6 : Below w.heap.size w w6 := B5.trans (hw6.mono B5.size)
  have A6 := A5.keep hw6 A5.lt
  have A7 := blk_alloc A6 (Obj.cells #[.int .u64 (wd U 0), .int .u64 (wd U 1), .int .u64 (wd U 2), .int .u64 (wd U 3)] 31)
  have U7 := Blk4.made w6 U
  have B7 : Below w.heap.size w (w6.alloc (Obj.cells #[.int .u64 (wd U 0), .int .u64 (wd U 1), .int .u64 (wd U 2), .int .u64 (wd U 3)] 31)) := B6.alloc B6.size _
  clear A4 A5 Y5 B5 hw6 B4 A6
  obtain ⟨c0, c1, c2, c3⟩ := A7.cells
  have k0 := str_of_bs cap0 (hb0.keep B7)
  have k1 := str_of_bs cap1 (hb1.keep B7)
  go_wp2_with fail
  clear c0 c1 c2 c3 k0 k1
  go_at_call 19
  refine (WIT.out _).mono ?_
  rintro e w8 ⟨rfl, hw8⟩
  rw [setV_eq V]
  have B8 : Below w.heap.size w w8 := B7.trans (hw8.mono B7.size)
  have A8 := A7.keep hw8 A7.lt
  have U8 := U7.keep hw8 U7.lt
  have A9 := blk_alloc A8 (Obj.cells #[.int .u64 (wd V 0), .int .u64 (wd V 1), .int .u64 (wd V 2), .int .u64 (wd V 3)] 31)
  have U9 := blk_alloc U8 (Obj.cells #[.int .u64 (wd V 0), .int .u64 (wd V 1), .int .u64 (wd V 2), .int .u64 (wd V 3)] 31)
  have V9 := Blk4.made w8 V
  have B9 : Below w.heap.size w (w8.alloc (Obj.cells #[.int .u64 (wd V 0), .int .u64 (wd V 1), .int .u64 (wd V 2), .int .u64 (wd V 3)] 31)) := B8.alloc B8.size _
  clear A7 U7 B7 hw8 A8 U8 B8 B6
  go_wp2_with fail
  go_at_call 20
  refine (RLI.out _).mono ?_
  rintro e wa ⟨rfl, hwa⟩
  have Ba : Below w.heap.size w wa := B9.trans (hwa.mono B9.size)
  have Aa := A9.keep hwa A9.lt
  have Ua := U9.keep hwa U9.lt
  have Va := V9.keep hwa V9.lt
  clear A9 U9 V9 B9 hwa
  go_upto_region 12 with fail
  have Ad : Blk4 wa.drew w2.heap.size A := Aa
  have Ud : Blk4 wa.drew w6.heap.size U := Ua
  have Vd : Blk4 wa.drew w8.heap.size V := Va
  have Bd : Below w.heap.size w wa.drew := Ba.drew
  obtain ⟨p0, p1, p2, p3⟩ := Ad.cells
  obtain ⟨q0, q1, q2, q3⟩ := Ud.cells
  obtain ⟨r0, r1, r2, r3⟩ := Vd.cells
  have kd := str_of_bs cap0 (hb0.keep Bd)
  first
  | (go_region_held (fun w' => w'.cell? ⟨w2.heap.size, 0, none⟩ = some (.int .u64 (wd A 0)) ∧ w'.cell? ⟨w2.heap.size, 1, none⟩ = some (.int .u64 (wd A 1)) ∧ w'.cell? ⟨w2.heap.size, 2, none⟩ = some (.int .u64 (wd A 2)) ∧ w'.cell? ⟨w2.heap.size, 3, none⟩ = some (.int .u64 (wd A 3)) ∧ w'.cell? ⟨w6.heap.size, 0, none⟩ = some (.int .u64 (wd U 0)) ∧ w'.cell? ⟨w6.heap.size, 1, none⟩ = some (.int .u64 (wd U 1)) ∧ w'.cell? ⟨w6.heap.size, 2, none⟩ = some (.int .u64 (wd U 2)) ∧ w'.cell? ⟨w6.heap.size, 3, none⟩ = some (.int .u64 (wd U 3)) ∧ w'.cell? ⟨w8.heap.size, 0, none⟩ = some (.int .u64 (wd V 0)) ∧ w'.cell? ⟨w8.heap.size, 1, none⟩ = some (.int .u64 (wd V 1)) ∧ w'.cell? ⟨w8.heap.size, 2, none⟩ = some (.int .u64 (wd V 2)) ∧ w'.cell? ⟨w8.heap.size, 3, none⟩ = some (.int .u64 (wd V 3)) ∧ (convert 22 9 (.slice a0 a.length cap0)).run Try.prog w' = .ok (.string (str a)) w')
    (((repeat' apply And.intro) <;> assumption))
    (first
      | (go_at_call 22; ((with_reducible refine (INC.out _).mono ?_)); rintro e wx ⟨rfl, rfl⟩)
      | (go_at_call 22; ((with_reducible refine (INU.out _).mono ?_)); rintro e wx ⟨rfl, rfl⟩)
      | (go_at_call 22; ((with_reducible refine (IND.out _).mono ?_)); rintro e wx ⟨rfl, rfl⟩)
      | (go_at_call 21; ((with_reducible refine (HAC.out _).mono ?_)); rintro e wb ⟨rfl, hwb⟩; have Ab := Ad.keep hwb Ad.lt; have Ub := Ud.keep hwb Ud.lt; have Vb := Vd.keep hwb Vd.lt; have Bb := Bd.trans (hwb.mono Bd.size); have kb := str_of_bs cap0 (hb0.keep Bb); obtain ⟨pb0, pb1, pb2, pb3⟩ := Ab.cells; obtain ⟨qb0, qb1, qb2, qb3⟩ := Ub.cells; obtain ⟨rb0, rb1, rb2, rb3⟩ := Vb.cells)
      | (go_at_call 21; ((with_reducible refine (HVD.out _).mono ?_)); rintro e wc ⟨rfl, hwc⟩; have Ac := Ab.keep hwc Ab.lt; have Uc := Ub.keep hwc Ub.lt; have Vc := Vb.keep hwc Vb.lt; have Bc := Bb.trans (hwc.mono Bb.size); have kc := str_of_bs cap0 (hb0.keep Bc); obtain ⟨pc0, pc1, pc2, pc3⟩ := Ac.cells; obtain ⟨qc0, qc1, qc2, qc3⟩ := Uc.cells; obtain ⟨rc0, rc1, rc2, rc3⟩ := Vc.cells)
      | (go_at_call 21; ((with_reducible refine (HUC.out _).mono ?_)); rintro e we ⟨rfl, hwe⟩; have Ae := Ac.keep hwe Ac.lt; have Ue := Uc.keep hwe Uc.lt; have Ve := Vc.keep hwe Vc.lt; have Be := Bc.trans (hwe.mono Bc.size); have ke := str_of_bs cap0 (hb0.keep Be); obtain ⟨pe0, pe1, pe2, pe3⟩ := Ae.cells; obtain ⟨qe0, qe1, qe2, qe3⟩ := Ue.cells; obtain ⟨re0, re1, re2, re3⟩ := Ve.cells)
      | (go_at_call 23; ((with_reducible refine (LEN.out _).mono ?_)); rintro e wf ⟨rfl, hwf⟩; have Af := Ae.keep hwf Ae.lt; have Uf := Ue.keep hwf Ue.lt; have Vf := Ve.keep hwf Ve.lt; have Bf := Be.trans (hwf.mono Be.size); have kf := str_of_bs cap0 (hb0.keep Bf); obtain ⟨pf0, pf1, pf2, pf3⟩ := Af.cells; obtain ⟨qf0, qf1, qf2, qf3⟩ := Uf.cells; obtain ⟨rf0, rf1, rf2, rf3⟩ := Vf.cells)
      | (go_at_call 24; ((with_reducible refine (LIS.out _).mono ?_)); rintro e wg ⟨ag, capg, rfl, hbg, hwg⟩; have Ag := Af.keep hwg Af.lt; have Ug := Uf.keep hwg Uf.lt; have Vg := Vf.keep hwg Vf.lt; have Bg := Bf.trans (hwg.mono Bf.size); have kg := str_of_bs cap0 (hb0.keep Bg); have kg2 := str_of_bs capg hbg; obtain ⟨pg0, pg1, pg2, pg3⟩ := Ag.cells; obtain ⟨qg0, qg1, qg2, qg3⟩ := Ug.cells; obtain ⟨rg0, rg1, rg2, rg3⟩ := Vg.cells)))
  | fail
  all_goals
    go_wp2
    go_ret
    refine ⟨by simp, Bg⟩
theorem walk (w : World) (a : List UInt8) (a0 : Option Addr) (cap0 : Nat) (hm0 : a.length ≤ maxLen) (hb0 : Bs w w.heap.size a0 a) (b : List UInt8) (a1 : Option Addr) (cap1 : Nat) (hm1 : b.length ≤ maxLen) (hb1 : Bs w w.heap.size a1 b) (c d : UInt8) :
    Calls Try.prog 5 #[.slice a0 a.length cap0, .slice a1 b.length cap1, .int .u8 c.toNat, .int .u8 d.toNat] w fun e w' => e = .returned (.bool true) ∧ Below w.heap.size w w' := by
  unfold maxLen at hm0 hm1
  by_cases h0 : a.length ≤ 300
  · by_cases h1 : b.length ≤ 300
    · by_cases hcd : c.toNat = d.toNat
      · obtain rfl : c = d := UInt8.toNat_inj.1 hcd
        exact mainT w a a0 cap0 h0 hb0 b a1 cap1 h1 hb1 c
      · exact mainF w a a0 cap0 h0 hb0 b a1 cap1 h1 hb1 c d (by simp; omega)
    · have hgt : 300 < b.length := by omega
      go_enter Try.func5, Try.ntmps5
      go_wp2_with fail
      go_at_call 9
      refine (awake_any w).mono ?_
      rintro e w1 ⟨rfl, B1⟩
      go_wp2
      go_ret
      exact ⟨rfl, B1⟩
  · have hgt : 300 < a.length := by omega
    go_enter Try.func5, Try.ntmps5
    go_wp2_with fail
    go_at_call 9
    refine (awake_any w).mono ?_
    rintro e w1 ⟨rfl, B1⟩
    go_wp2
    go_ret
    exact ⟨rfl, B1⟩
end Go.Proofs.Ytobkljjbemfkeaa.foldSets
