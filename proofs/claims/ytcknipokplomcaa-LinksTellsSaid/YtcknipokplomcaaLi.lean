/- The contract of 'awake': the document's example. -/
import Derived.Test.YtcknipokplomcaaLf
import Derived.Test.YtcknipokplomcaaLh
import Derived.Test.YtcknipokplomcaaTl
namespace Go.Proofs.Ytcknipokplomcaa.Lnk
open Go.RowKit Go.Maps Go.Proofs.Ytcknipokplomcaa.Tri

abbrev exl : List Tx := [[104, 101], [115, 104, 101], [104, 101, 114, 115]]
abbrev exp : List Tx := [[], [104], [104, 101], [115], [115, 104], [115, 104, 101], [104, 101, 114], [104, 101, 114, 115]]
theorem ex_paths : paths exl = exp := by decide
theorem ex_wf : Wf exp := by rw [← ex_paths]; exact paths_wf _
theorem ex_she : place exp [115, 104, 101] = 5 := by decide
theorem ex_hers : place exp [104, 101, 114, 115] = 7 := by decide
theorem ex_he : place exp [104, 101] = 2 := by decide
theorem ex_s : place exp [115] = 3 := by decide
theorem ex_fail5 : (lkAt exp exl 5).fail = 2 := by decide
theorem ex_out5 : (lkAt exp exl 5).out = 2 := by decide
theorem ex_fail7 : (lkAt exp exl 7).fail = 3 := by decide
theorem ex_fail0 : (lkAt exp exl 0).fail = -1 := by decide
theorem ex_ends : endsOf exl (pathD exp 5) = [3, 2] := by decide
theorem ex_long : longOf exl (pathD exp 5) = 3 := by decide
theorem ex_ord : (ordN exp).length = 8 := by rw [ordN_len ex_wf]; rfl
theorem const_at (w : World) (g : Nat) (hg : g = w.heap.size) (C : Array Value) (n c : Nat) :
    (convert 44 44 (.slice (some ⟨g, 0, none⟩) n c)).run Try.prog (w.alloc (.cells C 5)) = .ok (.slice (some ⟨g, 0, none⟩) n c) (w.alloc (.cells C 5 (C.size, C.size + 1))) := by
  subst hg
  exact Lib.run_convert_bytes_const w 44 5 C n c Try.underlying44 Try.underlying5
theorem bs_lit_at (w : World) (g : Nat) (l : List UInt8) (fr : Nat × Nat) (cs : Array Value) (hg : g = w.heap.size) (hcs : cs = (l.map fun c => Value.int .u8 (c.toNat : Int)).toArray) :
    Bs (w.alloc (.cells cs 5 fr)) (w.alloc (.cells cs 5 fr)).heap.size (some ⟨g, 0, none⟩) l := by
  subst hg; exact bs_lit w l fr cs hcs
/-- A literal's numbers. -/
theorem is_lit (w : World) (l : List Int) (cs : Array Value) (hcs : cs = (ivals l).toArray) : Is (w.alloc (.cells cs 3)) (w.alloc (.cells cs 3)).heap.size (some ⟨w.heap.size, 0, none⟩) l := fun _ => by
  refine ⟨w.heap.size, 0, rfl, by simp, fun i hi => ?_⟩
  rw [cell_of_row _ w.heap.size _ _ 3 (0, 0) (heap_alloc_new w _), hcs]
  simp [ivals, hi]
theorem below_new (w : World) (x : Obj) : Below w.heap.size w (w.alloc x) := (Below.refl _ _).alloc (Nat.le_refl _) _
abbrev exw (w : World) : World := (((w.alloc (.cells #[.int .u8 104, .int .u8 101] 5 (2, 3))).alloc (.cells #[.int .u8 115, .int .u8 104, .int .u8 101] 5 (3, 4))).alloc (.cells #[.int .u8 104, .int .u8 101, .int .u8 114, .int .u8 115] 5 (4, 5))).alloc (.cells #[.slice (some ⟨w.heap.size, 0, none⟩) 2 2, .slice (some ⟨w.heap.size + 1, 0, none⟩) 3 3, .slice (some ⟨w.heap.size + 1 + 1, 0, none⟩) 4 4] 44)
def exx (w : World) : List TxV := [⟨[104, 101], some ⟨w.heap.size, 0, none⟩, 2, fun e => by cases e⟩, ⟨[115, 104, 101], some ⟨w.heap.size + 1, 0, none⟩, 3, fun e => by cases e⟩, ⟨[104, 101, 114, 115], some ⟨w.heap.size + 1 + 1, 0, none⟩, 4, fun e => by cases e⟩]
theorem ex_ts (w : World) : Ts (exw w) (some ⟨w.heap.size + 1 + 1 + 1, 0, none⟩) (exx w) := by
  refine ⟨fun _ => ⟨_, _, rfl, by simp, fun i hi => ?_⟩, fun x hx => ?_⟩
  · have hh : (exw w).heap[w.heap.size + 1 + 1 + 1]? = some (.cells #[.slice (some ⟨w.heap.size, 0, none⟩) 2 2, .slice (some ⟨w.heap.size + 1, 0, none⟩) 3 3, .slice (some ⟨w.heap.size + 1 + 1, 0, none⟩) 4 4] 44 (0, 0)) := by
      have := heap_alloc_new (((w.alloc (.cells #[.int .u8 104, .int .u8 101] 5 (2, 3))).alloc (.cells #[.int .u8 115, .int .u8 104, .int .u8 101] 5 (3, 4))).alloc (.cells #[.int .u8 104, .int .u8 101, .int .u8 114, .int .u8 115] 5 (4, 5))) (.cells #[.slice (some ⟨w.heap.size, 0, none⟩) 2 2, .slice (some ⟨w.heap.size + 1, 0, none⟩) 3 3, .slice (some ⟨w.heap.size + 1 + 1, 0, none⟩) 4 4] 44)
      simpa using this
    rw [cell_of_row _ _ _ _ 44 (0, 0) hh]
    have hi' : i < 3 := hi
    rcases i with _ | _ | _ | i
    · rfl
    · rfl
    · rfl
    · omega
  · have b1 := below_new w (.cells #[.int .u8 104, .int .u8 101] 5 (2, 3))
    have b2 := below_new (w.alloc (.cells #[.int .u8 104, .int .u8 101] 5 (2, 3))) (.cells #[.int .u8 115, .int .u8 104, .int .u8 101] 5 (3, 4))
    have b3 := below_new ((w.alloc (.cells #[.int .u8 104, .int .u8 101] 5 (2, 3))).alloc (.cells #[.int .u8 115, .int .u8 104, .int .u8 101] 5 (3, 4))) (.cells #[.int .u8 104, .int .u8 101, .int .u8 114, .int .u8 115] 5 (4, 5))
    have b4 := below_new (((w.alloc (.cells #[.int .u8 104, .int .u8 101] 5 (2, 3))).alloc (.cells #[.int .u8 115, .int .u8 104, .int .u8 101] 5 (3, 4))).alloc (.cells #[.int .u8 104, .int .u8 101, .int .u8 114, .int .u8 115] 5 (4, 5))) (.cells #[.slice (some ⟨w.heap.size, 0, none⟩) 2 2, .slice (some ⟨w.heap.size + 1, 0, none⟩) 3 3, .slice (some ⟨w.heap.size + 1 + 1, 0, none⟩) 4 4] 44)
    have k1 := bs_lit_at w w.heap.size [104, 101] (2, 3) #[.int .u8 104, .int .u8 101] rfl rfl
    have k2 := bs_lit_at (w.alloc (.cells #[.int .u8 104, .int .u8 101] 5 (2, 3))) (w.heap.size + 1) [115, 104, 101] (3, 4) #[.int .u8 115, .int .u8 104, .int .u8 101] (by simp) rfl
    have k3 := bs_lit_at ((w.alloc (.cells #[.int .u8 104, .int .u8 101] 5 (2, 3))).alloc (.cells #[.int .u8 115, .int .u8 104, .int .u8 101] 5 (3, 4))) (w.heap.size + 1 + 1) [104, 101, 114, 115] (4, 5) #[.int .u8 104, .int .u8 101, .int .u8 114, .int .u8 115] (by simp) rfl
    simp only [exx, List.mem_cons, List.not_mem_nil, or_false] at hx
    rcases hx with rfl | rfl | rfl
    · exact ((((((k1.keep b2).more b2.size).keep b3).more b3.size).keep b4).more b4.size)
    · exact ((((k2.keep b3).more b3.size).keep b4).more b4.size)
    · exact ((k3.keep b4).more b4.size)
theorem ex_below (w : World) : Below w.heap.size w (exw w) := ((((Below.refl _ _).alloc (Nat.le_refl _) _).alloc (by simp) _).alloc (by simp; omega) _).alloc (by simp; omega) _
set_option maxRecDepth 100000 in
set_option maxHeartbeats 8000000 in
theorem awake_any (w : World) : Calls Try.prog 7 #[] w fun e w' => e = .returned (.bool true) ∧ Below w.heap.size w w' := by
  have kc := fun (w : World) (C : Array Value) (n c : Nat) => Lib.run_convert_bytes_const (P := Try.prog) w 44 5 C n c Try.underlying44 Try.underlying5
  have kd := fun (w : World) (o : Obj) (C : Array Value) (n c : Nat) => const_at (w.alloc o) (w.heap.size + 1) (by simp) C n c
  have ke := fun (w : World) (o o' : Obj) (C : Array Value) (n c : Nat) => const_at ((w.alloc o).alloc o') (w.heap.size + 1 + 1) (by simp) C n c
  go_enter Try.func7, Try.ntmps7
  have BU : Calls Try.prog 10 #[.slice (some ⟨w.heap.size + 1 + 1 + 1, 0, none⟩) 3 3] (exw w) (GivesTr (exw w) exp exl) := by
    have := build_any (exw w) (exx w) (some ⟨w.heap.size + 1 + 1 + 1, 0, none⟩) 3 (ex_ts w) (by show 3 ≤ 1000000; decide) (by show tot exl ≤ _; decide)
    rw [show (exx w).map TxV.text = exl from rfl, ex_paths] at this
    exact this
  go_wp2_with fail
  refine BU.mono ?_
  rintro e w0 ⟨t, rfl, ht, hb⟩
  have HB0 := Lib.hid ((ex_below w).trans (hb.mono (ex_below w).size))
  generalize (exw w).heap.size = s at *
  have BL := lbuild_any w0 s t exp exl ht (by decide)
  clear BU hb kd ke
  go_wp2_with fail
  refine BL.mono ?_
  rintro e W ⟨x, rfl, hl, hb⟩
  have HW : Hid (Below w.heap.size w W) := Lib.hid (HB0.out.trans (hb.mono HB0.out.size))
  have HT : Hid (∀ X, Below W.heap.size W X → Tr X s t exp exl) := Lib.hid fun X hX => (ht.keep hb).keep hX
  have HL : Hid (∀ X, Below W.heap.size W X → Li X w0.heap.size x exp exl) := Lib.hid fun X hX => hl.keep hX
  clear BL hb hl ht HB0
  generalize w0.heap.size = s2 at *
  have hB0 := Below.refl W.heap.size W
  have B0 := Lib.hid hB0
  clear hB0
  obtain ⟨w1, hw1⟩ : ∃ w1, w1 = W := ⟨_, rfl⟩
  rw [← hw1]
  have B1 : Hid (Below W.heap.size W w1) := Lib.hid (by rw [hw1]; exact Below.refl _ _)
  clear B0 hw1
  have C : Calls Try.prog 24 #[.pointer (some ⟨t, 0, none⟩), .slice (some ⟨w1.heap.size, 0, none⟩) 3 3] (w1.alloc (.cells #[.int .u8 115, .int .u8 104, .int .u8 101] 5 (3, 4))) fun e w' => e = .returned (.int .i64 5) ∧ w1.alloc (.cells #[.int .u8 115, .int .u8 104, .int .u8 101] 5 (3, 4)) = w' := by
    have := find_any _ s t exp exl (HT.out _ (B1.out.alloc B1.out.size _)) [115, 104, 101] (some ⟨w1.heap.size, 0, none⟩) 3 _ (bs_lit w1 [115, 104, 101] (3, 4) #[.int .u8 115, .int .u8 104, .int .u8 101] rfl) (by decide)
    rw [ex_she] at this
    exact this
  go_wp2_with fail
  refine C.mono ?_
  rintro e w' ⟨rfl, rfl⟩
  have B2 := Lib.hid (B1.out.alloc B1.out.size (.cells #[.int .u8 115, .int .u8 104, .int .u8 101] 5 (3, 4)))
  clear C B1
  generalize w1.alloc (.cells #[.int .u8 115, .int .u8 104, .int .u8 101] 5 (3, 4)) = w2 at *
  have C : Calls Try.prog 24 #[.pointer (some ⟨t, 0, none⟩), .slice (some ⟨w2.heap.size, 0, none⟩) 4 4] (w2.alloc (.cells #[.int .u8 104, .int .u8 101, .int .u8 114, .int .u8 115] 5 (4, 5))) fun e w' => e = .returned (.int .i64 7) ∧ w2.alloc (.cells #[.int .u8 104, .int .u8 101, .int .u8 114, .int .u8 115] 5 (4, 5)) = w' := by
    have := find_any _ s t exp exl (HT.out _ (B2.out.alloc B2.out.size _)) [104, 101, 114, 115] (some ⟨w2.heap.size, 0, none⟩) 4 _ (bs_lit w2 [104, 101, 114, 115] (4, 5) #[.int .u8 104, .int .u8 101, .int .u8 114, .int .u8 115] rfl) (by decide)
    rw [ex_hers] at this
    exact this
  go_wp2_with fail
  refine C.mono ?_
  rintro e w' ⟨rfl, rfl⟩
  have B3 := Lib.hid (B2.out.alloc B2.out.size (.cells #[.int .u8 104, .int .u8 101, .int .u8 114, .int .u8 115] 5 (4, 5)))
  clear C B2
  generalize w2.alloc (.cells #[.int .u8 104, .int .u8 101, .int .u8 114, .int .u8 115] 5 (4, 5)) = w3 at *
  have C : Calls Try.prog 13 #[.pointer (some ⟨x, 0, none⟩), .int .i64 5] w3 fun e w' => e = .returned (.int .i64 2) ∧ Below w3.heap.size w3 w' := by have := fail_any w3 s2 x exp exl (HL.out _ B3.out) 5; rw [ex_fail5] at this; exact this
  go_wp2_with fail
  refine C.mono ?_
  rintro e w4 ⟨rfl, hb⟩
  have B4 := Lib.hid (B3.out.trans (hb.mono B3.out.size))
  clear C hb B3
  have C : Calls Try.prog 24 #[.pointer (some ⟨t, 0, none⟩), .slice (some ⟨w4.heap.size, 0, none⟩) 2 2] (w4.alloc (.cells #[.int .u8 104, .int .u8 101] 5 (2, 3))) fun e w' => e = .returned (.int .i64 2) ∧ w4.alloc (.cells #[.int .u8 104, .int .u8 101] 5 (2, 3)) = w' := by
    have := find_any _ s t exp exl (HT.out _ (B4.out.alloc B4.out.size _)) [104, 101] (some ⟨w4.heap.size, 0, none⟩) 2 _ (bs_lit w4 [104, 101] (2, 3) #[.int .u8 104, .int .u8 101] rfl) (by decide)
    rw [ex_he] at this
    exact this
  go_wp2_with fail
  refine C.mono ?_
  rintro e w' ⟨rfl, rfl⟩
  have B5 := Lib.hid (B4.out.alloc B4.out.size (.cells #[.int .u8 104, .int .u8 101] 5 (2, 3)))
  clear C B4
  generalize w4.alloc (.cells #[.int .u8 104, .int .u8 101] 5 (2, 3)) = w5 at *
  have C : Calls Try.prog 15 #[.pointer (some ⟨x, 0, none⟩), .int .i64 5] w5 fun e w' => e = .returned (.int .i64 2) ∧ Below w5.heap.size w5 w' := by have := out_any w5 s2 x exp exl (HL.out _ B5.out) 5; rw [ex_out5] at this; exact this
  go_wp2_with fail
  refine C.mono ?_
  rintro e w6 ⟨rfl, hb⟩
  have B6 := Lib.hid (B5.out.trans (hb.mono B5.out.size))
  clear C hb B5
  have C : Calls Try.prog 13 #[.pointer (some ⟨x, 0, none⟩), .int .i64 5] w6 fun e w' => e = .returned (.int .i64 2) ∧ Below w6.heap.size w6 w' := by have := fail_any w6 s2 x exp exl (HL.out _ B6.out) 5; rw [ex_fail5] at this; exact this
  go_wp2_with fail
  refine C.mono ?_
  rintro e w7 ⟨rfl, hb⟩
  have B7 := Lib.hid (B6.out.trans (hb.mono B6.out.size))
  clear C hb B6
  have C : Calls Try.prog 18 #[.pointer (some ⟨x, 0, none⟩), .int .i64 5] w7 (GivesInts w7 [3, 2]) := by have := ends_any w7 s2 x exp exl (HL.out _ B7.out) 5 (by decide); rw [ex_ends] at this; exact this
  go_wp2_with fail
  refine C.mono ?_
  rintro e w8 ⟨ae, ce, rfl, hie, _, hb⟩
  have B8 := Lib.hid (B7.out.trans (hb.mono B7.out.size))
  clear C hb B7
  have hn1 := below_new w8 (.cells #[.int .i64 3, .int .i64 2] 3)
  have C : Calls Try.prog 17 #[.slice ae 2 ce, .slice (some ⟨w8.heap.size, 0, none⟩) 2 2] (w8.alloc (.cells #[.int .i64 3, .int .i64 2] 3)) fun e w' => e = .returned (.bool true) ∧ ∃ q, w' = (w8.alloc (.cells #[.int .i64 3, .int .i64 2] 3)).drewN q :=
    isame_any _ [3, 2] [3, 2] ae (some ⟨w8.heap.size, 0, none⟩) ce 2 _ ((hie.keep hn1).more hn1.size) (is_lit w8 [3, 2] #[.int .i64 3, .int .i64 2] rfl) (by decide) (by decide)
  go_wp2_with fail
  refine C.mono ?_
  rintro e w9 ⟨rfl, q, rfl⟩
  have B9 := Lib.hid (below_drews (B8.out.alloc B8.out.size (.cells #[.int .i64 3, .int .i64 2] 3)) q)
  clear C hn1 hie B8
  generalize (w8.alloc (.cells #[.int .i64 3, .int .i64 2] 3)).drewN q = w9 at *
  have C : Calls Try.prog 19 #[.pointer (some ⟨x, 0, none⟩), .int .i64 5] w9 fun e w' => e = .returned (.int .i64 3) ∧ Below w9.heap.size w9 w' := by have := longest_any w9 s2 x exp exl (HL.out _ B9.out) 5; rw [ex_long] at this; exact this
  go_wp2_with fail
  refine C.mono ?_
  rintro e w10 ⟨rfl, hb⟩
  have B10 := Lib.hid (B9.out.trans (hb.mono B9.out.size))
  clear C hb B9
  have C : Calls Try.prog 13 #[.pointer (some ⟨x, 0, none⟩), .int .i64 7] w10 fun e w' => e = .returned (.int .i64 3) ∧ Below w10.heap.size w10 w' := by have := fail_any w10 s2 x exp exl (HL.out _ B10.out) 7; rw [ex_fail7] at this; exact this
  go_wp2_with fail
  refine C.mono ?_
  rintro e w11 ⟨rfl, hb⟩
  have B11 := Lib.hid (B10.out.trans (hb.mono B10.out.size))
  clear C hb B10
  have C : Calls Try.prog 24 #[.pointer (some ⟨t, 0, none⟩), .slice (some ⟨w11.heap.size, 0, none⟩) 1 1] (w11.alloc (.cells #[.int .u8 115] 5 (1, 2))) fun e w' => e = .returned (.int .i64 3) ∧ w11.alloc (.cells #[.int .u8 115] 5 (1, 2)) = w' := by
    have := find_any _ s t exp exl (HT.out _ (B11.out.alloc B11.out.size _)) [115] (some ⟨w11.heap.size, 0, none⟩) 1 _ (bs_lit w11 [115] (1, 2) #[.int .u8 115] rfl) (by decide)
    rw [ex_s] at this
    exact this
  go_wp2_with fail
  refine C.mono ?_
  rintro e w' ⟨rfl, rfl⟩
  have B12 := Lib.hid (B11.out.alloc B11.out.size (.cells #[.int .u8 115] 5 (1, 2)))
  clear C B11
  generalize w11.alloc (.cells #[.int .u8 115] 5 (1, 2)) = w12 at *
  have C : Calls Try.prog 13 #[.pointer (some ⟨x, 0, none⟩), .int .i64 0] w12 fun e w' => e = .returned (.int .i64 (-1)) ∧ Below w12.heap.size w12 w' := by have := fail_any w12 s2 x exp exl (HL.out _ B12.out) 0; rw [ex_fail0] at this; exact this
  go_wp2_with fail
  refine C.mono ?_
  rintro e w13 ⟨rfl, hb⟩
  have B13 := Lib.hid (B12.out.trans (hb.mono B12.out.size))
  clear C hb B12
  have C := order_any w13 s2 x exp exl (HL.out _ B13.out)
  go_wp2_with fail
  refine C.mono ?_
  rintro e w14 ⟨ao, co, rfl, _, _, hb⟩
  rw [ex_ord]
  have B14 := Lib.hid (B13.out.trans (hb.mono B13.out.size))
  clear C hb B13
  have C : Calls Try.prog 22 #[.pointer (some ⟨t, 0, none⟩)] w14 fun e w' => e = .returned (.int .i64 8) ∧ w14 = w' := nodes_any w14 s t exp exl (HT.out _ B14.out)
  go_wp2_with fail
  refine C.mono ?_
  rintro e w' ⟨rfl, rfl⟩
  clear C
  go_wp2
  go_ret
  exact ⟨rfl, HW.out.trans (B14.out.mono HW.out.size)⟩
end Go.Proofs.Ytcknipokplomcaa.Lnk
