/- awake. -/
import Derived.Test.YtgdpelpepgpegaaHb
import Derived.Test.YtgdpelpepgpegaaBc0
namespace Go.Proofs.Ytgdpelpepgpegaa.Shf
open Go.Proofs.Ytgdpelpepgpegaa.Tri Go.Proofs.Ytgdpelpepgpegaa.Cwl Go.Proofs.Ytgdpelpepgpegaa.Bck Go.Proofs.Ytgdpelpepgpegaa.Shf Go.Proofs.Ytgdpelpepgpegaa.Lit Go.Proofs.Ytgdpelpepgpegaa.Reg Go.RowKit Go.Maps
set_option maxRecDepth 100000
set_option linter.unusedVariables false

abbrev exl : List Tx := [[97, 98, 99], [98, 99]]
abbrev exw (w : World) : World := ((w.alloc (.cells #[.int .u8 97, .int .u8 98, .int .u8 99] 5 (3, 4))).alloc (.cells #[.int .u8 98, .int .u8 99] 5 (2, 3))).alloc (.cells #[.slice (some ⟨w.heap.size, 0, none⟩) 3 3, .slice (some ⟨w.heap.size + 1, 0, none⟩) 2 2] 44)
def exx (w : World) : List TxV := [⟨[97, 98, 99], some ⟨w.heap.size, 0, none⟩, 3, fun e => by cases e⟩, ⟨[98, 99], some ⟨w.heap.size + 1, 0, none⟩, 2, fun e => by cases e⟩]
theorem ex_ts (w : World) : Ts (exw w) (some ⟨w.heap.size + 1 + 1, 0, none⟩) (exx w) := by
  refine ⟨fun _ => ⟨_, _, rfl, by simp, fun i hi => ?_⟩, fun x hx => ?_⟩
  · have hh : (exw w).heap[w.heap.size + 1 + 1]? = some (.cells #[.slice (some ⟨w.heap.size, 0, none⟩) 3 3, .slice (some ⟨w.heap.size + 1, 0, none⟩) 2 2] 44 (0, 0)) := by
      have := heap_alloc_new ((w.alloc (.cells #[.int .u8 97, .int .u8 98, .int .u8 99] 5 (3, 4))).alloc (.cells #[.int .u8 98, .int .u8 99] 5 (2, 3))) (.cells #[.slice (some ⟨w.heap.size, 0, none⟩) 3 3, .slice (some ⟨w.heap.size + 1, 0, none⟩) 2 2] 44)
      simpa using this
    rw [cell_of_row _ _ _ _ 44 (0, 0) hh]
    have hi' : i < 2 := hi
    rcases i with _ | _ | i
    · rfl
    · rfl
    · omega
  · have b1 := below_new w (.cells #[.int .u8 97, .int .u8 98, .int .u8 99] 5 (3, 4))
    have b2 := below_new (w.alloc (.cells #[.int .u8 97, .int .u8 98, .int .u8 99] 5 (3, 4))) (.cells #[.int .u8 98, .int .u8 99] 5 (2, 3))
    have b3 := below_new ((w.alloc (.cells #[.int .u8 97, .int .u8 98, .int .u8 99] 5 (3, 4))).alloc (.cells #[.int .u8 98, .int .u8 99] 5 (2, 3))) (.cells #[.slice (some ⟨w.heap.size, 0, none⟩) 3 3, .slice (some ⟨w.heap.size + 1, 0, none⟩) 2 2] 44)
    have k1 := bs_lit_at w (w.heap.size) [97, 98, 99] (3, 4) #[.int .u8 97, .int .u8 98, .int .u8 99] rfl rfl
    have k2 := bs_lit_at (w.alloc (.cells #[.int .u8 97, .int .u8 98, .int .u8 99] 5 (3, 4))) (w.heap.size + 1) [98, 99] (2, 3) #[.int .u8 98, .int .u8 99] (by simp) rfl
    simp only [exx, List.mem_cons, List.not_mem_nil, or_false] at hx
    rcases hx with rfl | rfl
    · exact ((((k1.keep b2).more b2.size).keep b3).more b3.size)
    · exact ((k2.keep b3).more b3.size)
theorem ex_below (w : World) : Below w.heap.size w (exw w) := ((((Below.refl _ _).alloc (Nat.le_refl _) _).alloc (by simp) _).alloc (by simp; omega) _)
theorem ex_turned : turned exl = [[99, 98, 97], [99, 98]] := by decide
theorem ex_paths : paths (turned exl) = [[], [99], [99, 98], [99, 98, 97]] := by decide
theorem ex_find : place (paths (turned exl)) [99] = 1 := by decide
theorem ex_f0 : fstN exl 0 = 1 := by decide +kernel
theorem ex_s0 : sndN exl 0 = 2 := by decide +kernel
theorem ex_f1 : fstN exl 1 = 2 := by decide +kernel
theorem ex_s1 : sndN exl 1 = 2 := by decide +kernel
theorem ex_x0 : farN exl 0 120 = 2 := by decide +kernel
theorem ex_b0 : farN exl 0 98 = 1 := by decide +kernel
set_option maxHeartbeats 8000000 in
theorem awake_any (w : World) : Calls Try.prog 8 #[] w fun e w' => e = .returned (.bool true) ∧ Below w.heap.size w w' := by
  have kc := fun (w : World) (C : Array Value) (n c : Nat) => Lib.run_convert_bytes_const (P := Try.prog) w 44 5 C n c Try.underlying44 Try.underlying5
  have k1 := fun (w : World) (o0 : Obj) (C : Array Value) (n c : Nat) => const_at (w.alloc o0) (w.heap.size + 1) (by simp) C n c
  go_enter Try.func8, Try.ntmps8
  have BU : Calls Try.prog 11 #[.slice (some ⟨w.heap.size + 1 + 1, 0, none⟩) 2 2] (exw w) (GivesBk (exw w) exl) :=
    bbuild_any (exw w) (exx w) (some ⟨w.heap.size + 1 + 1, 0, none⟩) 2 (ex_ts w) (by show 2 ≤ 1000; decide) (by intro x hx; simp only [exx, List.mem_cons, List.not_mem_nil, or_false] at hx; rcases hx with rfl | rfl <;> (show List.length _ ≤ 1000; simp))
  go_wp2_with fail
  refine BU.mono ?_
  rintro e w0 ⟨x, rfl, hk, hb⟩
  have HB0 := Lib.hid ((ex_below w).trans (hb.mono (ex_below w).size))
  generalize (exw w).heap.size = s at *
  obtain ⟨t, hc0, htr⟩ := hk.tree
  have HTR0 := Lib.hid htr
  have SB := Lib.hid (sbuild_any w0 x exl hk (by decide))
  clear BU hk hb htr k1
  go_wp2_with fail
  refine SB.out.mono ?_
  rintro e w1 ⟨p, rfl, hsh, hb⟩
  have HB1 := Lib.hid (HB0.out.trans (hb.mono HB0.out.size))
  have HTR1 := Lib.hid (HTR0.out.keep hb)
  have HS1 := Lib.hid hsh
  have hc1 := (hb.cell (p := ⟨x, 0, none⟩) (World.block_lt_of_cell? w0 _ hc0)).trans hc0
  have hc2 : (w1.alloc (.cells #[.int .u8 99] 5 (1, 2))).cell? ⟨x, 0, none⟩ = some (.pointer (some ⟨t, 0, none⟩)) := Lib.cell?_alloc_some _ hc1
  have C : Calls Try.prog 25 #[.pointer (some ⟨t, 0, none⟩), .slice (some ⟨w1.heap.size, 0, none⟩) 1 1] (w1.alloc (.cells #[.int .u8 99] 5 (1, 2))) fun e w' => e = .returned (.int .i64 1) ∧ w1.alloc (.cells #[.int .u8 99] 5 (1, 2)) = w' := by
    have := find_any _ s t _ _ (HTR1.out.keep (below_new _ _)) [99] (some ⟨w1.heap.size, 0, none⟩) 1 _ (bs_lit w1 [99] (1, 2) #[.int .u8 99] rfl) (by decide)
    rw [ex_find] at this
    exact this
  have HC := Lib.hid C
  clear SB hsh hb HTR0 HB0 hc0 C
  go_wp2_with fail
  refine HC.out.mono ?_
  rintro e w' ⟨rfl, rfl⟩
  have HS2 := Lib.hid (HS1.out.keep (below_new w1 (.cells #[.int .u8 99] 5 (1, 2))))
  have HB2 := Lib.hid (HB1.out.alloc HB1.out.size (.cells #[.int .u8 99] 5 (1, 2)))
  clear HC HS1 HB1 HTR1 hc1 hc2
  generalize w1.alloc (.cells #[.int .u8 99] 5 (1, 2)) = w2 at *
  have C : Calls Try.prog 14 #[.pointer p, .int .i64 0] w2 fun e w' => e = .returned (.int .i64 1) ∧ Below w2.heap.size w2 w' := by
    have := sfirst_any w2 p exl HS2.out 0 (by decide)
    rw [ex_f0] at this
    exact this
  go_wp2_with fail
  refine C.mono ?_
  rintro e w3 ⟨rfl, hb⟩
  have HS3 := Lib.hid (HS2.out.keep hb)
  have HB3 := Lib.hid (HB2.out.trans (hb.mono HB2.out.size))
  clear C hb HS2 HB2
  have C : Calls Try.prog 16 #[.pointer p, .int .i64 0] w3 fun e w' => e = .returned (.int .i64 2) ∧ Below w3.heap.size w3 w' := by
    have := ssecond_any w3 p exl HS3.out 0 (by decide)
    rw [ex_s0] at this
    exact this
  go_wp2_with fail
  refine C.mono ?_
  rintro e w4 ⟨rfl, hb⟩
  have HS4 := Lib.hid (HS3.out.keep hb)
  have HB4 := Lib.hid (HB3.out.trans (hb.mono HB3.out.size))
  clear C hb HS3 HB3
  have C : Calls Try.prog 14 #[.pointer p, .int .i64 1] w4 fun e w' => e = .returned (.int .i64 2) ∧ Below w4.heap.size w4 w' := by
    have := sfirst_any w4 p exl HS4.out 1 (by decide)
    rw [ex_f1] at this
    exact this
  go_wp2_with fail
  refine C.mono ?_
  rintro e w5 ⟨rfl, hb⟩
  have HS5 := Lib.hid (HS4.out.keep hb)
  have HB5 := Lib.hid (HB4.out.trans (hb.mono HB4.out.size))
  clear C hb HS4 HB4
  have C : Calls Try.prog 16 #[.pointer p, .int .i64 1] w5 fun e w' => e = .returned (.int .i64 2) ∧ Below w5.heap.size w5 w' := by
    have := ssecond_any w5 p exl HS5.out 1 (by decide)
    rw [ex_s1] at this
    exact this
  go_wp2_with fail
  refine C.mono ?_
  rintro e w6 ⟨rfl, hb⟩
  have HS6 := Lib.hid (HS5.out.keep hb)
  have HB6 := Lib.hid (HB5.out.trans (hb.mono HB5.out.size))
  clear C hb HS5 HB5
  have C : Calls Try.prog 18 #[.pointer p, .int .i64 0, .int .u8 120] w6 fun e w' => e = .returned (.int .i64 2) ∧ Below w6.heap.size w6 w' := by
    have := sfar_any w6 p exl HS6.out 0 (by decide) 120
    rw [ex_x0] at this
    exact this
  go_wp2_with fail
  refine C.mono ?_
  rintro e w7 ⟨rfl, hb⟩
  have HS7 := Lib.hid (HS6.out.keep hb)
  have HB7 := Lib.hid (HB6.out.trans (hb.mono HB6.out.size))
  clear C hb HS6 HB6
  have C : Calls Try.prog 18 #[.pointer p, .int .i64 0, .int .u8 98] w7 fun e w' => e = .returned (.int .i64 1) ∧ Below w7.heap.size w7 w' := by
    have := sfar_any w7 p exl HS7.out 0 (by decide) 98
    rw [ex_b0] at this
    exact this
  go_wp2_with fail
  refine C.mono ?_
  rintro e w8 ⟨rfl, hb⟩
  have HS8 := Lib.hid (HS7.out.keep hb)
  have HB8 := Lib.hid (HB7.out.trans (hb.mono HB7.out.size))
  clear C hb HS7 HB7
  go_wp2
  go_ret
  exact ⟨rfl, HB8.out⟩
end Go.Proofs.Ytgdpelpepgpegaa.Shf
