/- awake. -/
import Derived.Test.YtmbglghpnloggaaRb
namespace Go.Proofs.Ytmbglghpnloggaa.Wal
open Go.Proofs.Ytmbglghpnloggaa.Tri Go.Proofs.Ytmbglghpnloggaa.Lnk Go.Proofs.Ytmbglghpnloggaa.Prs Go.Proofs.Ytmbglghpnloggaa.Spa Go.Proofs.Ytmbglghpnloggaa.Cwl Go.Proofs.Ytmbglghpnloggaa.Bck Go.Proofs.Ytmbglghpnloggaa.Wal Go.Proofs.Ytmbglghpnloggaa.Reg Go.RowKit Go.Maps
set_option maxRecDepth 100000
set_option linter.unusedVariables false

abbrev exl : List Tx := [[97, 98, 99], [98, 99]]
abbrev exw (w : World) : World := ((w.alloc (.cells #[.int .u8 97, .int .u8 98, .int .u8 99] 5 (3, 4))).alloc (.cells #[.int .u8 98, .int .u8 99] 5 (2, 3))).alloc (.cells #[.slice (some ⟨w.heap.size, 0, none⟩) 3 3, .slice (some ⟨w.heap.size + 1, 0, none⟩) 2 2] 23)
def exx (w : World) : List TxV := [⟨[97, 98, 99], some ⟨w.heap.size, 0, none⟩, 3, fun e => by cases e⟩, ⟨[98, 99], some ⟨w.heap.size + 1, 0, none⟩, 2, fun e => by cases e⟩]
theorem ex_ts (w : World) : Ts (exw w) (some ⟨w.heap.size + 1 + 1, 0, none⟩) (exx w) := by
  refine ⟨fun _ => ⟨_, _, rfl, by simp, fun i hi => ?_⟩, fun x hx => ?_⟩
  · have hh : (exw w).heap[w.heap.size + 1 + 1]? = some (.cells #[.slice (some ⟨w.heap.size, 0, none⟩) 3 3, .slice (some ⟨w.heap.size + 1, 0, none⟩) 2 2] 23 (0, 0)) := by
      have := heap_alloc_new ((w.alloc (.cells #[.int .u8 97, .int .u8 98, .int .u8 99] 5 (3, 4))).alloc (.cells #[.int .u8 98, .int .u8 99] 5 (2, 3))) (.cells #[.slice (some ⟨w.heap.size, 0, none⟩) 3 3, .slice (some ⟨w.heap.size + 1, 0, none⟩) 2 2] 23)
      simpa using this
    rw [cell_of_row _ _ _ _ 23 (0, 0) hh]
    have hi' : i < 2 := hi
    rcases i with _ | _ | i
    · rfl
    · rfl
    · omega
  · have b1 := below_new w (.cells #[.int .u8 97, .int .u8 98, .int .u8 99] 5 (3, 4))
    have b2 := below_new (w.alloc (.cells #[.int .u8 97, .int .u8 98, .int .u8 99] 5 (3, 4))) (.cells #[.int .u8 98, .int .u8 99] 5 (2, 3))
    have b3 := below_new ((w.alloc (.cells #[.int .u8 97, .int .u8 98, .int .u8 99] 5 (3, 4))).alloc (.cells #[.int .u8 98, .int .u8 99] 5 (2, 3))) (.cells #[.slice (some ⟨w.heap.size, 0, none⟩) 3 3, .slice (some ⟨w.heap.size + 1, 0, none⟩) 2 2] 23)
    have k1 := bs_lit_at w (w.heap.size) [97, 98, 99] (3, 4) #[.int .u8 97, .int .u8 98, .int .u8 99] rfl rfl
    have k2 := bs_lit_at (w.alloc (.cells #[.int .u8 97, .int .u8 98, .int .u8 99] 5 (3, 4))) (w.heap.size + 1) [98, 99] (2, 3) #[.int .u8 98, .int .u8 99] (by simp) rfl
    simp only [exx, List.mem_cons, List.not_mem_nil, or_false] at hx
    rcases hx with rfl | rfl
    · exact ((((k1.keep b2).more b2.size).keep b3).more b3.size)
    · exact ((k2.keep b3).more b3.size)
theorem ex_below (w : World) : Below w.heap.size w (exw w) := ((((Below.refl _ _).alloc (Nat.le_refl _) _).alloc (by simp) _).alloc (by simp; omega) _)
theorem ex_scan : scanOf exl [120, 97, 98, 99, 120] = [⟨1, 4⟩, ⟨2, 4⟩] := by decide +kernel
theorem ex_winds : windsOf exl [120, 97, 98, 99, 120] = [2, 4] := by decide +kernel
set_option maxHeartbeats 8000000 in
theorem awake_any (w : World) : Calls Try.prog 9 #[] w fun e w' => e = .returned (.bool true) ∧ Below w.heap.size w w' := by
  have kc := fun (w : World) (C : Array Value) (n c : Nat) => Lib.run_convert_bytes_const (P := Try.prog) w 23 5 C n c Try.underlying23 Try.underlying5
  have k1 := fun (w : World) (o0 : Obj) (C : Array Value) (n c : Nat) => const_at (w.alloc o0) (w.heap.size + 1) (by simp) C n c
  go_enter Try.func9, Try.ntmps9
  have BU : Calls Try.prog 13 #[.slice (some ⟨w.heap.size + 1 + 1, 0, none⟩) 2 2] (exw w) (GivesCw (exw w) exl) :=
    wnew_any (exw w) (exx w) (some ⟨w.heap.size + 1 + 1, 0, none⟩) 2 (ex_ts w) (by show 2 ≤ 1000; decide) (by intro x hx; simp only [exx, List.mem_cons, List.not_mem_nil, or_false] at hx; rcases hx with rfl | rfl <;> (show List.length _ ≤ 1000; simp)) (by show tot exl ≤ _; decide)
  go_wp2_with fail
  refine BU.mono ?_
  rintro e w0 ⟨p, rfl, hk, hb⟩
  have HB0 := Lib.hid ((ex_below w).trans (hb.mono (ex_below w).size))
  generalize (exw w).heap.size = s at *
  have HK0 := Lib.hid hk
  clear BU hk hb k1
  have C : Calls Try.prog 14 #[.pointer p, .slice (some ⟨w0.heap.size, 0, none⟩) 5 5] (w0.alloc (.cells #[.int .u8 120, .int .u8 97, .int .u8 98, .int .u8 99, .int .u8 120] 5 (5, 6))) (GivesPrs (w0.alloc (.cells #[.int .u8 120, .int .u8 97, .int .u8 98, .int .u8 99, .int .u8 120] 5 (5, 6))) [⟨1, 4⟩, ⟨2, 4⟩]) := by
    have := wscan_any (w0.alloc (.cells #[.int .u8 120, .int .u8 97, .int .u8 98, .int .u8 99, .int .u8 120] 5 (5, 6))) p exl (HK0.out.keep (below_new _ _)) [120, 97, 98, 99, 120] (some ⟨w0.heap.size, 0, none⟩) 5 ⟨bs_lit w0 [120, 97, 98, 99, 120] (5, 6) #[.int .u8 120, .int .u8 97, .int .u8 98, .int .u8 99, .int .u8 120] rfl, by decide, fun h => by cases h⟩ (by decide)
    rw [ex_scan] at this
    exact this
  have HC := Lib.hid C
  have HB1 := Lib.hid (HB0.out.alloc HB0.out.size (.cells #[.int .u8 120, .int .u8 97, .int .u8 98, .int .u8 99, .int .u8 120] 5 (5, 6)))
  have HK1 := Lib.hid (HK0.out.keep (below_new w0 (.cells #[.int .u8 120, .int .u8 97, .int .u8 98, .int .u8 99, .int .u8 120] 5 (5, 6))))
  clear C
  go_wp2_with fail
  refine HC.out.mono ?_
  rintro e w2 ⟨aX, cX, rfl, hpx, hb⟩
  have HB2 := Lib.hid (HB1.out.trans (hb.mono HB1.out.size))
  have HK2 := Lib.hid (HK1.out.keep hb)
  have HPX := Lib.hid hpx
  clear HC HB0 HK0 HB1 HK1 hb hpx
  have C : Calls Try.prog 17 #[.pointer p, .slice (some ⟨w2.heap.size, 0, none⟩) 5 5] (w2.alloc (.cells #[.int .u8 120, .int .u8 97, .int .u8 98, .int .u8 99, .int .u8 120] 5 (5, 6))) (GivesIs (w2.alloc (.cells #[.int .u8 120, .int .u8 97, .int .u8 98, .int .u8 99, .int .u8 120] 5 (5, 6))) [2, 4]) := by
    have := wends_any (w2.alloc (.cells #[.int .u8 120, .int .u8 97, .int .u8 98, .int .u8 99, .int .u8 120] 5 (5, 6))) p exl (HK2.out.keep (below_new _ _)) [120, 97, 98, 99, 120] (some ⟨w2.heap.size, 0, none⟩) 5 ⟨bs_lit w2 [120, 97, 98, 99, 120] (5, 6) #[.int .u8 120, .int .u8 97, .int .u8 98, .int .u8 99, .int .u8 120] rfl, by decide, fun h => by cases h⟩ (by decide)
    rw [ex_winds] at this
    exact this
  have HC := Lib.hid C
  have HB3 := Lib.hid (HB2.out.alloc HB2.out.size (.cells #[.int .u8 120, .int .u8 97, .int .u8 98, .int .u8 99, .int .u8 120] 5 (5, 6)))
  have HPX3 := Lib.hid ((HPX.out.keep (below_new w2 (.cells #[.int .u8 120, .int .u8 97, .int .u8 98, .int .u8 99, .int .u8 120] 5 (5, 6)))).more (below_new w2 (.cells #[.int .u8 120, .int .u8 97, .int .u8 98, .int .u8 99, .int .u8 120] 5 (5, 6))).size)
  clear C
  go_wp2_with fail
  refine HC.out.mono ?_
  rintro e w4 ⟨aE, cE, rfl, hie, hb⟩
  have HB4 := Lib.hid (HB3.out.trans (hb.mono HB3.out.size))
  have HPX4 := Lib.hid ((HPX3.out.keep hb).more hb.size)
  obtain ⟨bE, oE, rfl, hbE, hcE⟩ := hie (by decide)
  have hc0 : w4.cell? ⟨bE, oE, none⟩ = some (.int .i64 2) := hcE 0 (by decide)
  clear HC HB2 HK2 HPX HB3 HPX3 hb hie hcE
  have b5 := below_new w4 (.cells #[.int .i64 1, .int .i64 4, .int .i64 2, .int .i64 4] 45)
  have HC := Lib.hid (same_any [⟨1, 4⟩, ⟨2, 4⟩] [⟨1, 4⟩, ⟨2, 4⟩] aX (some ⟨w4.heap.size, 0, none⟩) cX 2 _ (by decide) (HPX4.out.keeps b5) (ps_two w4 ⟨1, 4⟩ ⟨2, 4⟩))
  have HB5 := Lib.hid (HB4.out.trans (b5.mono HB4.out.size))
  have hc5 : (w4.alloc (.cells #[.int .i64 1, .int .i64 4, .int .i64 2, .int .i64 4] 45)).cell? ⟨bE, oE, none⟩ = some (.int .i64 2) := Lib.cell?_alloc_some _ hc0
  clear b5
  go_wp2_with fail
  refine HC.out.mono ?_
  rintro e w6 ⟨rfl, d, rfl⟩
  have hc6 : ((w4.alloc (.cells #[.int .i64 1, .int .i64 4, .int .i64 2, .int .i64 4] 45)).drewN d).cell? ⟨bE, oE, none⟩ = some (.int .i64 2) := hc5
  go_wp2
  go_ret
  exact ⟨rfl, below_drews HB5.out d⟩
end Go.Proofs.Ytmbglghpnloggaa.Wal
