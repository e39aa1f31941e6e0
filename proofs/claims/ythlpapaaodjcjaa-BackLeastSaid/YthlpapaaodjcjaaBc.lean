/- awake. -/
import Derived.Test.YthlpapaaodjcjaaBb
namespace Go.Proofs.Ythlpapaaodjcjaa.Bck
open Go.Proofs.Ythlpapaaodjcjaa.Tri Go.Proofs.Ythlpapaaodjcjaa.Cwl Go.Proofs.Ythlpapaaodjcjaa.Bck Go.Proofs.Ythlpapaaodjcjaa.Reg Go.RowKit Go.Maps
set_option maxRecDepth 100000
set_option linter.unusedVariables false

theorem const_at (w : World) (g : Nat) (hg : g = w.heap.size) (C : Array Value) (n c : Nat) :
    (convert 35 35 (.slice (some ⟨g, 0, none⟩) n c)).run Try.prog (w.alloc (.cells C 5)) = .ok (.slice (some ⟨g, 0, none⟩) n c) (w.alloc (.cells C 5 (C.size, C.size + 1))) := by
  subst hg
  exact Lib.run_convert_bytes_const w 35 5 C n c Try.underlying35 Try.underlying5
theorem bs_lit_at (w : World) (g : Nat) (l : List UInt8) (fr : Nat × Nat) (cs : Array Value) (hg : g = w.heap.size) (hcs : cs = (l.map fun c => Value.int .u8 (c.toNat : Int)).toArray) :
    Bs (w.alloc (.cells cs 5 fr)) (w.alloc (.cells cs 5 fr)).heap.size (some ⟨g, 0, none⟩) l := by
  subst hg; exact bs_lit w l fr cs hcs
theorem below_new (w : World) (x : Obj) : Below w.heap.size w (w.alloc x) := (Below.refl _ _).alloc (Nat.le_refl _) _
abbrev exl : List Tx := [[99, 97, 98], [98]]
abbrev exw (w : World) : World := ((w.alloc (.cells #[.int .u8 99, .int .u8 97, .int .u8 98] 5 (3, 4))).alloc (.cells #[.int .u8 98] 5 (1, 2))).alloc (.cells #[.slice (some ⟨w.heap.size, 0, none⟩) 3 3, .slice (some ⟨w.heap.size + 1, 0, none⟩) 1 1] 35)
def exx (w : World) : List TxV := [⟨[99, 97, 98], some ⟨w.heap.size, 0, none⟩, 3, fun e => by cases e⟩, ⟨[98], some ⟨w.heap.size + 1, 0, none⟩, 1, fun e => by cases e⟩]
theorem ex_ts (w : World) : Ts (exw w) (some ⟨w.heap.size + 1 + 1, 0, none⟩) (exx w) := by
  refine ⟨fun _ => ⟨_, _, rfl, by simp, fun i hi => ?_⟩, fun x hx => ?_⟩
  · have hh : (exw w).heap[w.heap.size + 1 + 1]? = some (.cells #[.slice (some ⟨w.heap.size, 0, none⟩) 3 3, .slice (some ⟨w.heap.size + 1, 0, none⟩) 1 1] 35 (0, 0)) := by
      have := heap_alloc_new ((w.alloc (.cells #[.int .u8 99, .int .u8 97, .int .u8 98] 5 (3, 4))).alloc (.cells #[.int .u8 98] 5 (1, 2))) (.cells #[.slice (some ⟨w.heap.size, 0, none⟩) 3 3, .slice (some ⟨w.heap.size + 1, 0, none⟩) 1 1] 35)
      simpa using this
    rw [cell_of_row _ _ _ _ 35 (0, 0) hh]
    have hi' : i < 2 := hi
    rcases i with _ | _ | i
    · rfl
    · rfl
    · omega
  · have b1 := below_new w (.cells #[.int .u8 99, .int .u8 97, .int .u8 98] 5 (3, 4))
    have b2 := below_new (w.alloc (.cells #[.int .u8 99, .int .u8 97, .int .u8 98] 5 (3, 4))) (.cells #[.int .u8 98] 5 (1, 2))
    have b3 := below_new ((w.alloc (.cells #[.int .u8 99, .int .u8 97, .int .u8 98] 5 (3, 4))).alloc (.cells #[.int .u8 98] 5 (1, 2))) (.cells #[.slice (some ⟨w.heap.size, 0, none⟩) 3 3, .slice (some ⟨w.heap.size + 1, 0, none⟩) 1 1] 35)
    have k1 := bs_lit_at w (w.heap.size) [99, 97, 98] (3, 4) #[.int .u8 99, .int .u8 97, .int .u8 98] rfl rfl
    have k2 := bs_lit_at (w.alloc (.cells #[.int .u8 99, .int .u8 97, .int .u8 98] 5 (3, 4))) (w.heap.size + 1) [98] (1, 2) #[.int .u8 98] (by simp) rfl
    simp only [exx, List.mem_cons, List.not_mem_nil, or_false] at hx
    rcases hx with rfl | rfl
    · exact ((((k1.keep b2).more b2.size).keep b3).more b3.size)
    · exact ((k2.keep b3).more b3.size)
theorem ex_below (w : World) : Below w.heap.size w (exw w) := ((((Below.refl _ _).alloc (Nat.le_refl _) _).alloc (by simp) _).alloc (by simp; omega) _)
theorem ex_turned : turned exl = [[98, 97, 99], [98]] := by decide
theorem ex_paths : paths (turned exl) = [[], [98], [98, 97], [98, 97, 99]] := by decide
theorem ex_least : Cwl.leastOf (turned exl) = 1 := by decide
theorem ex_p1 : decide (pathD (paths (turned exl)) 1 ∈ turned exl) = true := by decide
theorem ex_p2 : decide (pathD (paths (turned exl)) 2 ∈ turned exl) = false := by decide
theorem ex_p3 : decide (pathD (paths (turned exl)) 3 ∈ turned exl) = true := by decide
theorem ex_e3 : (pathD (paths (turned exl)) 3).reverse = [99, 97, 98] := by decide
theorem ex_na : nearOf (turned exl) 97 = 2 := by decide
theorem ex_nx : nearOf (turned exl) 120 = 0 := by decide
set_option maxHeartbeats 8000000 in
theorem awake_any (w : World) : Calls Try.prog 8 #[] w fun e w' => e = .returned (.bool true) ∧ Below w.heap.size w w' := by
  have kc := fun (w : World) (C : Array Value) (n c : Nat) => Lib.run_convert_bytes_const (P := Try.prog) w 35 5 C n c Try.underlying35 Try.underlying5
  have k1 := fun (w : World) (o0 : Obj) (C : Array Value) (n c : Nat) => const_at (w.alloc o0) (w.heap.size + 1) (by simp) C n c
  go_enter Try.func8, Try.ntmps8
  have BU : Calls Try.prog 10 #[.slice (some ⟨w.heap.size + 1 + 1, 0, none⟩) 2 2] (exw w) (GivesBk (exw w) exl) :=
    bbuild_any (exw w) (exx w) (some ⟨w.heap.size + 1 + 1, 0, none⟩) 2 (ex_ts w) (by show 2 ≤ 1000; decide) (by intro x hx; simp only [exx, List.mem_cons, List.not_mem_nil, or_false] at hx; rcases hx with rfl | rfl <;> (show List.length _ ≤ 1000; simp))
  go_wp2_with fail
  refine BU.mono ?_
  rintro e w0 ⟨x, rfl, hk, hb⟩
  have HB0 := Lib.hid ((ex_below w).trans (hb.mono (ex_below w).size))
  generalize (exw w).heap.size = s at *
  obtain ⟨t, hc0, htr⟩ := hk.tree
  have HK0 := Lib.hid hk
  have C : Calls Try.prog 13 #[.pointer (some ⟨t, 0, none⟩)] w0 fun e w' => e = .returned (.int .i64 4) ∧ w0 = w' := by
    have := nodes_any w0 s t _ _ htr
    rw [ex_paths] at this
    exact this
  have HC := Lib.hid C
  clear BU hk hb htr C k1
  go_wp2_with fail
  refine HC.out.mono ?_
  rintro e w1 ⟨rfl, rfl⟩
  clear HC
  have C : Calls Try.prog 17 #[.pointer (some ⟨x, 0, none⟩), .int .i64 3] w0 (GivesText w0 [99, 97, 98]) := by
    have := bend_any w0 x exl HK0.out 3 (by decide)
    rw [ex_e3] at this
    exact this
  go_wp2_with fail
  refine C.mono ?_
  rintro e w1 ⟨ax1, cx1, rfl, htx1, _, _, hb⟩
  have HK1 := Lib.hid (HK0.out.keep hb)
  have HB1 := Lib.hid (HB0.out.trans (hb.mono HB0.out.size))
  have hcv1 : (convert 35 9 (.slice ax1 3 cx1)).run Try.prog w1 = .ok (.string ⟨#[99, 97, 98]⟩) w1 := str_of_bs (l := [99, 97, 98]) cx1 htx1.bs
  clear C hb HK0 HB0 htx1
  have C : Calls Try.prog 19 #[.pointer (some ⟨x, 0, none⟩), .int .i64 1] w1 (fun e w' => e = .returned (.bool true) ∧ Below w1.heap.size w1 w') := by
    have := bwhole_any w1 x exl HK1.out 1 (by decide)
    rw [ex_p1] at this
    exact this
  go_wp2_with fail
  refine C.mono ?_
  rintro e w2 ⟨rfl, hb⟩
  have HK2 := Lib.hid (HK1.out.keep hb)
  have HB2 := Lib.hid (HB1.out.trans (hb.mono HB1.out.size))
  clear C hb HK1 HB1
  have C : Calls Try.prog 19 #[.pointer (some ⟨x, 0, none⟩), .int .i64 2] w2 (fun e w' => e = .returned (.bool false) ∧ Below w2.heap.size w2 w') := by
    have := bwhole_any w2 x exl HK2.out 2 (by decide)
    rw [ex_p2] at this
    exact this
  go_wp2_with fail
  refine C.mono ?_
  rintro e w3 ⟨rfl, hb⟩
  have HK3 := Lib.hid (HK2.out.keep hb)
  have HB3 := Lib.hid (HB2.out.trans (hb.mono HB2.out.size))
  clear C hb HK2 HB2
  have C : Calls Try.prog 19 #[.pointer (some ⟨x, 0, none⟩), .int .i64 3] w3 (fun e w' => e = .returned (.bool true) ∧ Below w3.heap.size w3 w') := by
    have := bwhole_any w3 x exl HK3.out 3 (by decide)
    rw [ex_p3] at this
    exact this
  go_wp2_with fail
  refine C.mono ?_
  rintro e w4 ⟨rfl, hb⟩
  have HK4 := Lib.hid (HK3.out.keep hb)
  have HB4 := Lib.hid (HB3.out.trans (hb.mono HB3.out.size))
  clear C hb HK3 HB3
  have C : Calls Try.prog 14 #[.pointer (some ⟨x, 0, none⟩)] w4 (fun e w' => e = .returned (.int .i64 1) ∧ Below w4.heap.size w4 w') := by
    have := bleast_any w4 x exl HK4.out
    rw [ex_least] at this
    exact this
  go_wp2_with fail
  refine C.mono ?_
  rintro e w5 ⟨rfl, hb⟩
  have HK5 := Lib.hid (HK4.out.keep hb)
  have HB5 := Lib.hid (HB4.out.trans (hb.mono HB4.out.size))
  clear C hb HK4 HB4
  have C : Calls Try.prog 21 #[.pointer (some ⟨x, 0, none⟩), .int .u8 97] w5 (fun e w' => e = .returned (.int .i64 2) ∧ Below w5.heap.size w5 w') := by
    have := bnear_any w5 x exl HK5.out 97
    rw [ex_na] at this
    exact this
  go_wp2_with fail
  refine C.mono ?_
  rintro e w6 ⟨rfl, hb⟩
  have HK6 := Lib.hid (HK5.out.keep hb)
  have HB6 := Lib.hid (HB5.out.trans (hb.mono HB5.out.size))
  clear C hb HK5 HB5
  have C : Calls Try.prog 21 #[.pointer (some ⟨x, 0, none⟩), .int .u8 120] w6 (fun e w' => e = .returned (.int .i64 0) ∧ Below w6.heap.size w6 w') := by
    have := bnear_any w6 x exl HK6.out 120
    rw [ex_nx] at this
    exact this
  go_wp2_with fail
  refine C.mono ?_
  rintro e w7 ⟨rfl, hb⟩
  have HK7 := Lib.hid (HK6.out.keep hb)
  have HB7 := Lib.hid (HB6.out.trans (hb.mono HB6.out.size))
  clear C hb HK6 HB6
  have C : Calls Try.prog 23 #[.slice (some ⟨w7.heap.size, 0, none⟩) 3 3] (w7.alloc (.cells #[.int .u8 97, .int .u8 98, .int .u8 99] 5 (3, 4))) (GivesText (w7.alloc (.cells #[.int .u8 97, .int .u8 98, .int .u8 99] 5 (3, 4))) [99, 98, 97]) :=
    turn_any _ [97, 98, 99] (some ⟨w7.heap.size, 0, none⟩) 3 (bs_lit w7 [97, 98, 99] (3, 4) #[.int .u8 97, .int .u8 98, .int .u8 99] rfl) (by decide)
  have HB8 := Lib.hid (HB7.out.alloc HB7.out.size (.cells #[.int .u8 97, .int .u8 98, .int .u8 99] 5 (3, 4)))
  go_wp2_with fail
  refine C.mono ?_
  rintro e v1 ⟨ax2, cx2, rfl, htx2, _, _, hb⟩
  have hcv2 : (convert 35 9 (.slice ax2 3 cx2)).run Try.prog v1 = .ok (.string ⟨#[99, 98, 97]⟩) v1 := str_of_bs (l := [99, 98, 97]) cx2 htx2.bs
  have HBV := Lib.hid (HB8.out.trans (hb.mono HB8.out.size))
  clear C hb htx2
  go_wp2
  go_ret
  exact ⟨rfl, HBV.out⟩
end Go.Proofs.Ythlpapaaodjcjaa.Bck
