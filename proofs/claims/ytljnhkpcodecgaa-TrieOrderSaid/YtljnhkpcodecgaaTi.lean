/- The contract of 'awake': the document's example. -/
import Derived.Test.YtljnhkpcodecgaaTh
namespace Go.Proofs.Ytljnhkpcodecgaa.Tri
open Go.RowKit Go.Maps

abbrev exl : List Tx := [[97, 98], [97], [98]]
abbrev exp : List Tx := [[], [97], [97, 98], [98]]
theorem ex_paths : paths exl = exp := by decide
theorem ex_step0 : stepOf exp 0 97 = 1 := by decide
theorem ex_step1 : stepOf exp 1 98 = 2 := by decide
theorem ex_b : place exp [98] = 3 := by decide
theorem ex_c : place exp [99] = -1 := by decide
theorem ex_word : wordOf exp exl 1 = 1 := by decide
theorem ex_up : upOf exp 2 = 1 := by decide
theorem ex_path : pathD exp 2 = [97, 98] := by decide
theorem ex_kids : kidsOf exp 0 = [97, 98] := by kernel_rfl
theorem const_at (w : World) (g : Nat) (hg : g = w.heap.size) (C : Array Value) (n c : Nat) :
    (convert 32 32 (.slice (some ⟨g, 0, none⟩) n c)).run Try.prog (w.alloc (.cells C 5)) = .ok (.slice (some ⟨g, 0, none⟩) n c) (w.alloc (.cells C 5 (C.size, C.size + 1))) := by
  subst hg
  exact Lib.run_convert_bytes_const w 32 5 C n c Try.underlying32 Try.underlying5
theorem bs_lit_at (w : World) (g : Nat) (l : List UInt8) (fr : Nat × Nat) (cs : Array Value) (hg : g = w.heap.size) (hcs : cs = (l.map fun c => Value.int .u8 (c.toNat : Int)).toArray) :
    Bs (w.alloc (.cells cs 5 fr)) (w.alloc (.cells cs 5 fr)).heap.size (some ⟨g, 0, none⟩) l := by
  subst hg; exact bs_lit w l fr cs hcs
theorem below_new (w : World) (x : Obj) : Below w.heap.size w (w.alloc x) := (Below.refl _ _).alloc (Nat.le_refl _) _
abbrev exw (w : World) : World := (((w.alloc (.cells #[.int .u8 97, .int .u8 98] 5 (2, 3))).alloc (.cells #[.int .u8 97] 5 (1, 2))).alloc (.cells #[.int .u8 98] 5 (1, 2))).alloc
  (.cells #[.slice (some ⟨w.heap.size, 0, none⟩) 2 2, .slice (some ⟨w.heap.size + 1, 0, none⟩) 1 1, .slice (some ⟨w.heap.size + 1 + 1, 0, none⟩) 1 1] 32)
def exx (w : World) : List TxV := [⟨[97, 98], some ⟨w.heap.size, 0, none⟩, 2, fun e => by cases e⟩, ⟨[97], some ⟨w.heap.size + 1, 0, none⟩, 1, fun e => by cases e⟩, ⟨[98], some ⟨w.heap.size + 1 + 1, 0, none⟩, 1, fun e => by cases e⟩]
theorem ex_ts (w : World) : Ts (exw w) (some ⟨w.heap.size + 1 + 1 + 1, 0, none⟩) (exx w) := by
  refine ⟨fun _ => ⟨_, _, rfl, by simp, fun i hi => ?_⟩, fun x hx => ?_⟩
  · have hh : (exw w).heap[w.heap.size + 1 + 1 + 1]? = some (.cells #[.slice (some ⟨w.heap.size, 0, none⟩) 2 2, .slice (some ⟨w.heap.size + 1, 0, none⟩) 1 1, .slice (some ⟨w.heap.size + 1 + 1, 0, none⟩) 1 1] 32 (0, 0)) := by
      have := heap_alloc_new (((w.alloc (.cells #[.int .u8 97, .int .u8 98] 5 (2, 3))).alloc (.cells #[.int .u8 97] 5 (1, 2))).alloc (.cells #[.int .u8 98] 5 (1, 2))) (.cells #[.slice (some ⟨w.heap.size, 0, none⟩) 2 2, .slice (some ⟨w.heap.size + 1, 0, none⟩) 1 1, .slice (some ⟨w.heap.size + 1 + 1, 0, none⟩) 1 1] 32)
      simpa using this
    rw [cell_of_row _ _ _ _ 32 (0, 0) hh]
    have hi' : i < 3 := hi
    rcases i with _ | _ | _ | i
    · rfl
    · rfl
    · rfl
    · omega
  · have b1 := below_new w (.cells #[.int .u8 97, .int .u8 98] 5 (2, 3))
    have b2 := below_new (w.alloc (.cells #[.int .u8 97, .int .u8 98] 5 (2, 3))) (.cells #[.int .u8 97] 5 (1, 2))
    have b3 := below_new ((w.alloc (.cells #[.int .u8 97, .int .u8 98] 5 (2, 3))).alloc (.cells #[.int .u8 97] 5 (1, 2))) (.cells #[.int .u8 98] 5 (1, 2))
    have b4 := below_new (((w.alloc (.cells #[.int .u8 97, .int .u8 98] 5 (2, 3))).alloc (.cells #[.int .u8 97] 5 (1, 2))).alloc (.cells #[.int .u8 98] 5 (1, 2))) (.cells #[.slice (some ⟨w.heap.size, 0, none⟩) 2 2, .slice (some ⟨w.heap.size + 1, 0, none⟩) 1 1, .slice (some ⟨w.heap.size + 1 + 1, 0, none⟩) 1 1] 32)
    have k1 := bs_lit_at w w.heap.size [97, 98] (2, 3) #[.int .u8 97, .int .u8 98] rfl rfl
    have k2 := bs_lit_at (w.alloc (.cells #[.int .u8 97, .int .u8 98] 5 (2, 3))) (w.heap.size + 1) [97] (1, 2) #[.int .u8 97] (by simp) rfl
    have k3 := bs_lit_at ((w.alloc (.cells #[.int .u8 97, .int .u8 98] 5 (2, 3))).alloc (.cells #[.int .u8 97] 5 (1, 2))) (w.heap.size + 1 + 1) [98] (1, 2) #[.int .u8 98] (by simp) rfl
    simp only [exx, List.mem_cons, List.not_mem_nil, or_false] at hx
    rcases hx with rfl | rfl | rfl
    · exact ((((((k1.keep b2).more b2.size).keep b3).more b3.size).keep b4).more b4.size)
    · exact ((((k2.keep b3).more b3.size).keep b4).more b4.size)
    · exact ((k3.keep b4).more b4.size)
theorem ex_below (w : World) : Below w.heap.size w (exw w) := ((((Below.refl _ _).alloc (Nat.le_refl _) _).alloc (by simp) _).alloc (by simp; omega) _).alloc (by simp; omega) _
set_option maxRecDepth 100000 in
set_option maxHeartbeats 8000000 in
theorem awake_any (w : World) : Calls Try.prog 9 #[] w fun e w' => e = .returned (.bool true) ∧ Below w.heap.size w w' := by
  have kc := fun (w : World) (C : Array Value) (n c : Nat) => Lib.run_convert_bytes_const (P := Try.prog) w 32 5 C n c Try.underlying32 Try.underlying5
  have kd := fun (w : World) (o : Obj) (C : Array Value) (n c : Nat) => const_at (w.alloc o) (w.heap.size + 1) (by simp) C n c
  have ke := fun (w : World) (o o' : Obj) (C : Array Value) (n c : Nat) => const_at ((w.alloc o).alloc o') (w.heap.size + 1 + 1) (by simp) C n c
  go_enter Try.func9, Try.ntmps9
  have BU : Calls Try.prog 11 #[.slice (some ⟨w.heap.size + 1 + 1 + 1, 0, none⟩) 3 3] (exw w) (GivesTr (exw w) exp exl) := by
    have := build_any (exw w) (exx w) (some ⟨w.heap.size + 1 + 1 + 1, 0, none⟩) 3 (ex_ts w) (by show 3 ≤ 1000000; decide) (by show tot exl ≤ _; decide)
    rw [show (exx w).map TxV.text = exl from rfl, ex_paths] at this
    exact this
  go_wp2_with fail
  refine BU.mono ?_
  rintro e w0 ⟨t, rfl, ht, hb⟩
  have HB0 := Lib.hid ((ex_below w).trans (hb.mono (ex_below w).size))
  generalize (exw w).heap.size = s at *
  have HT0 := Lib.hid ht
  clear BU ht hb kd ke
  have C : Calls Try.prog 13 #[.pointer (some ⟨t, 0, none⟩)] w0 fun e w' => e = .returned (.int .i64 4) ∧ w0 = w' := nodes_any w0 s t exp exl HT0.out
  go_wp2_with fail
  refine C.mono ?_
  rintro e w1 ⟨rfl, rfl⟩
  clear C
  have C : Calls Try.prog 21 #[.pointer (some ⟨t, 0, none⟩), .int .i64 0, .int .u8 97] w0 fun e w' => e = .returned (.int .i64 1) ∧ w0 = w' := by have := step_any w0 s t exp exl HT0.out 0 (by decide) 97; rw [ex_step0] at this; exact this
  go_wp2_with fail
  refine C.mono ?_
  rintro e w1 ⟨rfl, rfl⟩
  clear C
  have C : Calls Try.prog 21 #[.pointer (some ⟨t, 0, none⟩), .int .i64 1, .int .u8 98] w0 fun e w' => e = .returned (.int .i64 2) ∧ w0 = w' := by have := step_any w0 s t exp exl HT0.out 1 (by decide) 98; rw [ex_step1] at this; exact this
  go_wp2_with fail
  refine C.mono ?_
  rintro e w1 ⟨rfl, rfl⟩
  clear C
  have C : Calls Try.prog 22 #[.pointer (some ⟨t, 0, none⟩), .slice (some ⟨w0.heap.size, 0, none⟩) 1 1] (w0.alloc (.cells #[.int .u8 98] 5 (1, 2))) fun e w' => e = .returned (.int .i64 3) ∧ w0.alloc (.cells #[.int .u8 98] 5 (1, 2)) = w' := by
    have := find_any _ s t exp exl (HT0.out.keep (below_new _ _)) [98] (some ⟨w0.heap.size, 0, none⟩) 1 _ (bs_lit w0 [98] (1, 2) #[.int .u8 98] rfl) (by decide)
    rw [ex_b] at this
    exact this
  go_wp2_with fail
  refine C.mono ?_
  rintro e w' ⟨rfl, rfl⟩
  have HT1 := Lib.hid (HT0.out.keep (below_new w0 (.cells #[.int .u8 98] 5 (1, 2))))
  have HB1 := Lib.hid (HB0.out.alloc HB0.out.size (.cells #[.int .u8 98] 5 (1, 2)))
  clear C HT0 HB0
  generalize w0.alloc (.cells #[.int .u8 98] 5 (1, 2)) = w1 at *
  have C : Calls Try.prog 22 #[.pointer (some ⟨t, 0, none⟩), .slice (some ⟨w1.heap.size, 0, none⟩) 1 1] (w1.alloc (.cells #[.int .u8 99] 5 (1, 2))) fun e w' => e = .returned (.int .i64 (-1)) ∧ w1.alloc (.cells #[.int .u8 99] 5 (1, 2)) = w' := by
    have := find_any _ s t exp exl (HT1.out.keep (below_new _ _)) [99] (some ⟨w1.heap.size, 0, none⟩) 1 _ (bs_lit w1 [99] (1, 2) #[.int .u8 99] rfl) (by decide)
    rw [ex_c] at this
    exact this
  go_wp2_with fail
  refine C.mono ?_
  rintro e w' ⟨rfl, rfl⟩
  have HT2 := Lib.hid (HT1.out.keep (below_new w1 (.cells #[.int .u8 99] 5 (1, 2))))
  have HB2 := Lib.hid (HB1.out.alloc HB1.out.size (.cells #[.int .u8 99] 5 (1, 2)))
  clear C HT1 HB1
  generalize w1.alloc (.cells #[.int .u8 99] 5 (1, 2)) = w2 at *
  have C : Calls Try.prog 18 #[.pointer (some ⟨t, 0, none⟩), .int .i64 1] w2 fun e w' => e = .returned (.int .i64 1) ∧ Below w2.heap.size w2 w' := by have := word_any w2 s t exp exl HT2.out 1; rw [ex_word] at this; exact this
  go_wp2_with fail
  refine C.mono ?_
  rintro e w3 ⟨rfl, hb⟩
  have HT3 := Lib.hid (HT2.out.keep hb)
  have HB3 := Lib.hid (HB2.out.trans (hb.mono HB2.out.size))
  clear C hb HT2 HB2
  have C : Calls Try.prog 17 #[.pointer (some ⟨t, 0, none⟩), .int .i64 2] w3 fun e w' => e = .returned (.int .i64 1) ∧ Below w3.heap.size w3 w' := by have := parent_any w3 s t exp exl HT3.out 2; rw [ex_up] at this; exact this
  go_wp2_with fail
  refine C.mono ?_
  rintro e w4 ⟨rfl, hb⟩
  have HT4 := Lib.hid (HT3.out.keep hb)
  have HB4 := Lib.hid (HB3.out.trans (hb.mono HB3.out.size))
  clear C hb HT3 HB3
  have C : Calls Try.prog 16 #[.pointer (some ⟨t, 0, none⟩), .int .i64 2] w4 fun e w' => e = .returned (.int .i64 2) ∧ Below w4.heap.size w4 w' := by have := depth_any w4 s t exp exl HT4.out 2; rw [ex_path] at this; exact this
  go_wp2_with fail
  refine C.mono ?_
  rintro e w5 ⟨rfl, hb⟩
  have HT5 := Lib.hid (HT4.out.keep hb)
  have HB5 := Lib.hid (HB4.out.trans (hb.mono HB4.out.size))
  clear C hb HT4 HB4
  have C : Calls Try.prog 15 #[.pointer (some ⟨t, 0, none⟩), .int .i64 2] w5 (GivesText w5 [97, 98]) := by
    have := path_any w5 s t exp exl HT5.out 2 (by decide)
    rw [ex_path] at this
    exact this
  go_wp2_with fail
  refine C.mono ?_
  rintro e w6 ⟨ax, cx, rfl, htx, _, _, hb⟩
  have hcv : (convert 32 9 (.slice ax 2 cx)).run Try.prog w6 = .ok (.string ⟨#[97, 98]⟩) w6 := str_of_bs (l := [97, 98]) cx htx.bs
  have HT6 := Lib.hid (HT5.out.keep hb)
  have HB6 := Lib.hid (HB5.out.trans (hb.mono HB5.out.size))
  clear C hb HT5 HB5 htx
  have C : Calls Try.prog 19 #[.pointer (some ⟨t, 0, none⟩), .int .i64 0] w6 (GivesText w6 [97, 98]) := by
    have := kids_any w6 s t exp exl HT6.out 0 (by decide)
    rw [ex_kids] at this
    exact this
  go_wp2_with fail
  refine C.mono ?_
  rintro e w7 ⟨ax, cx, rfl, htx, _, _, hb⟩
  have hcv : (convert 32 9 (.slice ax 2 cx)).run Try.prog w7 = .ok (.string ⟨#[97, 98]⟩) w7 := str_of_bs (l := [97, 98]) cx htx.bs
  have HT7 := Lib.hid (HT6.out.keep hb)
  have HB7 := Lib.hid (HB6.out.trans (hb.mono HB6.out.size))
  clear C hb HT6 HB6 htx
  go_wp2
  go_ret
  exact ⟨rfl, HB7.out⟩
end Go.Proofs.Ytljnhkpcodecgaa.Tri
