/- awake. -/
import Derived.Test.YtcbhjhhajeeimaaGreatEngB
namespace Go.Proofs.YtcbhjhhajeeimaaGreat.Eng
open Go.Proofs.YtcbhjhhajeeimaaGreat.Tri Go.Proofs.YtcbhjhhajeeimaaGreat.Lnk Go.Proofs.YtcbhjhhajeeimaaGreat.Prs Go.Proofs.YtcbhjhhajeeimaaGreat.Spa Go.Proofs.YtcbhjhhajeeimaaGreat.Reg Go.RowKit Go.Maps
set_option maxRecDepth 100000
set_option linter.unusedVariables false

abbrev exl : List Tx := [[97, 98], []]
abbrev exw (w : World) : World := (w.alloc (.cells #[.int .u8 97, .int .u8 98] 5 (2, 3))).alloc (.cells #[.slice (some ⟨w.heap.size, 0, none⟩) 2 2, .slice none 0 0] 23)
def exx (w : World) : List TxV := [⟨[97, 98], some ⟨w.heap.size, 0, none⟩, 2, fun e => by cases e⟩, ⟨[], none, 0, fun _ => rfl⟩]
theorem ex_ts (w : World) : Ts (exw w) (some ⟨w.heap.size + 1, 0, none⟩) (exx w) := by
  refine ⟨fun _ => ⟨_, _, rfl, by simp, fun i hi => ?_⟩, fun x hx => ?_⟩
  · have hh : (exw w).heap[w.heap.size + 1]? = some (.cells #[.slice (some ⟨w.heap.size, 0, none⟩) 2 2, .slice none 0 0] 23 (0, 0)) := by
      have := heap_alloc_new (w.alloc (.cells #[.int .u8 97, .int .u8 98] 5 (2, 3))) (.cells #[.slice (some ⟨w.heap.size, 0, none⟩) 2 2, .slice none 0 0] 23)
      simpa using this
    rw [cell_of_row _ _ _ _ 23 (0, 0) hh]
    have hi' : i < 2 := hi
    rcases i with _ | _ | i
    · rfl
    · rfl
    · omega
  · have b2 := below_new (w.alloc (.cells #[.int .u8 97, .int .u8 98] 5 (2, 3))) (.cells #[.slice (some ⟨w.heap.size, 0, none⟩) 2 2, .slice none 0 0] 23)
    have k1 := bs_lit_at w (w.heap.size) [97, 98] (2, 3) #[.int .u8 97, .int .u8 98] rfl rfl
    simp only [exx, List.mem_cons, List.not_mem_nil, or_false] at hx
    rcases hx with rfl | rfl
    · exact ((k1.keep b2).more b2.size)
    · exact fun h => absurd h (by simp)
theorem ex_below (w : World) : Below w.heap.size w (exw w) := ((Below.refl _ _).alloc (Nat.le_refl _) _).alloc (by simp) _
theorem ex_pats : (Pat.pats exl).length = 1 := by decide +kernel
theorem ex_find : findOf exl [97, 98] = [⟨0, 0⟩, ⟨0, 2⟩, ⟨1, 1⟩, ⟨2, 2⟩] := by decide +kernel
theorem ex_wrong : wrongI 3 exl = 0 ∧ wrongI 2 exl = 13 ∧ wrongI 4 exl = 11 := by decide +kernel
theorem ex_tot : tot exl ≤ 2000 := by decide
abbrev exs : List Pr := [⟨0, 0⟩, ⟨0, 2⟩, ⟨1, 1⟩, ⟨2, 2⟩]
/-- Pairs that are written out, in a block of their own. -/
theorem ps_four (w : World) : Ps (w.alloc (.cells #[.int .i64 0, .int .i64 0, .int .i64 0, .int .i64 2, .int .i64 1, .int .i64 1, .int .i64 2, .int .i64 2] 57)) (w.alloc (.cells #[.int .i64 0, .int .i64 0, .int .i64 0, .int .i64 2, .int .i64 1, .int .i64 1, .int .i64 2, .int .i64 2] 57)).heap.size (some ⟨w.heap.size, 0, none⟩) exs := fun _ => by
  refine ⟨w.heap.size, 0, rfl, by simp, fun i hi => ?_⟩
  have hh := heap_alloc_new w (.cells #[.int .i64 0, .int .i64 0, .int .i64 0, .int .i64 2, .int .i64 1, .int .i64 1, .int .i64 2, .int .i64 2] 57)
  have hi' : i < 4 := hi
  rw [cell_of_row _ _ _ _ 57 (0, 0) hh, cell_of_row _ _ _ _ 57 (0, 0) hh]
  rcases i with _ | _ | _ | _ | i
  · exact ⟨rfl, rfl⟩
  · exact ⟨rfl, rfl⟩
  · exact ⟨rfl, rfl⟩
  · exact ⟨rfl, rfl⟩
  · omega
set_option maxHeartbeats 8000000 in
theorem awake_any (w : World) : Calls Tryz.prog 8 #[] w fun e w' => e = .returned (.bool true) ∧ Below w.heap.size w w' := by
  have kc := fun (w : World) (C : Array Value) (n c : Nat) => Lib.run_convert_bytes_const (P := Tryz.prog) w 23 5 C n c Tryz.underlying23 Tryz.underlying5
  have k1 := fun (w : World) (o0 : Obj) (C : Array Value) (n c : Nat) => const_at (w.alloc o0) (w.heap.size + 1) (by simp) C n c
  have BU : Calls Tryz.prog 13 #[.slice (some ⟨w.heap.size + 1, 0, none⟩) 2 2] (exw w) (Pat.GivesSet (exw w) exl) :=
    Pat.of_any (exx w) (some ⟨w.heap.size + 1, 0, none⟩) 2 (exw w) (ex_ts w) (by show 2 ≤ 100000000; decide) (by intro x hx; simp only [exx, List.mem_cons, List.not_mem_nil, or_false] at hx; rcases hx with rfl | rfl <;> (show List.length _ ≤ 1000000000; simp))
  go_enter Tryz.func8, Tryz.ntmps8
  go_wp2_with fail
  refine BU.mono ?_
  rintro e w0 ⟨m, a, c, rfl, hset, hb⟩
  rw [ex_pats]
  have HB0 := Lib.hid ((ex_below w).trans (hb.mono (ex_below w).size))
  have HEN : Hid (∀ X, Below w0.heap.size w0 X → ∀ tag : Int, (Lit.int .i64 tag).wf = true → Calls Tryz.prog 12 #[.int .i64 tag, .agg #[.map m, .slice a 1 c]] X (GivesEn X tag exl)) := Lib.hid fun X hX tag ht => by
    have := enew_any X tag ht m a c exl (hset.keep hX) (by decide) (by intro x hx; simp only [exl, List.mem_cons, List.not_mem_nil, or_false] at hx; rcases hx with rfl | rfl <;> simp) ex_tot
    rwa [ex_pats] at this
  clear BU hb hset k1
  obtain ⟨c0, c1⟩ := (Pat.Blk2.new w0 38 (.map m) (.slice a 1 c)).cells
  have hb1 := below_new w0 (.cells #[.map m, .slice a 1 c] 38)
  have hlt : w0.heap.size < (w0.alloc (.cells #[.map m, .slice a 1 c] 38)).heap.size := by simp
  generalize hw1 : w0.alloc (.cells #[.map m, .slice a 1 c] 38) = w1 at *
  go_wp2_with fail
  refine (HEN.out w1 hb1 3 (by decide)).mono ?_
  rintro e w2 ⟨p, rfl, _, hp, hb2⟩
  rw [ex_wrong.1]
  have HP := Lib.hid (hp ex_wrong.1)
  obtain ⟨gp, rfl⟩ := HP.out.some
  have HB2 := Lib.hid (hb1.trans (hb2.mono hb1.size))
  have d0 := (hb2.cell (p := ⟨w0.heap.size, 0, none⟩) hlt).trans c0
  have d1 := (hb2.cell (p := ⟨w0.heap.size, 1, none⟩) hlt).trans c1
  have hlt2 := Nat.lt_of_lt_of_le hlt hb2.size
  clear hp hb2 hb1 c0 c1 hlt hw1
  go_wp2_with fail
  refine (HEN.out w2 HB2.out 2 (by decide)).mono ?_
  rintro e w3 ⟨p3, rfl, hp3, _, hb3⟩
  rw [ex_wrong.2.1]
  have HB3 := Lib.hid (HB2.out.trans (hb3.mono HB2.out.size))
  have HP3 := Lib.hid (HP.out.keep hb3)
  have e0 := (hb3.cell (p := ⟨w0.heap.size, 0, none⟩) hlt2).trans d0
  have e1 := (hb3.cell (p := ⟨w0.heap.size, 1, none⟩) hlt2).trans d1
  clear hp3 hb3 d0 d1 hlt2 HB2 HP
  go_wp2_with fail
  refine (HEN.out w3 HB3.out 4 (by decide)).mono ?_
  rintro e w4 ⟨p4, rfl, hp4, _, hb4⟩
  rw [ex_wrong.2.2]
  have HB4 := Lib.hid (HB3.out.trans (hb4.mono HB3.out.size))
  have HP4 := Lib.hid (HP3.out.keep hb4)
  clear hp4 hb4 e0 e1 HB3 HP3 HEN
  have HFD : Hid (Calls Tryz.prog 17 #[.pointer (some gp), .pointer none, .slice (some ⟨w4.heap.size, 0, none⟩) 2 2] (w4.alloc (.cells #[.int .u8 97, .int .u8 98] 5 (2, 3))) (Scans (w4.alloc (.cells #[.int .u8 97, .int .u8 98] 5 (2, 3))) none [⟨0, 0⟩, ⟨0, 2⟩, ⟨1, 1⟩, ⟨2, 2⟩] 0 0 0 0)) := Lib.hid (by
    have := efind_any (w4.alloc (.cells #[.int .u8 97, .int .u8 98] 5 (2, 3))) (some gp) 3 exl (HP4.out.keep (below_new _ _)) none [97, 98] (some ⟨w4.heap.size, 0, none⟩) 2 (bs_lit w4 [97, 98] (2, 3) #[.int .u8 97, .int .u8 98] rfl) (by decide) (fun h => by cases h) (by decide) 0 0 0 0 (.inl rfl) (by omega) (by omega) (by omega) (by omega)
    rw [ex_find] at this
    exact this)
  have HB5 := Lib.hid (HB4.out.alloc HB4.out.size (.cells #[.int .u8 97, .int .u8 98] 5 (2, 3)))
  have HP5 := Lib.hid (HP4.out.keep (below_new w4 (.cells #[.int .u8 97, .int .u8 98] 5 (2, 3))))
  clear HB4 HP4
  go_wp2_with fail
  refine HFD.out.mono ?_
  rintro e w6 ⟨A, cA, rfl, hpA, _, _, hg⟩
  have hb6 := Met.below_none hg
  have HB6 := Lib.hid (HB5.out.trans (hb6.mono HB5.out.size))
  have HP6 := Lib.hid (HP5.out.keep hb6)
  have HPA := Lib.hid hpA
  clear hg hb6 HB5 HP5 HFD hpA
  go_wp2_with (first
    | (go_at_call 15; (with_reducible refine (eis_any w6 3 (by decide)).mono ?_); rintro e w7 ⟨rfl, hb7⟩; have HB7 := Lib.hid (HB6.out.trans (hb7.mono HB6.out.size)); have HP7 := Lib.hid (HP6.out.keep hb7); have HPA7 := Lib.hid ((HPA.out.keep hb7).more hb7.size); have HI8 := Lib.hid (eis_any w7 (-1) (by decide)); clear hb7)
    | (go_at_call 15; (with_reducible refine HI8.out.mono ?_); rintro e w8 ⟨rfl, hb8⟩; have HB8 := Lib.hid (HB7.out.trans (hb8.mono HB7.out.size)); have HPA8 := Lib.hid ((HPA7.out.keep hb8).more hb8.size); have HT8 := Lib.hid (etag_any w8 _ _ _ (HP7.out.keep hb8)); clear hb8)
    | (go_at_call 19; (with_reducible refine HT8.out.mono ?_); rintro e w9 ⟨rfl, hb9⟩; have HB9 := Lib.hid (HB8.out.trans (hb9.mono HB8.out.size)); have HPA9 := Lib.hid ((HPA8.out.keep hb9).more hb9.size); clear hb9))
  have b10 := below_new w9 (.cells #[.int .i64 0, .int .i64 0, .int .i64 0, .int .i64 2, .int .i64 1, .int .i64 1, .int .i64 2, .int .i64 2] 57)
  have HC := Lib.hid (same_any exs exs A (some ⟨w9.heap.size, 0, none⟩) cA 4 _ (by decide) ((HPA9.out.keep b10).more b10.size) (ps_four w9))
  have HB10 := Lib.hid (HB9.out.trans (b10.mono HB9.out.size))
  clear b10
  go_wp2_with fail
  refine HC.out.mono ?_
  rintro e w11 ⟨rfl, d, rfl⟩
  go_wp2
  go_ret
  exact ⟨rfl, below_drews (HB0.out.trans (HB10.out.mono HB0.out.size)) d⟩
end Go.Proofs.YtcbhjhhajeeimaaGreat.Eng
