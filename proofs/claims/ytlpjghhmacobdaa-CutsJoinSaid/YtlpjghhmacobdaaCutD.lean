/- The statements' own same; awake. -/
import Derived.Test.YtlpjghhmacobdaaCutC
namespace Go.Proofs.Ytlpjghhmacobdaa.Cts
open Go.Proofs.Ytlpjghhmacobdaa.Tri Go.Proofs.Ytlpjghhmacobdaa.Lnk Go.Proofs.Ytlpjghhmacobdaa.Reg Go.RowKit Go.Maps
set_option maxRecDepth 100000
set_option linter.unusedVariables false

set_option maxHeartbeats 4000000 in
theorem same_any (w : World) (xs : List TxV) (a : Option Addr) (c : Nat) (hs : Ts w a xs) (b : Option Addr) (d : Nat) (ht : Ss w b (xs.map TxV.text)) (hl : xs.length ≤ 1000000) (hx : ∀ x ∈ xs, x.text.length ≤ 1000000) :
    Calls Try.prog 8 #[.slice a xs.length c, .slice b xs.length d] w fun e w' => e = .returned (.bool true) ∧ Below w.heap.size w w' := by
  have HS := Lib.hid hs
  have HT := Lib.hid ht
  have HX := Lib.hid hx
  clear hs ht hx
  go_enter Try.func8, Try.ntmps8
  have hnn : ((xs.length : Int) != (xs.length : Int)) = false := by simp
  go_wp2_with fail
  go_loopw [5] (fun i wr => ∃ k : Nat, k ≤ xs.length ∧ i = .int .i64 (k : Int) ∧ Below w.heap.size w wr) (fun i _ => xs.length - (intOf i).toNat)
  case atStart => exact ⟨0, Nat.zero_le _, rfl, Below.refl _ _⟩
  case round =>
    obtain ⟨k, hk, rfl, hbel⟩ := hrel
    have HB := Lib.hid hbel
    clear hbel
    by_cases hlt : k < xs.length
    · have hkl : (k : Int) < (xs.length : Int) := by omega
      have hsz := HB.out.size
      obtain ⟨b1, o1, rfl, hb1, hc1⟩ := HS.out.1 (by omega)
      obtain ⟨b2, o2, rfl, hb2, hc2⟩ := HT.out (by rw [List.length_map]; omega)
      have HBR : Hid (Below wr.heap.size wr wr) := Lib.hid (Below.refl _ _)
      have L1 : Hid (∀ X, Below wr.heap.size wr X → X.cell? ⟨b1, o1 + k, none⟩ = some (.slice xs[k].a xs[k].text.length xs[k].cap)) := Lib.hid fun X h => ((HB.out.trans (h.mono hsz)).cell (p := ⟨b1, o1 + k, none⟩) hb1).trans (hc1 k hlt)
      have L2 : Hid (∀ X, Below wr.heap.size wr X → X.cell? ⟨b2, o2 + k, none⟩ = some (.string (str xs[k].text))) := Lib.hid fun X h => ((HB.out.trans (h.mono hsz)).cell (p := ⟨b2, o2 + k, none⟩) hb2).trans (by have := hc2 k (by rw [List.length_map]; exact hlt); rwa [List.getElem_map] at this)
      have V0 : Hid (∀ X, Below wr.heap.size wr X → (convert 22 9 (.slice xs[k].a xs[k].text.length xs[k].cap)).run Try.prog X = .ok (.string (str xs[k].text)) X) := Lib.hid fun X h => str_of_bs xs[k].cap ((HS.out.2 _ (List.getElem_mem hlt)).keep (HB.out.trans (h.mono hsz)))
      clear hc1 hc2 hsz
      generalize xs[k].text = y at *
      generalize xs[k].a = ay at *
      generalize xs[k].cap = cy at *
      have n0 : ((str y).toList != (str y).toList) = false := by simp
      go_wp2_with fail
      refine wp_region_held_drew (S := fun w' => Below wr.drew.heap.size wr.drew w') (by kernel_rfl) (Below.refl _ _) (fun hH0 => ?_)
      have B0 := Lib.hid (below_drews HBR.out 1)
      change Hid (Below _ _ wr.drew) at B0
      generalize wr.drew = x0 at *
      refine held_take (i := 0) (d := 17) (oi := _) (v := ?_) rfl rfl (by kernel_rfl) (by kernel_rfl) (by kernel_rfl) (fun _ _ _ h => h) (Or.inl ⟨by rfl, ?_⟩) (by assumption) ?_
      rotate_left
      · (intro w hSw; clear hSw; go_simp; (try with_reducible rfl))
      simp only [Act.put, List.setIfInBounds_toArray, List.set_cons_zero, List.set_cons_succ]
      refine held_take (i := 1) (d := 18) (oi := _) (v := ?_) rfl rfl (by kernel_rfl) (by kernel_rfl) (by kernel_rfl) (fun _ _ _ h => h) (Or.inl ⟨by rfl, ?_⟩) (by assumption) ?_
      rotate_left
      · (intro w hSw; clear hSw; go_simp; (try with_reducible rfl))
      simp only [Act.put, List.setIfInBounds_toArray, List.set_cons_zero, List.set_cons_succ]
      refine held_take (i := 2) (d := 19) (oi := _) (v := ?_) rfl rfl (by kernel_rfl) (by kernel_rfl) (by kernel_rfl) (fun _ _ _ h => h) (Or.inl ⟨by rfl, ?_⟩) (by assumption) ?_
      rotate_left
      · (intro w hSw; clear hSw; go_simp; (try with_reducible rfl))
      simp only [Act.put, List.setIfInBounds_toArray, List.set_cons_zero, List.set_cons_succ]
      refine held_take (i := 3) (d := 20) (oi := _) (v := ?_) rfl rfl (by kernel_rfl) (by kernel_rfl) (by kernel_rfl) (fun _ _ _ h => h) (Or.inl ⟨by rfl, ?_⟩) (by assumption) ?_
      rotate_left
      · (intro w hSw; have hld := L1.out w (B0.out.trans (hSw.mono B0.out.size)); clear hSw; go_simp; (try with_reducible rfl))
      simp only [Act.put, List.setIfInBounds_toArray, List.set_cons_zero, List.set_cons_succ]
      have V1 : Hid (∀ X, Below x0.heap.size x0 X → (convert 22 9 (.slice ay y.length cy)).run Try.prog X = .ok (.string (str y)) X) := Lib.hid fun X h => V0.out X (B0.out.trans (h.mono B0.out.size))
      refine held_take (i := 4) (d := 21) (oi := _) (v := ?_) rfl rfl (by kernel_rfl) (by kernel_rfl) (by kernel_rfl) (fun _ _ _ h => h) (Or.inl ⟨by rfl, ?_⟩) (by assumption) ?_
      rotate_left
      · (intro w hSw; have hcvw := V1.out w hSw; clear hSw; go_simp; (try with_reducible rfl))
      simp only [Act.put, List.setIfInBounds_toArray, List.set_cons_zero, List.set_cons_succ]
      refine held_take (i := 5) (d := 22) (oi := _) (v := ?_) rfl rfl (by kernel_rfl) (by kernel_rfl) (by kernel_rfl) (fun _ _ _ h => h) (Or.inl ⟨by rfl, ?_⟩) (by assumption) ?_
      rotate_left
      · (intro w hSw; clear hSw; go_simp; (try with_reducible rfl))
      simp only [Act.put, List.setIfInBounds_toArray, List.set_cons_zero, List.set_cons_succ]
      refine held_take (i := 6) (d := 23) (oi := _) (v := ?_) rfl rfl (by kernel_rfl) (by kernel_rfl) (by kernel_rfl) (fun _ _ _ h => h) (Or.inl ⟨by rfl, ?_⟩) (by assumption) ?_
      rotate_left
      · (intro w hSw; clear hSw; go_simp; (try with_reducible rfl))
      simp only [Act.put, List.setIfInBounds_toArray, List.set_cons_zero, List.set_cons_succ]
      refine held_take (i := 7) (d := 24) (oi := _) (v := ?_) rfl rfl (by kernel_rfl) (by kernel_rfl) (by kernel_rfl) (fun _ _ _ h => h) (Or.inl ⟨by rfl, ?_⟩) (by assumption) ?_
      rotate_left
      · (intro w hSw; clear hSw; go_simp; (try with_reducible rfl))
      simp only [Act.put, List.setIfInBounds_toArray, List.set_cons_zero, List.set_cons_succ]
      refine held_take (i := 8) (d := 25) (oi := _) (v := ?_) rfl rfl (by kernel_rfl) (by kernel_rfl) (by kernel_rfl) (fun _ _ _ h => h) (Or.inl ⟨by rfl, ?_⟩) (by assumption) ?_
      rotate_left
      · (intro w hSw; have hld := L2.out w (B0.out.trans (hSw.mono B0.out.size)); clear hSw; go_simp; (try with_reducible rfl))
      simp only [Act.put, List.setIfInBounds_toArray, List.set_cons_zero, List.set_cons_succ]
      refine held_take (i := 9) (d := 26) (oi := _) (v := ?_) rfl rfl (by kernel_rfl) (by kernel_rfl) (by kernel_rfl) (fun _ _ _ h => h) (Or.inl ⟨by rfl, ?_⟩) (by assumption) ?_
      rotate_left
      · (intro w hSw; clear hSw; go_simp; (try with_reducible rfl))
      simp only [Act.put, List.setIfInBounds_toArray, List.set_cons_zero, List.set_cons_succ]
      refine wpAnyH_done (by kernel_rfl) ?_ _
      go_wp2_with fail
      exact ⟨⟨k + 1, by omega, by go_num, HB.out.trans (B0.out.mono HB.out.size)⟩, by simp [intOf]; omega⟩
    · obtain rfl : k = xs.length := by omega
      go_wp2
      go_ret
      exact ⟨rfl, HB.out⟩
theorem part_le : ∀ {L : List Tx} {x : Tx}, x ∈ L → x.length ≤ L.flatten.length
  | y :: L, x, h => by
    rw [List.flatten_cons, List.length_append]
    rcases List.mem_cons.1 h with rfl | h
    · omega
    · have := part_le h
      omega
theorem is_lit (w : World) (l : List Int) (cs : Array Value) (hcs : cs = (ivals l).toArray) : Is (w.alloc (.cells cs 3)) (w.alloc (.cells cs 3)).heap.size (some ⟨w.heap.size, 0, none⟩) l := fun _ => by
  refine ⟨w.heap.size, 0, rfl, by simp, fun i hi => ?_⟩
  rw [cell_of_row _ w.heap.size _ _ 3 (0, 0) (heap_alloc_new w _), hcs]
  simp [ivals, hi]
theorem ss_lit (w : World) (l : List Tx) (cs : Array Value) (hcs : cs = (svals l).toArray) : Ss (w.alloc (.cells cs 9)) (some ⟨w.heap.size, 0, none⟩) l := fun _ => by
  refine ⟨w.heap.size, 0, rfl, by simp, fun i hi => ?_⟩
  rw [cell_of_row _ w.heap.size _ _ 9 (0, 0) (heap_alloc_new w _), hcs]
  simp [svals, hi]
theorem ex_pieces : pieces [97, 98, 99, 100, 101] [3, 1, 9] = [[97, 98, 99], [], [100, 101], []] := by decide
theorem ex_each : each [97, 98, 99, 100, 101] 2 = [[97, 98], [99, 100], [101]] := by decide
theorem ex_places : ints (places 5 [3, 1, 9]) = [3, 3, 5] := by decide
abbrev ob5 : Obj := .cells #[.int .u8 97, .int .u8 98, .int .u8 99, .int .u8 100, .int .u8 101] 5
abbrev oi3 : Obj := .cells #[.int .i64 3, .int .i64 1, .int .i64 9] 3
theorem ex_wf : ∀ i ∈ ([3, 1, 9] : List Int), (Lit.int .i64 i).wf = true := by decide
abbrev cb5 : Array Value := #[.int .u8 97, .int .u8 98, .int .u8 99, .int .u8 100, .int .u8 101]
abbrev of5 : Obj := .cells cb5 5 (5, 6)
abbrev os4 : Obj := .cells #[.string ⟨#[97, 98, 99]⟩, .string ⟨#[]⟩, .string ⟨#[100, 101]⟩, .string ⟨#[]⟩] 9
abbrev os3 : Obj := .cells #[.string ⟨#[97, 98]⟩, .string ⟨#[99, 100]⟩, .string ⟨#[101]⟩] 9
abbrev oi4 : Obj := .cells #[.int .i64 3, .int .i64 3, .int .i64 5] 3
theorem below_new (w : World) (x : Obj) : Below w.heap.size w (w.alloc x) := (Below.refl _ _).alloc (Nat.le_refl _) _
set_option maxHeartbeats 4000000 in
theorem awake_any (w : World) : Calls Try.prog 7 #[] w fun e w' => e = .returned (.bool true) ∧ Below w.heap.size w w' := by
  have kc := fun (w : World) (C : Array Value) (n c : Nat) => Lib.run_convert_bytes_const (P := Try.prog) w 22 5 C n c Try.underlying22 Try.underlying5
  have b1 := below_new w of5
  have b2 := below_new (w.alloc of5) oi3
  have hs1 : (w.alloc of5).heap.size = w.heap.size + 1 := World.size_alloc _ _
  have hp := pieces_any ((w.alloc of5).alloc oi3) [97, 98, 99, 100, 101] (some ⟨w.heap.size, 0, none⟩) 5 (((bs_lit w [97, 98, 99, 100, 101] (5, 6) cb5 rfl).keep b2).more b2.size) (fun e => by cases e) (by decide) [3, 1, 9] ex_wf (some ⟨w.heap.size + 1, 0, none⟩) 3 (by have := is_lit (w.alloc of5) [3, 1, 9] #[.int .i64 3, .int .i64 1, .int .i64 9] rfl; exact hs1 ▸ this) (by decide)
  rw [ex_pieces] at hp
  have HP := Lib.hid hp
  have HB2 := Lib.hid (b1.trans (b2.mono b1.size))
  clear hp b1 b2 hs1
  go_enter Try.func7, Try.ntmps7
  go_wp2_with fail
  refine HP.out.mono ?_
  rintro e w3 ⟨xs, a3, c3, rfl, hxs, hts3, _, _, hb3⟩
  have hl3 : xs.length = 4 := by have := congrArg List.length hxs; rwa [List.length_map] at this
  have HB3 := Lib.hid (HB2.out.trans (hb3.mono HB2.out.size))
  have HX3 := Lib.hid hts3
  have HE := Lib.hid (each_any (w3.alloc of5) [97, 98, 99, 100, 101] (some ⟨w3.heap.size, 0, none⟩) 5 (bs_lit w3 [97, 98, 99, 100, 101] (5, 6) cb5 rfl) (fun e => by cases e) (by decide) 2 (by decide))
  rw [ex_each] at HE
  have HS3 : Hid (∀ X (b : Option Addr), Below w3.heap.size w3 X → Ss X b [[97, 98, 99], [], [100, 101], []] → Calls Try.prog 8 #[.slice a3 4 c3, .slice b 4 4] X fun e w' => e = .returned (.bool true) ∧ Below X.heap.size X w') := Lib.hid fun X b h hb => by
    have := same_any X xs a3 c3 (hts3.keep h) b 4 (by rw [hxs]; exact hb) (by omega) (by intro x hx; have := List.mem_map_of_mem (f := TxV.text) hx; rw [hxs] at this; simp only [List.mem_cons, List.not_mem_nil, or_false] at this; rcases this with e | e | e | e <;> rw [e] <;> simp)
    rwa [hl3] at this
  rw [hl3]
  clear hxs hts3 hb3 hl3 HB2 HP HX3
  go_wp2_with fail
  refine HE.out.mono ?_
  rintro e w4 ⟨ys, a4, c4, rfl, hys, hts4, _, _, hb4⟩
  have hl4 : ys.length = 3 := by have := congrArg List.length hys; rwa [List.length_map] at this
  have b34 : Below w3.heap.size w3 w4 := (below_new w3 of5).trans (hb4.mono (below_new w3 of5).size)
  have HB4 := Lib.hid (HB3.out.trans (b34.mono HB3.out.size))
  have HS4 : Hid (∀ X (b : Option Addr), Below w4.heap.size w4 X → Ss X b [[97, 98], [99, 100], [101]] → Calls Try.prog 8 #[.slice a4 3 c4, .slice b 3 3] X fun e w' => e = .returned (.bool true) ∧ Below X.heap.size X w') := Lib.hid fun X b h hb => by
    have := same_any X ys a4 c4 (hts4.keep h) b 3 (by rw [hys]; exact hb) (by omega) (by intro x hx; have := List.mem_map_of_mem (f := TxV.text) hx; rw [hys] at this; simp only [List.mem_cons, List.not_mem_nil, or_false] at this; rcases this with e | e | e <;> rw [e] <;> simp)
    rwa [hl4] at this
  have HC5 := Lib.hid (HS3.out (w4.alloc os4) (some ⟨w4.heap.size, 0, none⟩) (b34.trans ((below_new w4 os4).mono b34.size)) (ss_lit w4 [[97, 98, 99], [], [100, 101], []] _ rfl))
  have HB5 := Lib.hid (below_new w4 os4)
  rw [hl4]
  clear hys hts4 hb4 hl4 b34 HB3 HE HS3
  go_wp2_with fail
  refine HC5.out.mono ?_
  rintro e w5 ⟨rfl, hb5⟩
  have HB6 := Lib.hid (HB5.out.trans (hb5.mono HB5.out.size))
  have HC6 := Lib.hid (HS4.out (w5.alloc os3) (some ⟨w5.heap.size, 0, none⟩) (HB6.out.trans ((below_new w5 os3).mono HB6.out.size)) (ss_lit w5 [[97, 98], [99, 100], [101]] _ rfl))
  have HB7 := Lib.hid (HB6.out.trans ((below_new w5 os3).mono HB6.out.size))
  clear hb5 HB5 HC5 HS4
  go_wp2_with fail
  refine HC6.out.mono ?_
  rintro e w6 ⟨rfl, hb6⟩
  have HB8 := Lib.hid (HB7.out.trans (hb6.mono HB7.out.size))
  have HC7 := Lib.hid (places_any (w6.alloc oi3) 5 (by decide) [3, 1, 9] ex_wf (some ⟨w6.heap.size, 0, none⟩) 3 (is_lit w6 [3, 1, 9] _ rfl) (by decide))
  rw [show (5 : Int).toNat = 5 from rfl, ex_places] at HC7
  have HB9 := Lib.hid (HB8.out.trans ((below_new w6 oi3).mono HB8.out.size))
  clear hb6 HB6 HB7 HC6
  go_wp2_with fail
  refine HC7.out.mono ?_
  rintro e w7 ⟨a7, c7, rfl, hi7, _, hb7⟩
  have HC8 := Lib.hid (isame_any (w7.alloc oi4) [3, 3, 5] [3, 3, 5] a7 (some ⟨w7.heap.size, 0, none⟩) c7 3 _ ((hi7.keep (below_new w7 oi4)).more (below_new w7 oi4).size) (is_lit w7 [3, 3, 5] _ rfl) (by decide) (by decide))
  rw [decide_eq_true rfl] at HC8
  have HBA := Lib.hid ((HB9.out.trans (hb7.mono HB9.out.size)).trans ((below_new w7 oi4).mono (HB9.out.trans (hb7.mono HB9.out.size)).size))
  clear hi7 hb7 HB8 HB9 HC7
  go_wp2_with fail
  refine HC8.out.mono ?_
  rintro e w8 ⟨rfl, q, rfl⟩
  have HBB := Lib.hid (HB4.out.trans ((below_drews HBA.out q).mono HB4.out.size))
  go_wp2_with fail
  go_ret
  exact ⟨ret_bool (by simp), HBB.out⟩
end Go.Proofs.Ytlpjghhmacobdaa.Cts
