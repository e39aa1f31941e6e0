/- What is picked: the document's example. -/
import Derived.Test.YtlmncljnnpnjmaaPickA4
namespace Go.Proofs.Ytlmncljnnpnjmaa.Pck
open Go.RowKit Go.Proofs.Ytlmncljnnpnjmaa.Prs Adm Reg
set_option maxRecDepth 100000
abbrev ex5 : List Pr := [⟨0, 2⟩, ⟨0, 4⟩, ⟨3, 9⟩, ⟨4, 4⟩, ⟨5, 6⟩]
abbrev exL : List Pr := [⟨0, 4⟩, ⟨5, 6⟩]
abbrev exG : List Pr := [⟨4, 5⟩, ⟨6, 8⟩]
theorem ex_long : longFrom ex5 lowest = exL := by decide +kernel
theorem ex_gaps : gapsTo 8 0 exL = exG := by decide +kernel
theorem ex_fst : fP ex5 1 = ⟨3, 9⟩ ∧ fB ex5 1 = true := by decide +kernel
theorem ps_lit (w : World) (l : List Pr) (cs : Array Value) (hcs : cs = (cellsOf l).toArray) :
    Ps (w.alloc (.cells cs 25)) (w.alloc (.cells cs 25)).heap.size (some ⟨w.heap.size, 0, none⟩) l := fun _ => by
  refine ⟨w.heap.size, 0, rfl, by simp, fun i hi => ?_⟩
  have h0 := cells_at l i 0 (by omega) hi
  have h1 := cells_at l i 1 (by omega) hi
  constructor
  · rw [cell_of_row _ w.heap.size _ _ 25 (0, 0) (heap_alloc_new w _), hcs, Nat.zero_add, List.getElem?_toArray]; exact h0
  · rw [cell_of_row _ w.heap.size _ _ 25 (0, 0) (heap_alloc_new w _), hcs, Nat.zero_add, List.getElem?_toArray]; exact h1
theorem same2 (v : World) (l : List Pr) (a : Option Addr) (c : Nat) (h : Ps v v.heap.size a l) (cs : Array Value) (hcs : cs = (cellsOf l).toArray) (hl : l.length ≤ 1000000000) :
    Calls Try.prog 12 #[.slice a l.length c, .slice (some ⟨v.heap.size, 0, none⟩) l.length l.length] (v.alloc (.cells cs 25)) fun e w' => e = .returned (.bool true) ∧ Below v.heap.size v w' := by
  have hB : Below v.heap.size v (v.alloc (.cells cs 25)) := (Below.refl _ _).alloc (Nat.le_refl _) _
  refine (same_any l l a _ c l.length _ hl (h.keeps hB) (ps_lit v l cs hcs)).mono ?_
  rintro e w' ⟨rfl, q, rfl⟩
  exact ⟨by rw [decide_eq_true rfl], below_drews hB q⟩
set_option maxHeartbeats 4000000 in
theorem awake_any (w : World) : Calls Try.prog 9 #[] w fun r w' => r = .returned (.bool true) ∧ Below w.heap.size w w' := by
  obtain ⟨W, hW⟩ : ∃ W, W = w.alloc (.cells #[.int .i64 0, .int .i64 2, .int .i64 0, .int .i64 4, .int .i64 3, .int .i64 9, .int .i64 4, .int .i64 4, .int .i64 5, .int .i64 6] 25) := ⟨_, rfl⟩
  have hb : Ps W W.heap.size (some ⟨w.heap.size, 0, none⟩) ex5 := by rw [hW]; exact ps_lit w ex5 _ rfl
  have HB0 : Hid (Below w.heap.size w W) := Lib.hid (by rw [hW]; exact (Below.refl _ _).alloc (Nat.le_refl _) _)
  have P0 : Hid (∀ X, Below W.heap.size W X → Ps X X.heap.size (some ⟨w.heap.size, 0, none⟩) ex5) := Lib.hid fun X h => hb.keeps h
  have C1 : Hid (Calls Try.prog 13 #[.slice (some ⟨w.heap.size, 0, none⟩) 5 5] W (Gives W exL)) := Lib.hid (by have h := longest_any ex5 _ 5 W (by decide) hb; rw [ex_long] at h; exact h)
  have HWW := Lib.hid hW
  clear hb hW
  go_enter Try.func9, Try.ntmps9
  go_wp2_with (first
    | (go_at_call 13; rw [← HWW.out]; (with_reducible refine C1.out.mono ?_); rintro e w1 ⟨a1, c1, rfl, hc1, hn1, hp1, hb1⟩; have H1 := Lib.hid hp1; have HB1 := Lib.hid hb1; have C2 : Hid (Calls Try.prog 15 #[.slice a1 2 c1, .int .i64 8] w1 (Gives w1 exG)) := Lib.hid (by have h := gaps_any 8 exL a1 c1 w1 (by decide) hp1; rw [ex_gaps] at h; exact h); clear hp1 hb1)
    | (go_at_call 15; (with_reducible refine C2.out.mono ?_); rintro e w2 ⟨a2, c2, rfl, hc2, hn2, hp2, hb2⟩; have H2 := Lib.hid hp2; have H12 := Lib.hid (H1.out.keeps hb2); have HB2 := Lib.hid (HB1.out.trans (hb2.mono HB1.out.size)); have C3 : Hid (Calls Try.prog 10 #[.slice (some ⟨w.heap.size, 0, none⟩) 5 5, .int .i64 1] w2 fun e w' => e = .returned (.tuple #[.agg #[.int .i64 3, .int .i64 9], .bool true]) ∧ Below w2.heap.size w2 w') := Lib.hid (by have h := first_any 1 ex5 _ 5 w2 (by decide) (P0.out w2 HB2.out); rw [ex_fst.1, ex_fst.2] at h; exact h); clear hp2 hb2)
    | (go_at_call 10; (with_reducible refine C3.out.mono ?_); rintro e w3 ⟨rfl, hb3⟩; have HB3 := Lib.hid hb3; have HPP := Lib.hid (pb_new w3 3 9); have C4 : Hid (Calls Try.prog 12 #[.slice a1 2 c1, .slice (some ⟨w3.heap.size + 1, 0, none⟩) 2 2] ((w3.alloc (.cells #[.int .i64 3, .int .i64 9] 25)).alloc (.cells #[.int .i64 0, .int .i64 4, .int .i64 5, .int .i64 6] 25)) fun e w' => e = .returned (.bool true) ∧ Below (w3.alloc (.cells #[.int .i64 3, .int .i64 9] 25)).heap.size (w3.alloc (.cells #[.int .i64 3, .int .i64 9] 25)) w') := Lib.hid (by have hbn : Below w3.heap.size w3 (w3.alloc (.cells #[.int .i64 3, .int .i64 9] 25)) := (Below.refl _ _).alloc (Nat.le_refl _) _; have h := same2 (w3.alloc (.cells #[.int .i64 3, .int .i64 9] 25)) exL a1 c1 ((H12.out.keeps hb3).keeps hbn) #[.int .i64 0, .int .i64 4, .int .i64 5, .int .i64 6] rfl (by decide); have e1 : (w3.alloc (.cells #[.int .i64 3, .int .i64 9] 25)).heap.size = w3.heap.size + 1 := (by simp); rw [e1] at h ⊢; exact h); clear hb3)
    | (go_at_call 12; (with_reducible refine C4.out.mono ?_); rintro e w4 ⟨rfl, hb4⟩; have hbn : Below w3.heap.size w3 (w3.alloc (.cells #[.int .i64 3, .int .i64 9] 25)) := (Below.refl _ _).alloc (Nat.le_refl _) _; have HB4 := Lib.hid ((HB2.out.trans (HB3.out.mono HB2.out.size)).trans ((hbn.trans (hb4.mono hbn.size)).mono (HB2.out.trans (HB3.out.mono HB2.out.size)).size)); have HP4 := Lib.hid (HPP.out.keep hb4 HPP.out.lt); have H24 := Lib.hid (((H2.out.keeps HB3.out).keeps hbn).keeps hb4); have C5 : Hid (Calls Try.prog 12 #[.slice a2 2 c2, .slice (some ⟨w4.heap.size, 0, none⟩) 2 2] (w4.alloc (.cells #[.int .i64 4, .int .i64 5, .int .i64 6, .int .i64 8] 25)) fun e w' => e = .returned (.bool true) ∧ Below w4.heap.size w4 w') := Lib.hid (same2 w4 exG a2 c2 H24.out #[.int .i64 4, .int .i64 5, .int .i64 6, .int .i64 8] rfl (by decide)); clear hb4 hbn C4)
    | (go_at_call 12; (with_reducible refine C5.out.mono ?_); rintro e w5 ⟨rfl, hb5⟩; have HB5 := Lib.hid (HB4.out.trans (hb5.mono HB4.out.size)); obtain ⟨c0, _⟩ := (HP4.out.keep hb5 HP4.out.lt).cells; clear hb5))
  go_ret
  exact ⟨rfl, HB0.out.trans (HB5.out.mono HB0.out.size)⟩
end Go.Proofs.Ytlmncljnnpnjmaa.Pck
