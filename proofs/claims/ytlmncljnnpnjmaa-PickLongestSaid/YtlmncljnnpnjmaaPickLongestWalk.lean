/- PickLongest, walked. -/
import Derived.Test.YtlmncljnnpnjmaaPickC
namespace Go.Proofs.Ytlmncljnnpnjmaa.pickLongest
open Go.RowKit Go.Proofs.Ytlmncljnnpnjmaa.Prs Adm Reg Pck
set_option maxRecDepth 100000
theorem same3 (v : World) (l : List Pr) (a b : Option Addr) (c d : Nat) (h : Ps v v.heap.size a l) (h2 : Ps v v.heap.size b l) (hl : l.length ≤ 1000000000) :
    Calls Try.prog 12 #[.slice a l.length c, .slice b l.length d] v fun e w' => e = .returned (.bool true) ∧ Below v.heap.size v w' := by
  refine (same_any l l a b c d v hl h h2).mono ?_
  rintro e w' ⟨rfl, q, rfl⟩
  exact ⟨by rw [decide_eq_true rfl], below_drews (Below.refl _ _) q⟩
theorem gaps_len (n : Int) : ∀ (l : List Pr) (a : Int), (gapsTo n a l).length ≤ l.length + 1
  | [], a => by unfold gapsTo; split <;> simp
  | p :: l, a => by
    rw [gaps_cons, List.length_append, List.length_cons]
    have := gaps_len n l (if a < p.e then p.e else a)
    split <;> simp <;> omega
set_option maxHeartbeats 4000000 in
theorem walk (W : World) (l : List Pr) (al : Option Addr) (cl : Nat) (hpl : Ps W W.heap.size al l) (f : Int) (n : Int) :
    Calls Try.prog 3 #[.slice al l.length cl, .int .i64 f, .int .i64 n] W fun r w' => r = .returned (.bool true) ∧ Below W.heap.size W w' := by
  have HAW := Lib.hid (awake_any W)
  have HL := Lib.hid hpl
  clear hpl
  go_enter Try.func3, Try.ntmps3
  by_cases hB : l.length ≤ 80
  rotate_left
  · have hBi : ¬ (l.length : Int) ≤ 80 := by omega
    go_wp2_with (go_at_call 9; (with_reducible refine HAW.out.mono ?_); rintro r w1 ⟨rfl, hb1⟩)
    go_ret
    exact ⟨rfl, hb1⟩
  have hBi : (l.length : Int) ≤ 80 := by omega
  have hl6 : l.length ≤ 1000000 := by omega
  have CF : Hid (∀ X, Below W.heap.size W X → Calls Try.prog 10 #[.slice al l.length cl, .int .i64 f] X fun e w' => e = .returned (.tuple #[.agg #[.int .i64 (fP l f).s, .int .i64 (fP l f).e], .bool (fB l f)]) ∧ Below X.heap.size X w') := Lib.hid fun X h => first_any f l al cl X hl6 (HL.out.keeps h)
  have CR : Hid (∀ X, Below W.heap.size W X → Calls Try.prog 11 #[.slice al l.length cl, .int .i64 f] X fun e w' => e = .returned (.tuple #[.agg #[.int .i64 (fP l f).s, .int .i64 (fP l f).e], .bool (fB l f)]) ∧ Below X.heap.size X w') := Lib.hid fun X h => rfirst_any f l al cl X hl6 (HL.out.keeps h)
  obtain ⟨p, hp⟩ : ∃ p, fP l f = p := ⟨_, rfl⟩
  obtain ⟨z, hz⟩ : ∃ z, fB l f = z := ⟨_, rfl⟩
  rw [hp, hz] at CF CR
  clear hp hz
  have CL : Hid (∀ X, Below W.heap.size W X → Calls Try.prog 13 #[.slice al l.length cl] X (Gives X (longFrom l lowest))) := Lib.hid fun X h => longest_any l al cl X hl6 (HL.out.keeps h)
  have CM : Hid (∀ X, Below W.heap.size W X → Calls Try.prog 14 #[.slice al l.length cl] X (Gives X (longFrom l lowest))) := Lib.hid fun X h => rlongest_any l al cl X hl6 (HL.out.keeps h)
  have CG : Hid (∀ X, Below W.heap.size W X → Calls Try.prog 15 #[.slice al l.length cl, .int .i64 n] X (Gives X (gapsTo n 0 l))) := Lib.hid fun X h => gaps_any n l al cl X hl6 (HL.out.keeps h)
  have CH : Hid (∀ X, Below W.heap.size W X → Calls Try.prog 16 #[.slice al l.length cl, .int .i64 n] X (Gives X (gapsTo n 0 l))) := Lib.hid fun X h => rgaps_any n l al cl X hl6 (HL.out.keeps h)
  have HLL : Hid ((longFrom l lowest).length ≤ 1000000000) := Lib.hid (by have := long_len l lowest; omega)
  have HGL : Hid ((gapsTo n 0 l).length ≤ 1000000000) := Lib.hid (by have := gaps_len n l 0; omega)
  go_wp2_with (first
    | (go_at_call 9; (with_reducible refine HAW.out.mono ?_); rintro r w1 ⟨rfl, hb1⟩; have HB1 := Lib.hid hb1; clear hb1)
    | (go_at_call 10; (with_reducible refine (CF.out _ HB1.out).mono ?_); rintro r w2 ⟨rfl, hb2⟩; have HB2 := Lib.hid (HB1.out.trans (hb2.mono HB1.out.size)); have HP := Lib.hid (pb_new w2 p.s p.e); have HB3 := Lib.hid (HB2.out.alloc HB2.out.size (.cells #[.int .i64 p.s, .int .i64 p.e] 25)); clear hb2)
    | (go_at_call 11; (with_reducible refine (CR.out _ HB3.out).mono ?_); rintro r w3 ⟨rfl, hb3⟩; have HB4 := Lib.hid (HB3.out.trans (hb3.mono HB3.out.size)); have HP3 := Lib.hid (HP.out.keep hb3 HP.out.lt); have hbq : Below w3.heap.size w3 (w3.alloc (.cells #[.int .i64 p.s, .int .i64 p.e] 25)) := (Below.refl _ _).alloc (Nat.le_refl _) _; obtain ⟨c0, c1⟩ := (HP3.out.keep hbq HP3.out.lt).cells; obtain ⟨c2, c3⟩ := (pb_new w3 p.s p.e).cells; have HB5 := Lib.hid (HB4.out.trans (hbq.mono HB4.out.size)); clear hb3 hbq)
    | (go_at_call 13; (with_reducible refine (CL.out _ HB5.out).mono ?_); rintro r w4 ⟨a1, d1, rfl, _, _, hp4, hb4⟩; have HB6 := Lib.hid (HB5.out.trans (hb4.mono HB5.out.size)); have H4 := Lib.hid hp4; clear hp4 hb4)
    | (go_at_call 14; (with_reducible refine (CM.out _ HB6.out).mono ?_); rintro r w5 ⟨a2, d2, rfl, _, _, hp5, hb5⟩; have HB7 := Lib.hid (HB6.out.trans (hb5.mono HB6.out.size)); have CS := Lib.hid (same3 w5 (longFrom l lowest) a1 a2 d1 d2 (H4.out.keeps hb5) hp5 HLL.out); clear hp5 hb5)
    | (go_at_call 12; (with_reducible refine CS.out.mono ?_); rintro r w6 ⟨rfl, hb6⟩; have HB8 := Lib.hid (HB7.out.trans (hb6.mono HB7.out.size)); clear hb6 CS)
    | (go_at_call 15; (with_reducible refine (CG.out _ HB8.out).mono ?_); rintro r w7 ⟨a3, d3, rfl, _, _, hp7, hb7⟩; have HB9 := Lib.hid (HB8.out.trans (hb7.mono HB8.out.size)); have H7 := Lib.hid hp7; clear hp7 hb7)
    | (go_at_call 16; (with_reducible refine (CH.out _ HB9.out).mono ?_); rintro r w8 ⟨a4, d4, rfl, _, _, hp8, hb8⟩; have HB10 := Lib.hid (HB9.out.trans (hb8.mono HB9.out.size)); have CT := Lib.hid (same3 w8 (gapsTo n 0 l) a3 a4 d3 d4 (H7.out.keeps hb8) hp8 HGL.out); clear hp8 hb8)
    | (go_at_call 12; (with_reducible refine CT.out.mono ?_); rintro r w9 ⟨rfl, hb9⟩; have HB11 := Lib.hid (HB10.out.trans (hb9.mono HB10.out.size)); clear hb9))
  all_goals (go_ret; exact ⟨rfl, HB11.out⟩)
end Go.Proofs.Ytlmncljnnpnjmaa.pickLongest
