/- The document's examples: awake. -/
import Derived.Test.YtpknaobmchmpdaaEf
namespace Go.Proofs.Ytpknaobmchmpdaa.Suf
open Go.RowKit Go.Maps Go.Proofs.Ytpknaobmchmpdaa.Crt
set_option maxRecDepth 100000
set_option linter.unusedVariables false

theorem is_lit (w : World) (l : List Int) (cs : Array Value) (hcs : cs = (Lnk.ivals l).toArray) : Lnk.Is (w.alloc (.cells cs 3)) (w.alloc (.cells cs 3)).heap.size (some ⟨w.heap.size, 0, none⟩) l := fun _ => by
  refine ⟨w.heap.size, 0, rfl, by simp, fun i hi => ?_⟩
  rw [cell_of_row _ w.heap.size _ _ 3 (0, 0) (heap_alloc_new w _), hcs]
  simp [Lnk.ivals, hi]
theorem const_at (w : World) (g : Nat) (hg : g = w.heap.size) (C : Array Value) (n c : Nat) :
    (convert 22 22 (.slice (some ⟨g, 0, none⟩) n c)).run Try.prog (w.alloc (.cells C 5)) = .ok (.slice (some ⟨g, 0, none⟩) n c) (w.alloc (.cells C 5 (C.size, C.size + 1))) := by
  subst hg
  exact Lib.run_convert_bytes_const w 22 5 C n c und22 und5
theorem exw_one (w : World) : Bs ((w.alloc (.cells #[.int .u8 97] 5 (1, 2))).alloc (.cells #[.int .u8 98] 5 (1, 2))) ((w.alloc (.cells #[.int .u8 97] 5 (1, 2))).alloc (.cells #[.int .u8 98] 5 (1, 2))).heap.size (some ⟨w.heap.size, 0, none⟩) [97] :=
  ((bs_lit w [97] (1, 2) _ rfl).keep ((Below.refl _ _).alloc (Nat.le_refl _) _)).more (by simp)
theorem exw_two (w : World) : Bs ((w.alloc (.cells #[.int .u8 97] 5 (1, 2))).alloc (.cells #[.int .u8 98] 5 (1, 2))) ((w.alloc (.cells #[.int .u8 97] 5 (1, 2))).alloc (.cells #[.int .u8 98] 5 (1, 2))).heap.size (some ⟨w.heap.size + 1, 0, none⟩) [98] := by
  have := bs_lit (w.alloc (.cells #[.int .u8 97] 5 (1, 2))) [98] (1, 2) _ rfl
  rwa [show (w.alloc (.cells #[.int .u8 97] 5 (1, 2))).heap.size = w.heap.size + 1 by simp] at this
theorem exw_below (w : World) : Below w.heap.size w ((w.alloc (.cells #[.int .u8 97] 5 (1, 2))).alloc (.cells #[.int .u8 98] 5 (1, 2))) := ((Below.refl _ _).alloc (Nat.le_refl _) _).alloc (by simp) _
def exl : Tx := [97, 98, 99, 97, 98, 99, 97, 98]
theorem ex_len : exl.length = 8 := rfl
theorem ex_max : bestTo false exl 8 = 2 ∧ per (exl.drop 2) = 3 ∧ bestTo true exl 8 = 0 ∧ per (exl.drop 0) = 3 := by decide +kernel
theorem ex_per : per exl = 3 ∧ ints (borders exl) = [5, 2] := by decide +kernel
theorem ex_less : less false [97] [98] = true ∧ less true [97] [98] = false := by decide +kernel
theorem ex_lit (w : World) : Bs (w.alloc (.cells #[.int .u8 97, .int .u8 98, .int .u8 99, .int .u8 97, .int .u8 98, .int .u8 99, .int .u8 97, .int .u8 98] 5 (8, 9))) (w.alloc (.cells #[.int .u8 97, .int .u8 98, .int .u8 99, .int .u8 97, .int .u8 98, .int .u8 99, .int .u8 97, .int .u8 98] 5 (8, 9))).heap.size (some ⟨w.heap.size, 0, none⟩) exl := bs_lit w exl (8, 9) _ rfl
set_option maxHeartbeats 4000000 in
theorem awake_any (w : World) : Calls Try.prog 9 #[] w fun e w' => e = .returned (.bool true) ∧ Below w.heap.size w w' := by
  have kc := fun (w : World) (C : Array Value) (n c : Nat) => Lib.run_convert_bytes_const (P := Try.prog) w 22 5 C n c und22 und5
  have kd := fun (w : World) (o : Obj) (C : Array Value) (n c : Nat) => const_at (w.alloc o) (w.heap.size + 1) (by simp) C n c
  go_enter Try.func9, Try.ntmps9
  go_wp2_with fail
  have HB0 := Lib.hid (ex_lit w)
  have HW0 : Hid (Below w.heap.size w (w.alloc (.cells #[.int .u8 97, .int .u8 98, .int .u8 99, .int .u8 97, .int .u8 98, .int .u8 99, .int .u8 97, .int .u8 98] 5 (8, 9)))) := Lib.hid ((Below.refl _ _).alloc (Nat.le_refl _) _)
  generalize hg : w.heap.size = g at *
  have HG := Lib.hid hg
  clear hg
  generalize w.alloc (.cells #[.int .u8 97, .int .u8 98, .int .u8 99, .int .u8 97, .int .u8 98, .int .u8 99, .int .u8 97, .int .u8 98] 5 (8, 9)) = w0 at *
  have HM : Hid (∀ t X, Below w0.heap.size w0 X → Calls Try.prog 10 #[.slice (some ⟨g, 0, none⟩) 8 8, .bool t] X fun e w' => e = .returned (.tuple #[.int .i64 (bestTo t exl 8 : Int), .int .i64 (per (exl.drop (bestTo t exl 8)) : Int)]) ∧ Below X.heap.size X w') := Lib.hid fun t X hX => max_any X exl _ 8 ((HB0.out.keep hX).more hX.size) (by decide) t
  have HPE : Hid (∀ X, Below w0.heap.size w0 X → Calls Try.prog 12 #[.slice (some ⟨g, 0, none⟩) 8 8] X fun e w' => e = .returned (.int .i64 3) ∧ Below X.heap.size X w') := Lib.hid fun X hX => by
    have := period_any X exl _ 8 ((HB0.out.keep hX).more hX.size) (by decide)
    rwa [ex_per.1] at this
  have HBO : Hid (∀ X, Below w0.heap.size w0 X → Calls Try.prog 15 #[.slice (some ⟨g, 0, none⟩) 8 8] X (Lnk.GivesInts X [5, 2])) := Lib.hid fun X hX => by
    have := borders_any X exl _ 8 ((HB0.out.keep hX).more hX.size) (by decide)
    rwa [ex_per.2] at this
  have HM1 := Lib.hid (HM.out false)
  have HM2 := Lib.hid (HM.out true)
  rw [ex_max.1, ex_max.2.1] at HM1
  rw [ex_max.2.2.1, ex_max.2.2.2] at HM2
  clear HM
  refine (HM1.out _ (Below.refl _ _)).mono ?_
  rintro e w1 ⟨rfl, hb1⟩
  have HW1 := Lib.hid hb1
  clear hb1
  go_wp2_with fail
  refine (HM2.out _ HW1.out).mono ?_
  rintro e w2 ⟨rfl, hb2⟩
  have HW2 := Lib.hid (HW1.out.trans (hb2.mono HW1.out.size))
  clear hb2
  go_wp2_with fail
  refine (HPE.out _ HW2.out).mono ?_
  rintro e w3 ⟨rfl, hb3⟩
  have HW3 := Lib.hid (HW2.out.trans (hb3.mono HW2.out.size))
  clear hb3
  go_wp2_with fail
  refine (HBO.out _ HW3.out).mono ?_
  rintro e w4 ⟨a4, c4, rfl, hi4, hn4, hb4⟩
  have HW4 := Lib.hid (HW3.out.trans (hb4.mono HW3.out.size))
  have HI4 := Lib.hid hi4
  clear hb4 hi4
  go_wp2_with fail
  have hs4 := HW4.out.size
  refine (Lnk.isame_any _ [5, 2] [5, 2] a4 _ c4 2 _ ((HI4.out.keep ((Below.refl _ _).alloc (Nat.le_refl _) _)).more (by simp)) (is_lit w4 [5, 2] _ rfl) (by simp) (by simp)).mono ?_
  rintro e w5 ⟨rfl, hd5⟩
  have HW5 : Hid (Below w0.heap.size w0 w5) := Lib.hid (by
    obtain ⟨q, rfl⟩ := hd5
    exact below_drews (HW4.out.alloc hs4 _) q)
  clear hd5
  rw [decide_eq_true rfl]
  clear HI4 hn4
  go_wp2_with fail
  have hs5 := HW5.out.size
  have HW6 := Lib.hid (HW5.out.trans ((exw_below w5).mono hs5))
  have H1 := Lib.hid (exw_one w5)
  have H2 := Lib.hid (exw_two w5)
  generalize hz5 : w5.heap.size = z5 at *
  generalize ((w5.alloc (.cells #[.int .u8 97] 5 (1, 2))).alloc (.cells #[.int .u8 98] 5 (1, 2))) = w6 at *
  refine (less_any w6 [97] [98] _ _ 1 1 H1.out H2.out (by simp) (by simp) false).mono ?_
  rintro e w7 ⟨rfl, hb7⟩
  rw [ex_less.1]
  have HW7 := Lib.hid (HW6.out.trans (hb7.mono HW6.out.size))
  clear hb7 H1 H2
  go_wp2_with fail
  have hs7 := HW7.out.size
  have HW8 := Lib.hid (HW7.out.trans ((exw_below w7).mono hs7))
  have H1 := Lib.hid (exw_one w7)
  have H2 := Lib.hid (exw_two w7)
  generalize hz7 : w7.heap.size = z7 at *
  generalize ((w7.alloc (.cells #[.int .u8 97] 5 (1, 2))).alloc (.cells #[.int .u8 98] 5 (1, 2))) = w8 at *
  refine (less_any w8 [97] [98] _ _ 1 1 H1.out H2.out (by simp) (by simp) true).mono ?_
  rintro e w9 ⟨rfl, hb9⟩
  rw [ex_less.2]
  have HW9 := Lib.hid (HW8.out.trans (hb9.mono HW8.out.size))
  clear hb9 H1 H2
  go_wp2
  go_ret
  have h1 := HW0.out.size
  have h2 := HG.out
  exact ⟨rfl, by rw [h2]; exact HW0.out.trans (HW9.out.mono (by omega))⟩
end Go.Proofs.Ytpknaobmchmpdaa.Suf
