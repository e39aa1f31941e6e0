/- Options: the document's examples. -/
import Derived.Test.YtjccnhipdhpkoaaOptA4
import Derived.Test.YtjccnhipdhpkoaaOptA7
namespace Go.Proofs.Ytjccnhipdhpkoaa.Opt
open Go.RowKit
set_option maxRecDepth 100000
attribute [local go_sem ↓] eql_opts

theorem read_some {s : Tx} (hs : s.length ≤ 100000000) {a b c d e f g : Bool} (h : readO s = some [a, b, c, d, e, f, g]) (w : World) :
    Calls Try.prog 9 #[.string (str s)] w fun r w' => r = .returned (.tuple #[val7 a b c d e f g, .int .i64 0]) ∧ Below w.heap.size w w' := by
  have := read_any s hs w
  rw [h] at this
  refine this.mono ?_
  rintro r w' ⟨⟨a', b', c', d', e', f', g', h1, rfl⟩, hb⟩
  simp only [Option.getD_some, List.cons.injEq, and_true] at h1
  obtain ⟨rfl, rfl, rfl, rfl, rfl, rfl, rfl⟩ := h1
  exact ⟨rfl, hb⟩
theorem read_none {s : Tx} (hs : s.length ≤ 100000000) (h : readO s = none) (w : World) :
    Calls Try.prog 9 #[.string (str s)] w fun r w' => r = .returned (.tuple #[val7 false false false false false false false, .int .i64 10]) ∧ Below w.heap.size w w' := by
  have := read_any s hs w
  rw [h] at this
  refine this.mono ?_
  rintro r w' ⟨⟨a', b', c', d', e', f', g', h1, rfl⟩, hb⟩
  simp only [Option.getD_none, none7, List.cons.injEq, and_true] at h1
  obtain ⟨rfl, rfl, rfl, rfl, rfl, rfl, rfl⟩ := h1
  exact ⟨rfl, hb⟩

set_option maxHeartbeats 2000000 in
theorem awake_any (w : World) : Calls Try.prog 8 #[] w fun r w' => r = .returned (.bool true) ∧ Below w.heap.size w w' := by
  have C1 : Hid (∀ X, Calls Try.prog 9 #[.string ⟨#[45, 105, 119, 32, 45, 120]⟩] X fun r w' => r = .returned (.tuple #[val7 true true true false false false false, .int .i64 0]) ∧ Below X.heap.size X w') := Lib.hid fun X => read_some (s := [45, 105, 119, 32, 45, 120]) (by decide) (by decide +kernel) X
  have C2 : Hid (∀ X, Calls Try.prog 9 #[.string ⟨#[45]⟩] X fun r w' => r = .returned (.tuple #[val7 false false false false false false false, .int .i64 10]) ∧ Below X.heap.size X w') := Lib.hid fun X => read_none (s := [45]) (by decide) (by decide +kernel) X
  have C3 : Hid (∀ X, Calls Try.prog 9 #[.string ⟨#[105]⟩] X fun r w' => r = .returned (.tuple #[val7 false false false false false false false, .int .i64 10]) ∧ Below X.heap.size X w') := Lib.hid fun X => read_none (s := [105]) (by decide) (by decide +kernel) X
  have C4 : Hid (∀ X, Calls Try.prog 12 #[val7 false false false true true false false] X fun r w' => r = .returned (.string ⟨#[45, 111, 98]⟩) ∧ Below X.heap.size X w') := Lib.hid fun X => show_any false false false true true false false X
  have C5 : Hid (∀ X, Calls Try.prog 16 #[val7 false false false true false true false] X fun r w' => r = .returned (.int .i64 10) ∧ Below X.heap.size X w') := Lib.hid fun X => check_any false false false true false true false X
  have C6 : Hid (∀ X, Calls Try.prog 14 #[val7 true true true false false false false] X fun r w' => r = .returned (.int .u8 7) ∧ Below X.heap.size X w') := Lib.hid fun X => bits_any true true true false false false false X
  have hq : eq7 true true true false false false false true true true false false false false = true := rfl
  go_enter Try.func8, Try.ntmps8
  go_wp2_with (go_at_call 9; (with_reducible refine (C1.out _).mono ?_); rintro e w1 ⟨rfl, hb1⟩)
  have K1 := bk_new w1 true true true false false false false
  have HB1 := Lib.hid (hb1.alloc hb1.size (.cells #[.bool true, .bool true, .bool true, .bool false, .bool false, .bool false, .bool false] 24))
  have HS1 := Lib.hid hb1.size
  generalize w1.alloc _ = W1 at *
  clear hb1
  go_wp2_with (go_at_call 9; (with_reducible refine (C2.out _).mono ?_); rintro e w2 ⟨rfl, hb2⟩)
  have K2 := (K1.keep hb2 K1.lt).keep ((Below.refl w2.heap.size w2).alloc (Nat.le_refl _) (.cells #[.bool false, .bool false, .bool false, .bool false, .bool false, .bool false, .bool false] 24)) (Nat.lt_of_lt_of_le K1.lt hb2.size)
  have HB2 := Lib.hid ((HB1.out.trans (hb2.mono HB1.out.size)).alloc (Nat.le_trans HB1.out.size hb2.size) (.cells #[.bool false, .bool false, .bool false, .bool false, .bool false, .bool false, .bool false] 24))
  generalize w2.alloc _ = W2 at *
  clear hb2 K1
  go_wp2_with (first
    | (go_at_call 9; (with_reducible refine (C3.out _).mono ?_); rintro e w3 ⟨rfl, hb3⟩; have K3 := K2.keep hb3 K2.lt; have lt3 := K3.lt; have l0 := K3.cell (k := 0) rfl; have l1 := K3.cell (k := 1) rfl; have l2 := K3.cell (k := 2) rfl; have l3 := K3.cell (k := 3) rfl; have l4 := K3.cell (k := 4) rfl; have l5 := K3.cell (k := 5) rfl; have l6 := K3.cell (k := 6) rfl)
    | (go_at_call 12; (with_reducible refine (C4.out _).mono ?_); rintro e w4 ⟨rfl, hb4⟩; have K4 := (K3.keep ((Below.refl w3.heap.size w3).alloc (Nat.le_refl _) (.cells #[.bool false, .bool false, .bool false, .bool false, .bool false, .bool false, .bool false] 24)) lt3).keep hb4 (by simp; omega))
    | (go_at_call 16; (with_reducible refine (C5.out _).mono ?_); rintro e w5 ⟨rfl, hb5⟩; have K5 := K4.keep hb5 K4.lt; have m0 := K5.cell (k := 0) rfl; have m1 := K5.cell (k := 1) rfl; have m2 := K5.cell (k := 2) rfl; have m3 := K5.cell (k := 3) rfl; have m4 := K5.cell (k := 4) rfl; have m5 := K5.cell (k := 5) rfl; have m6 := K5.cell (k := 6) rfl)
    | (go_at_call 14; (with_reducible refine (C6.out _).mono ?_); rintro e w6 ⟨rfl, hb6⟩))
  go_ret
  have HB3 := (HB2.out.trans (hb3.mono HB2.out.size)).alloc (Nat.le_trans HB2.out.size hb3.size) (.cells #[.bool false, .bool false, .bool false, .bool false, .bool false, .bool false, .bool false] 24)
  have HB4 := HB3.trans (hb4.mono HB3.size)
  have HB5 := HB4.trans (hb5.mono HB4.size)
  exact ⟨rfl, HB5.trans (hb6.mono HB5.size)⟩
end Go.Proofs.Ytjccnhipdhpkoaa.Opt
