/- OptionsRead, walked. -/
import Derived.Test.YtjccnhipdhpkoaaOptC
import Derived.Test.YtjccnhipdhpkoaaOptB2
import Derived.Deep.QuietTactic
import Derived.BigQuiet
namespace Go.Proofs.Ytjccnhipdhpkoaa.optionsRead
open Go.RowKit Opt
set_option maxRecDepth 100000
attribute [local go_sem ↓] eql_opts

theorem rread_some {s : Tx} (hs : s.length ≤ 100000000) {l : List Bool} (h : readO s = some l) (w : World) :
    Calls Try.prog 10 #[.string (str s)] w fun r w' => (∃ x, r = .returned (.tuple #[.slice (some ⟨x, 0, none⟩) 7 7, .bool true]) ∧ w.heap.size ≤ x ∧ Bb w' x l) ∧ Below w.heap.size w w' := by
  have := rread_any s hs w
  rw [h] at this
  exact this
theorem rread_none {s : Tx} (hs : s.length ≤ 100000000) (h : readO s = none) (w : World) :
    Calls Try.prog 10 #[.string (str s)] w fun r w' => r = .returned (.tuple #[.slice none 0 0, .bool false]) ∧ Below w.heap.size w w' := by
  have := rread_any s hs w
  rw [h] at this
  exact this
theorem read_len {s : Tx} {l : List Bool} (h : readO s = some l) : l.length = 7 := by
  rw [read_words] at h
  split at h
  · obtain rfl := Option.some.inj h
    exact outW_len _ none7 rfl
  · cases h

set_option maxHeartbeats 4000000 in
theorem walk (W : World) (s : Tx) : Calls Try.prog 3 #[.string (str s)] W fun r w' => r = .returned (.bool true) ∧ Below W.heap.size W w' := by
  have hsz := str_size s
  have HA := Lib.hid (awake_any W)
  by_cases hA : s.length ≤ 300
  rotate_left
  · have hAi : (300 : Int) < (s.length : Int) := by omega
    go_enter Try.func3, Try.ntmps3
    go_wp2_with (go_at_call 8; (with_reducible refine HA.out.mono ?_); rintro r w1 ⟨rfl, hb1⟩)
    go_ret
    exact ⟨rfl, hb1⟩
  have hAi : ¬ (300 : Int) < (s.length : Int) := by omega
  cases hr : readO s with
  | none =>
    have HR := Lib.hid (fun X => read_none (s := s) (by omega) hr X)
    have HX := Lib.hid (fun X => rread_none (s := s) (by omega) hr X)
    have hq : eq7 false false false false false false false false false false false false false false = true := rfl
    clear hr
    go_enter Try.func3, Try.ntmps3
    go_wp2_with (first
      | (go_at_call 8; (with_reducible refine HA.out.mono ?_); rintro r w1 ⟨rfl, hb1⟩)
      | (go_at_call 9; (with_reducible refine (HR.out _).mono ?_); rintro r w2 ⟨rfl, hb2⟩)
      | (go_at_call 10; (with_reducible refine (HX.out _).mono ?_); rintro r w3 ⟨rfl, hb3⟩; have K3 := (bk_new w2 false false false false false false false).keep hb3 (by simp); have n0 := K3.cell (k := 0) rfl; have n1 := K3.cell (k := 1) rfl; have n2 := K3.cell (k := 2) rfl; have n3 := K3.cell (k := 3) rfl; have n4 := K3.cell (k := 4) rfl; have n5 := K3.cell (k := 5) rfl; have n6 := K3.cell (k := 6) rfl))
    go_ret
    have HB2 := (hb1.trans (hb2.mono hb1.size)).alloc (Nat.le_trans hb1.size hb2.size) (.cells #[.bool false, .bool false, .bool false, .bool false, .bool false, .bool false, .bool false] 24)
    exact ⟨rfl, HB2.trans (hb3.mono HB2.size)⟩
  | some l0 =>
    obtain ⟨a, b, c, d, e, f, g, rfl⟩ := seven l0 (read_len hr)
    have HR := Lib.hid (fun X => read_some (s := s) (by omega) hr X)
    have HX := Lib.hid (fun X => rread_some (s := s) (by omega) hr X)
    have HLI := Lib.hid (fun X => list_any a b c d e f g X)
    clear hr
    go_enter Try.func3, Try.ntmps3
    go_wp2_with (first
      | (go_at_call 8; (with_reducible refine HA.out.mono ?_); rintro r w1 ⟨rfl, hb1⟩)
      | (go_at_call 9; (with_reducible refine (HR.out _).mono ?_); rintro r w2 ⟨rfl, hb2⟩)
      | (go_at_call 10; (with_reducible refine (HX.out _).mono ?_); rintro r w3 ⟨⟨x, rfl, hx, hbx⟩, hb3⟩; have K3 := (bk_new w2 a b c d e f g).keep hb3 (by simp); have n0 := K3.cell (k := 0) rfl; have n1 := K3.cell (k := 1) rfl; have n2 := K3.cell (k := 2) rfl; have n3 := K3.cell (k := 3) rfl; have n4 := K3.cell (k := 4) rfl; have n5 := K3.cell (k := 5) rfl; have n6 := K3.cell (k := 6) rfl)
      | (go_at_call 11; (with_reducible refine (HLI.out _).mono ?_); rintro r w4 ⟨y, rfl, hy, hby, hb4⟩; have hbx4 := hbx.keep hb4 hbx.lt))
    have HB2 := (hb1.trans (hb2.mono hb1.size)).alloc (Nat.le_trans hb1.size hb2.size) (.cells #[.bool a, .bool b, .bool c, .bool d, .bool e, .bool f, .bool g] 24)
    have HB3 := HB2.trans (hb3.mono HB2.size)
    have HB4 := Lib.hid (HB3.trans (hb4.mono HB3.size))
    clear HB2 HB3 hb1 hb2 hb3 hb4 hx hy hbx K3
    clear n0 n1 n2 n3 n4 n5 n6
    obtain ⟨L, hL⟩ : ∃ L, L = [a, b, c, d, e, f, g] := ⟨_, rfl⟩
    have hL7 : L.length = 7 := by rw [hL]; rfl
    rw [← hL] at hby hbx4
    go_loopg [9] 7 (fun gf s9 wx => ∃ j : Nat, j + gf = 7 ∧ s9 = .int .i64 j ∧ Bb wx x L ∧ Bb wx y L ∧ Below W.heap.size W wx)
    case atStart => exact ⟨0, rfl, rfl, hbx4, hby, HB4.out⟩
    case round =>
      obtain ⟨j, hj, rfl, hx2, hy2, hbel⟩ := hrel
      cases gk with
      | succ gf =>
        have hj7 : j < 7 := by omega
        have hji : (j : Int) < 7 := by omega
        obtain ⟨v, hv⟩ : ∃ v, L[j]? = some v := ⟨_, List.getElem?_eq_getElem (by omega)⟩
        have c1 := hx2.cell hv
        have c2 := hy2.cell hv
        have hvv : (v != v) = false := by simp
        have hbx5 := Lib.hid hx2
        have hby5 := Lib.hid hy2
        clear hx2 hy2 hv
        go_wp2_with fail
        go_quiet (fail)
        go_wp2
        go_roundg gf
        case rel => exact ⟨j + 1, by omega, by go_num, hbx5.out, hby5.out, below_drews hbel _⟩
        case measure => omega
      | zero =>
        obtain rfl : j = 7 := by omega
        go_wp2
        go_ret
        exact ⟨rfl, hbel⟩
end Go.Proofs.Ytjccnhipdhpkoaa.optionsRead
