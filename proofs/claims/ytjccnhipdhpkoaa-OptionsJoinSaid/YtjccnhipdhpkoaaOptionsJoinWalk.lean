/- OptionsJoin, walked. -/
import Derived.Test.YtjccnhipdhpkoaaOptC
import Derived.Test.YtjccnhipdhpkoaaOptB
import Derived.Deep.RegionHeld
namespace Go.Proofs.Ytjccnhipdhpkoaa.optionsJoin
open Go.RowKit Opt
set_option maxRecDepth 100000
attribute [local go_sem ↓] eql_opts

open Reg
theorem read_len {s : Tx} {l : List Bool} (h : readO s = some l) : l.length = 7 := by
  rw [read_words] at h
  split at h
  · obtain rfl := Option.some.inj h
    exact outW_len _ none7 rfl
  · cases h
set_option maxHeartbeats 4000000 in
theorem bad10 (W : World) (s t U : Tx) (hs : s.length ≤ 200) (ht : t.length ≤ 200) (h1 : readO s = none) (h2 : readO t = none) (hU : U = s ++ [32, 32] ++ t ++ [32]) (h3 : readO U = none) : Calls Try.prog 6 #[.string (str s), .string (str t)] W fun r w' => r = .returned (.bool true) ∧ Below W.heap.size W w' := by
  have hsz := str_size s
  have htz := str_size t
  have hsi : ¬ (200 : Int) < (s.length : Int) := by omega
  have hti : ¬ (200 : Int) < (t.length : Int) := by omega
  have HA := Lib.hid (awake_any W)
  have H1 := Lib.hid (fun X => read_none (s := s) (by omega) h1 X)
  have H2 := Lib.hid (fun X => read_none (s := t) (by omega) h2 X)
  have hUl : U.length ≤ 1000 := by rw [hU]; simp; omega
  have H3 := Lib.hid (fun X => read_none (s := U) (by omega) h3 X)
  obtain ⟨U1, hU1⟩ : ∃ U1, s ++ [32, 32] = U1 := ⟨_, rfl⟩
  obtain ⟨U2, hU2⟩ : ∃ U2, U1 ++ t = U2 := ⟨_, rfl⟩
  have j1 : str s ++ ⟨#[32, 32]⟩ = str U1 := by rw [← hU1]; exact str_add s [32, 32]
  have j2 : str U1 ++ str t = str U2 := by rw [← hU2]; exact str_add U1 t
  have j3 : str U2 ++ ⟨#[32]⟩ = str U := by rw [hU, hU1, hU2]; exact str_add U2 [32]
  have z1 : (str U1).size = s.length + 2 := by rw [str_size, ← hU1]; simp
  have z2 : (str U2).size = s.length + 2 + t.length := by rw [← j2, ByteArray.size_append, z1, htz]
  have hq : eq7 false false false false false false false false false false false false false false = true := rfl
  clear hU hU1 hU2 h1 h2 h3 hUl
  go_enter Try.func6, Try.ntmps6
  go_wp2_with (first
    | (go_at_call 8; (with_reducible refine HA.out.mono ?_); rintro r w1 ⟨rfl, hb1⟩)
    | (go_at_call 9; (with_reducible refine (H3.out _).mono ?_); rintro r w4 ⟨rfl, hb4⟩)
    | (go_at_call 9; have z := hb2; (with_reducible refine (H2.out _).mono ?_); rintro r w3 ⟨rfl, hb3⟩)
    | (go_at_call 9; (with_reducible refine (H1.out _).mono ?_); rintro r w2 ⟨rfl, hb2⟩))
  go_ret
  have HB2 := (hb1.trans (hb2.mono hb1.size)).alloc (Nat.le_trans hb1.size hb2.size) (.cells #[.bool false, .bool false, .bool false, .bool false, .bool false, .bool false, .bool false] 24)
  have HB3 := (HB2.trans (hb3.mono HB2.size)).alloc (Nat.le_trans HB2.size hb3.size) (.cells #[.bool false, .bool false, .bool false, .bool false, .bool false, .bool false, .bool false] 24)
  exact ⟨rfl, (HB3.trans (hb4.mono HB3.size)).alloc (Nat.le_trans HB3.size hb4.size) (.cells #[.bool false, .bool false, .bool false, .bool false, .bool false, .bool false, .bool false] 24)⟩
set_option maxHeartbeats 4000000 in
theorem bad1 (W : World) (s t U : Tx) (hs : s.length ≤ 200) (ht : t.length ≤ 200) {a b c d e f g : Bool} (h1 : readO s = none) (h2 : readO t = some [a, b, c, d, e, f, g]) (hU : U = s ++ [32, 32] ++ t ++ [32]) (h3 : readO U = none) : Calls Try.prog 6 #[.string (str s), .string (str t)] W fun r w' => r = .returned (.bool true) ∧ Below W.heap.size W w' := by
  have hsz := str_size s
  have htz := str_size t
  have hsi : ¬ (200 : Int) < (s.length : Int) := by omega
  have hti : ¬ (200 : Int) < (t.length : Int) := by omega
  have HA := Lib.hid (awake_any W)
  have H1 := Lib.hid (fun X => read_none (s := s) (by omega) h1 X)
  have H2 := Lib.hid (fun X => read_some (s := t) (by omega) h2 X)
  have hUl : U.length ≤ 1000 := by rw [hU]; simp; omega
  have H3 := Lib.hid (fun X => read_none (s := U) (by omega) h3 X)
  obtain ⟨U1, hU1⟩ : ∃ U1, s ++ [32, 32] = U1 := ⟨_, rfl⟩
  obtain ⟨U2, hU2⟩ : ∃ U2, U1 ++ t = U2 := ⟨_, rfl⟩
  have j1 : str s ++ ⟨#[32, 32]⟩ = str U1 := by rw [← hU1]; exact str_add s [32, 32]
  have j2 : str U1 ++ str t = str U2 := by rw [← hU2]; exact str_add U1 t
  have j3 : str U2 ++ ⟨#[32]⟩ = str U := by rw [hU, hU1, hU2]; exact str_add U2 [32]
  have z1 : (str U1).size = s.length + 2 := by rw [str_size, ← hU1]; simp
  have z2 : (str U2).size = s.length + 2 + t.length := by rw [← j2, ByteArray.size_append, z1, htz]
  have hq : eq7 false false false false false false false false false false false false false false = true := rfl
  clear hU hU1 hU2 h1 h2 h3 hUl
  go_enter Try.func6, Try.ntmps6
  go_wp2_with (first
    | (go_at_call 8; (with_reducible refine HA.out.mono ?_); rintro r w1 ⟨rfl, hb1⟩)
    | (go_at_call 9; (with_reducible refine (H3.out _).mono ?_); rintro r w4 ⟨rfl, hb4⟩)
    | (go_at_call 9; have z := hb2; (with_reducible refine (H2.out _).mono ?_); rintro r w3 ⟨rfl, hb3⟩)
    | (go_at_call 9; (with_reducible refine (H1.out _).mono ?_); rintro r w2 ⟨rfl, hb2⟩))
  go_ret
  have HB2 := (hb1.trans (hb2.mono hb1.size)).alloc (Nat.le_trans hb1.size hb2.size) (.cells #[.bool false, .bool false, .bool false, .bool false, .bool false, .bool false, .bool false] 24)
  have HB3 := (HB2.trans (hb3.mono HB2.size)).alloc (Nat.le_trans HB2.size hb3.size) (.cells #[.bool a, .bool b, .bool c, .bool d, .bool e, .bool f, .bool g] 24)
  exact ⟨rfl, (HB3.trans (hb4.mono HB3.size)).alloc (Nat.le_trans HB3.size hb4.size) (.cells #[.bool false, .bool false, .bool false, .bool false, .bool false, .bool false, .bool false] 24)⟩
set_option maxHeartbeats 4000000 in
theorem bad0 (W : World) (s t U : Tx) (hs : s.length ≤ 200) (ht : t.length ≤ 200) {a b c d e f g : Bool} (h1 : readO s = some [a, b, c, d, e, f, g]) (h2 : readO t = none) (hU : U = s ++ [32, 32] ++ t ++ [32]) (h3 : readO U = none) : Calls Try.prog 6 #[.string (str s), .string (str t)] W fun r w' => r = .returned (.bool true) ∧ Below W.heap.size W w' := by
  have hsz := str_size s
  have htz := str_size t
  have hsi : ¬ (200 : Int) < (s.length : Int) := by omega
  have hti : ¬ (200 : Int) < (t.length : Int) := by omega
  have HA := Lib.hid (awake_any W)
  have H1 := Lib.hid (fun X => read_some (s := s) (by omega) h1 X)
  have H2 := Lib.hid (fun X => read_none (s := t) (by omega) h2 X)
  have hUl : U.length ≤ 1000 := by rw [hU]; simp; omega
  have H3 := Lib.hid (fun X => read_none (s := U) (by omega) h3 X)
  obtain ⟨U1, hU1⟩ : ∃ U1, s ++ [32, 32] = U1 := ⟨_, rfl⟩
  obtain ⟨U2, hU2⟩ : ∃ U2, U1 ++ t = U2 := ⟨_, rfl⟩
  have j1 : str s ++ ⟨#[32, 32]⟩ = str U1 := by rw [← hU1]; exact str_add s [32, 32]
  have j2 : str U1 ++ str t = str U2 := by rw [← hU2]; exact str_add U1 t
  have j3 : str U2 ++ ⟨#[32]⟩ = str U := by rw [hU, hU1, hU2]; exact str_add U2 [32]
  have z1 : (str U1).size = s.length + 2 := by rw [str_size, ← hU1]; simp
  have z2 : (str U2).size = s.length + 2 + t.length := by rw [← j2, ByteArray.size_append, z1, htz]
  have hq : eq7 false false false false false false false false false false false false false false = true := rfl
  clear hU hU1 hU2 h1 h2 h3 hUl
  go_enter Try.func6, Try.ntmps6
  go_wp2_with (first
    | (go_at_call 8; (with_reducible refine HA.out.mono ?_); rintro r w1 ⟨rfl, hb1⟩)
    | (go_at_call 9; (with_reducible refine (H3.out _).mono ?_); rintro r w4 ⟨rfl, hb4⟩)
    | (go_at_call 9; have z := hb2; (with_reducible refine (H2.out _).mono ?_); rintro r w3 ⟨rfl, hb3⟩)
    | (go_at_call 9; (with_reducible refine (H1.out _).mono ?_); rintro r w2 ⟨rfl, hb2⟩))
  go_ret
  have HB2 := (hb1.trans (hb2.mono hb1.size)).alloc (Nat.le_trans hb1.size hb2.size) (.cells #[.bool a, .bool b, .bool c, .bool d, .bool e, .bool f, .bool g] 24)
  have HB3 := (HB2.trans (hb3.mono HB2.size)).alloc (Nat.le_trans HB2.size hb3.size) (.cells #[.bool false, .bool false, .bool false, .bool false, .bool false, .bool false, .bool false] 24)
  exact ⟨rfl, (HB3.trans (hb4.mono HB3.size)).alloc (Nat.le_trans HB3.size hb4.size) (.cells #[.bool false, .bool false, .bool false, .bool false, .bool false, .bool false, .bool false] 24)⟩
theorem half (z : Bool) (n : Nat) : ((if z = true then 1 else 0) + 2 * n) / 2 = n := by cases z <;> simp <;> omega
theorem low (z : Bool) (n : Nat) : ((if z = true then 1 else 0) + 2 * n) % 2 = if z = true then 1 else 0 := by cases z <;> simp <;> omega
theorem bitsO_or : ∀ a b : List Bool, a.length = b.length → bitsO (orL a b) = bitsO a ||| bitsO b
  | [], [], _ => rfl
  | x :: a, y :: b, h => by
    have ih := bitsO_or a b (by simpa using h)
    show (if (x || y) = true then 1 else 0) + 2 * bitsO (orL a b) = ((if x = true then 1 else 0) + 2 * bitsO a) ||| ((if y = true then 1 else 0) + 2 * bitsO b)
    rw [ih]
    apply Nat.eq_of_testBit_eq
    intro i
    rw [Nat.testBit_or]
    cases i with
    | zero => rw [Nat.testBit_zero, Nat.testBit_zero, Nat.testBit_zero, low, low, low]; cases x <;> cases y <;> rfl
    | succ i => rw [Nat.testBit_succ, Nat.testBit_succ, Nat.testBit_succ, half, half, half, Nat.testBit_or]
theorem or_bits (m n : Nat) (hm : m < 128) (hn : n < 128) : bits BinOp.or IntKind.u8 (m : Int) (n : Int) = ((m ||| n : Nat) : Int) := by
  have h : m ||| n < 128 := Nat.or_lt_two_pow (n := 7) hm hn
  have e : (BitVec.ofInt 8 (m : Int) ||| BitVec.ofInt 8 (n : Int)).toNat = m ||| n := by
    rw [BitVec.toNat_or, BitVec.ofInt_natCast, BitVec.ofInt_natCast, BitVec.toNat_ofNat, BitVec.toNat_ofNat, Nat.mod_eq_of_lt (by omega), Nat.mod_eq_of_lt (by omega)]
  show IntKind.u8.wrap ((BitVec.ofInt 8 (m : Int) ||| BitVec.ofInt 8 (n : Int)).toNat : Int) = _
  rw [e]
  have : IntKind.u8.wrap ((m ||| n : Nat) : Int) = ((m ||| n : Nat) : Int) := IntWalk.u8_in _ ⟨by omega, by omega⟩
  exact this
set_option maxHeartbeats 8000000 in
theorem good (W : World) (s t U : Tx) (hs : s.length ≤ 200) (ht : t.length ≤ 200) {a1 b1 c1 d1 e1 f1 g1 a2 b2 c2 d2 e2 f2 g2 a3 b3 c3 d3 e3 f3 g3 : Bool} (h1 : readO s = some [a1, b1, c1, d1, e1, f1, g1]) (h2 : readO t = some [a2, b2, c2, d2, e2, f2, g2]) (hU : U = s ++ [32, 32] ++ t ++ [32]) (h3 : readO U = some [a3, b3, c3, d3, e3, f3, g3])
    (ho : orL [a1, b1, c1, d1, e1, f1, g1] [a2, b2, c2, d2, e2, f2, g2] = [a3, b3, c3, d3, e3, f3, g3]) : Calls Try.prog 6 #[.string (str s), .string (str t)] W fun r w' => r = .returned (.bool true) ∧ Below W.heap.size W w' := by
  have hsz := str_size s
  have htz := str_size t
  have hsi : ¬ (200 : Int) < (s.length : Int) := by omega
  have hti : ¬ (200 : Int) < (t.length : Int) := by omega
  have HA := Lib.hid (awake_any W)
  have H1 := Lib.hid (fun X => read_some (s := s) (by omega) h1 X)
  have H2 := Lib.hid (fun X => read_some (s := t) (by omega) h2 X)
  have hUl : U.length ≤ 1000 := by rw [hU]; simp; omega
  have H3 := Lib.hid (fun X => read_some (s := U) (by omega) h3 X)
  obtain ⟨U1, hU1⟩ : ∃ U1, s ++ [32, 32] = U1 := ⟨_, rfl⟩
  obtain ⟨U2, hU2⟩ : ∃ U2, U1 ++ t = U2 := ⟨_, rfl⟩
  have j1 : str s ++ ⟨#[32, 32]⟩ = str U1 := by rw [← hU1]; exact str_add s [32, 32]
  have j2 : str U1 ++ str t = str U2 := by rw [← hU2]; exact str_add U1 t
  have j3 : str U2 ++ ⟨#[32]⟩ = str U := by rw [hU, hU1, hU2]; exact str_add U2 [32]
  have z1 : (str U1).size = s.length + 2 := by rw [str_size, ← hU1]; simp
  have z2 : (str U2).size = s.length + 2 + t.length := by rw [← j2, ByteArray.size_append, z1, htz]
  have HX := Lib.hid (fun X => bits_any a1 b1 c1 d1 e1 f1 g1 X)
  have HY := Lib.hid (fun X => bits_any a2 b2 c2 d2 e2 f2 g2 X)
  have HZ := Lib.hid (fun X => bits_any a3 b3 c3 d3 e3 f3 g3 X)
  have hb1 := bits_lt a1 b1 c1 d1 e1 f1 g1
  have hb2 := bits_lt a2 b2 c2 d2 e2 f2 g2
  have hob := or_bits (bitsO [a1, b1, c1, d1, e1, f1, g1]) (bitsO [a2, b2, c2, d2, e2, f2, g2]) hb1 hb2
  rw [← bitsO_or [a1, b1, c1, d1, e1, f1, g1] [a2, b2, c2, d2, e2, f2, g2] rfl, ho] at hob
  clear hb1 hb2
  obtain ⟨n1, hn1⟩ : ∃ n1, bitsO [a1, b1, c1, d1, e1, f1, g1] = n1 := ⟨_, rfl⟩
  obtain ⟨n2, hn2⟩ : ∃ n2, bitsO [a2, b2, c2, d2, e2, f2, g2] = n2 := ⟨_, rfl⟩
  obtain ⟨n3, hn3⟩ : ∃ n3, bitsO [a3, b3, c3, d3, e3, f3, g3] = n3 := ⟨_, rfl⟩
  rw [hn1] at HX hob
  rw [hn2] at HY hob
  rw [hn3] at HZ hob
  clear hU hU1 hU2 h1 h2 h3 hUl ho hn1 hn2 hn3
  go_enter Try.func6, Try.ntmps6
  go_wp2_with (first
    | (go_at_call 8; (with_reducible refine HA.out.mono ?_); rintro r w1 ⟨rfl, hb1⟩)
    | (go_at_call 9; (with_reducible refine (H3.out _).mono ?_); rintro r w4 ⟨rfl, hb4⟩)
    | (go_at_call 9; have z := hb2; (with_reducible refine (H2.out _).mono ?_); rintro r w3 ⟨rfl, hb3⟩)
    | (go_at_call 9; (with_reducible refine (H1.out _).mono ?_); rintro r w2 ⟨rfl, hb2⟩))
  have x2 := ((((bk_new w2 a1 b1 c1 d1 e1 f1 g1).keep hb3 (by simp)).keep ((Below.refl w3.heap.size w3).alloc (Nat.le_refl _) (.cells #[.bool a2, .bool b2, .bool c2, .bool d2, .bool e2, .bool f2, .bool g2] 24)) (by have := hb3.size; simp at this; omega)).keep hb4 (by have := hb3.size; simp at this ⊢; omega)).keep ((Below.refl w4.heap.size w4).alloc (Nat.le_refl _) (.cells #[.bool a3, .bool b3, .bool c3, .bool d3, .bool e3, .bool f3, .bool g3] 24)) (by have := hb3.size; have := hb4.size; simp at *; omega)
  have x3 := ((bk_new w3 a2 b2 c2 d2 e2 f2 g2).keep hb4 (by simp)).keep ((Below.refl w4.heap.size w4).alloc (Nat.le_refl _) (.cells #[.bool a3, .bool b3, .bool c3, .bool d3, .bool e3, .bool f3, .bool g3] 24)) (by have := hb4.size; simp at *; omega)
  have x4 := bk_new w4 a3 b3 c3 d3 e3 f3 g3
  have HB2 := (hb1.trans (hb2.mono hb1.size)).alloc (Nat.le_trans hb1.size hb2.size) (.cells #[.bool a1, .bool b1, .bool c1, .bool d1, .bool e1, .bool f1, .bool g1] 24)
  have HB3 := (HB2.trans (hb3.mono HB2.size)).alloc (Nat.le_trans HB2.size hb3.size) (.cells #[.bool a2, .bool b2, .bool c2, .bool d2, .bool e2, .bool f2, .bool g2] 24)
  have HB4 := Lib.hid ((HB3.trans (hb4.mono HB3.size)).alloc (Nat.le_trans HB3.size hb4.size) (.cells #[.bool a3, .bool b3, .bool c3, .bool d3, .bool e3, .bool f3, .bool g3] 24))
  generalize hW4 : w4.alloc (.cells #[.bool a3, .bool b3, .bool c3, .bool d3, .bool e3, .bool f3, .bool g3] 24) = W4 at *
  have HBB : Hid (Below W4.heap.size W4 W4) := Lib.hid (Below.refl _ _)
  have KX := Lib.hid (fun X (h : Below W4.heap.size W4 X) => x2.keep h x2.lt)
  have KY := Lib.hid (fun X (h : Below W4.heap.size W4 X) => x3.keep h x3.lt)
  have KZ := Lib.hid (fun X (h : Below W4.heap.size W4 X) => x4.keep h x4.lt)
  clear x2 x3 x4 HB2 HB3 hb1 hb2 hb3 hb4 hW4
  refine wp_region_held_drew (S := fun w' => Below W4.drew.heap.size W4.drew w') (by kernel_rfl) (Below.refl _ _) (fun hH0 => ?_)
  have B0 := Lib.hid (below_drews HBB.out 1)
  change Hid (Below _ _ W4.drew) at B0
  generalize W4.drew = x0 at *
  refine held_take (i := 0) (d := 55) (oi := _) (v := ?_) rfl rfl (by kernel_rfl) (by kernel_rfl) (by kernel_rfl) (fun _ _ _ h => h) (Or.inl ⟨by rfl, ?_⟩) (by assumption) ?_
  rotate_left
  · (intro w hSw; clear hSw; go_simp; (try with_reducible rfl))
  simp only [Act.put, List.setIfInBounds_toArray, List.set_cons_zero, List.set_cons_succ]
  refine held_take (i := 1) (d := 56) (oi := _) (v := ?_) rfl rfl (by kernel_rfl) (by kernel_rfl) (by kernel_rfl) (fun _ _ _ h => h) (Or.inl ⟨by rfl, ?_⟩) (by assumption) ?_
  rotate_left
  · (intro w hSw; clear hSw; go_simp; (try with_reducible rfl))
  simp only [Act.put, List.setIfInBounds_toArray, List.set_cons_zero, List.set_cons_succ]
  refine held_take (i := 2) (d := 57) (oi := _) (v := ?_) rfl rfl (by kernel_rfl) (by kernel_rfl) (by kernel_rfl) (fun _ _ _ h => h) (Or.inl ⟨by rfl, ?_⟩) (by assumption) ?_
  rotate_left
  · (intro w hSw; clear hSw; go_simp; (try with_reducible rfl))
  simp only [Act.put, List.setIfInBounds_toArray, List.set_cons_zero, List.set_cons_succ]
  refine held_take (i := 3) (d := 58) (oi := _) (v := ?_) rfl rfl (by kernel_rfl) (by kernel_rfl) (by kernel_rfl) (fun _ _ _ h => h) (Or.inl ⟨by rfl, ?_⟩) (by assumption) ?_
  rotate_left
  · (intro w hSw; have hbk := KZ.out w (B0.out.trans (hSw.mono B0.out.size)); have q0 := hbk.cell (k := 0) rfl; have q1 := hbk.cell (k := 1) rfl; have q2 := hbk.cell (k := 2) rfl; have q3 := hbk.cell (k := 3) rfl; have q4 := hbk.cell (k := 4) rfl; have q5 := hbk.cell (k := 5) rfl; have q6 := hbk.cell (k := 6) rfl; clear hSw hbk; go_simp; (try with_reducible rfl))
  simp only [Act.put, List.setIfInBounds_toArray, List.set_cons_zero, List.set_cons_succ]
  refine held_take (i := 5) (d := 60) (oi := _) (v := ?_) rfl rfl (by kernel_rfl) (by kernel_rfl) (by kernel_rfl) (fun _ _ _ h => h) (Or.inl ⟨by rfl, ?_⟩) (by assumption) ?_
  rotate_left
  · (intro w hSw; have hbk := KX.out w (B0.out.trans (hSw.mono B0.out.size)); have q0 := hbk.cell (k := 0) rfl; have q1 := hbk.cell (k := 1) rfl; have q2 := hbk.cell (k := 2) rfl; have q3 := hbk.cell (k := 3) rfl; have q4 := hbk.cell (k := 4) rfl; have q5 := hbk.cell (k := 5) rfl; have q6 := hbk.cell (k := 6) rfl; clear hSw hbk; go_simp; (try with_reducible rfl))
  simp only [Act.put, List.setIfInBounds_toArray, List.set_cons_zero, List.set_cons_succ]
  refine held_take (i := 7) (d := 62) (oi := _) (v := ?_) rfl rfl (by kernel_rfl) (by kernel_rfl) (by kernel_rfl) (fun _ _ _ h => h) (Or.inl ⟨by rfl, ?_⟩) (by assumption) ?_
  rotate_left
  · (intro w hSw; have hbk := KY.out w (B0.out.trans (hSw.mono B0.out.size)); have q0 := hbk.cell (k := 0) rfl; have q1 := hbk.cell (k := 1) rfl; have q2 := hbk.cell (k := 2) rfl; have q3 := hbk.cell (k := 3) rfl; have q4 := hbk.cell (k := 4) rfl; have q5 := hbk.cell (k := 5) rfl; have q6 := hbk.cell (k := 6) rfl; clear hSw hbk; go_simp; (try with_reducible rfl))
  simp only [Act.put, List.setIfInBounds_toArray, List.set_cons_zero, List.set_cons_succ]
  refine wpAnyH_ready (rs := [4]) (by kernel_rfl) (by simp) ?_
  refine AllReadyH.cons rfl (fun K hK => ?_) AllReadyH.nil
  go_simp
  go_wp2_with (go_at_call 14; (with_reducible refine (HZ.out _).mono ?_); rintro e x1 ⟨rfl, hb⟩)
  refine hK.out _ _ hb (fun _ => ?_)
  have B1 := Lib.hid (B0.out.trans (hb.mono B0.out.size))
  refine wpAnyH_more (S' := fun w' => Below x1.heap.size x1 w') (fun w' h => hb.trans (h.mono hb.size)) _ _ _ _ ?_
  have hH1 : Below x1.heap.size x1 x1 := Below.refl _ _
  clear hK K hH0 hb B0
  refine wpAnyH_ready (rs := [6]) (by kernel_rfl) (by simp) ?_
  refine AllReadyH.cons rfl (fun K hK => ?_) AllReadyH.nil
  go_simp
  go_wp2_with (go_at_call 14; (with_reducible refine (HX.out _).mono ?_); rintro e x2 ⟨rfl, hb⟩)
  refine hK.out _ _ hb (fun _ => ?_)
  have B2 := Lib.hid (B1.out.trans (hb.mono B1.out.size))
  refine wpAnyH_more (S' := fun w' => Below x2.heap.size x2 w') (fun w' h => hb.trans (h.mono hb.size)) _ _ _ _ ?_
  have hH2 : Below x2.heap.size x2 x2 := Below.refl _ _
  clear hK K hH1 hb B1
  refine wpAnyH_ready (rs := [8]) (by kernel_rfl) (by simp) ?_
  refine AllReadyH.cons rfl (fun K hK => ?_) AllReadyH.nil
  go_simp
  go_wp2_with (go_at_call 14; (with_reducible refine (HY.out _).mono ?_); rintro e x3 ⟨rfl, hb⟩)
  refine hK.out _ _ hb (fun _ => ?_)
  have B3 := Lib.hid (B2.out.trans (hb.mono B2.out.size))
  refine wpAnyH_more (S' := fun w' => Below x3.heap.size x3 w') (fun w' h => hb.trans (h.mono hb.size)) _ _ _ _ ?_
  have hH3 : Below x3.heap.size x3 x3 := Below.refl _ _
  clear hK K hH2 hb B2
  refine held_take (i := 9) (d := 64) (oi := _) (v := ?_) rfl rfl (by kernel_rfl) (by kernel_rfl) (by kernel_rfl) (fun _ _ _ h => h) (Or.inl ⟨by rfl, ?_⟩) (by assumption) ?_
  rotate_left
  · (intro w hSw; clear hSw; go_simp; (try with_reducible rfl))
  simp only [Act.put, List.setIfInBounds_toArray, List.set_cons_zero, List.set_cons_succ]
  refine held_take (i := 10) (d := 65) (oi := _) (v := ?_) rfl rfl (by kernel_rfl) (by kernel_rfl) (by kernel_rfl) (fun _ _ _ h => h) (Or.inl ⟨by rfl, ?_⟩) (by assumption) ?_
  rotate_left
  · (intro w hSw; clear hSw; go_simp; (try with_reducible rfl))
  simp only [Act.put, List.setIfInBounds_toArray, List.set_cons_zero, List.set_cons_succ]
  refine held_take (i := 11) (d := 66) (oi := _) (v := ?_) rfl rfl (by kernel_rfl) (by kernel_rfl) (by kernel_rfl) (fun _ _ _ h => h) (Or.inl ⟨by rfl, ?_⟩) (by assumption) ?_
  rotate_left
  · (intro w hSw; clear hSw; go_simp; (try with_reducible rfl))
  simp only [Act.put, List.setIfInBounds_toArray, List.set_cons_zero, List.set_cons_succ]
  refine held_take (i := 12) (d := 4) (oi := _) (v := ?_) rfl rfl (by kernel_rfl) (by kernel_rfl) (by kernel_rfl) (fun _ _ _ h => h) (Or.inl ⟨by rfl, ?_⟩) (by assumption) ?_
  rotate_left
  · (intro w hSw; clear hSw; go_simp; (try with_reducible rfl))
  simp only [Act.put, List.setIfInBounds_toArray, List.set_cons_zero, List.set_cons_succ]
  refine wpAnyH_done (by kernel_rfl) ?_ _
  go_wp2_with fail
  go_ret
  exact ⟨rfl, HB4.out.trans (B3.out.mono HB4.out.size)⟩
theorem walk (W : World) (s t : Tx) : Calls Try.prog 6 #[.string (str s), .string (str t)] W fun r w' => r = .returned (.bool true) ∧ Below W.heap.size W w' := by
  have hsz := str_size s
  have htz := str_size t
  have HA := Lib.hid (awake_any W)
  by_cases hs : s.length ≤ 200
  rotate_left
  · have hsi : decide ((200 : Int) < (s.length : Int)) = true := decide_eq_true (by omega)
    go_enter Try.func6, Try.ntmps6
    go_wp2_with (go_at_call 8; (with_reducible refine HA.out.mono ?_); rintro r w1 ⟨rfl, hb1⟩)
    go_ret
    exact ⟨rfl, hb1⟩
  by_cases ht : t.length ≤ 200
  rotate_left
  · have hsi : decide ((200 : Int) < (s.length : Int)) = false := decide_eq_false (by omega)
    have hti : decide ((200 : Int) < (t.length : Int)) = true := decide_eq_true (by omega)
    go_enter Try.func6, Try.ntmps6
    go_wp2_with (go_at_call 8; (with_reducible refine HA.out.mono ?_); rintro r w1 ⟨rfl, hb1⟩)
    go_ret
    exact ⟨rfl, hb1⟩
  clear HA hsz htz
  have hj := read_join s t
  cases h1 : readO s with
  | none =>
    rw [h1] at hj
    cases h2 : readO t with
    | none => exact bad10 W s t _ hs ht h1 h2 rfl hj
    | some l =>
      obtain ⟨a, b, c, d, e, f, g, rfl⟩ := seven l (read_len h2)
      exact bad1 W s t _ hs ht h1 h2 rfl hj
  | some l =>
    obtain ⟨a1, b1, c1, d1, e1, f1, g1, rfl⟩ := seven l (read_len h1)
    cases h2 : readO t with
    | none =>
      rw [h1, h2] at hj
      exact bad0 W s t _ hs ht h1 h2 rfl hj
    | some m =>
      obtain ⟨a2, b2, c2, d2, e2, f2, g2, rfl⟩ := seven m (read_len h2)
      rw [h1, h2] at hj
      exact good W s t _ hs ht h1 h2 rfl hj rfl
end Go.Proofs.Ytjccnhipdhpkoaa.optionsJoin
