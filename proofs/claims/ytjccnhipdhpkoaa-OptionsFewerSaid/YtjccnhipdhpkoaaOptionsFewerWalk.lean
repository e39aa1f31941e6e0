/- OptionsFewer, walked. -/
import Derived.Test.YtjccnhipdhpkoaaOptC
namespace Go.Proofs.Ytjccnhipdhpkoaa.optionsFewer
open Go.RowKit Opt
set_option maxRecDepth 100000
attribute [local go_sem ↓] eql_opts

theorem ones (n J : Nat) (hn : n < 128) (hJ : J < 7) : ∃ m : Nat, m < 256 ∧ bits BinOp.andNot IntKind.u8 (n : Int) (2 ^ J % 256) = (m : Int) ∧ ofO m = (ofO n).set J false := by
  have h : ∀ (n : Fin 128) (J : Fin 7), (bits BinOp.andNot IntKind.u8 (n.val : Int) (2 ^ J.val % 256)).toNat < 256 ∧ bits BinOp.andNot IntKind.u8 (n.val : Int) (2 ^ J.val % 256) = ((bits BinOp.andNot IntKind.u8 (n.val : Int) (2 ^ J.val % 256)).toNat : Int) ∧
    ofO (bits BinOp.andNot IntKind.u8 (n.val : Int) (2 ^ J.val % 256)).toNat = (ofO n.val).set J.val false := by decide +kernel
  exact ⟨_, h ⟨n, hn⟩ ⟨J, hJ⟩⟩
theorem one (J : Nat) (hJ : J < 7) : ∃ m : Nat, m < 256 ∧ (2 ^ J % 256 : Int) = (m : Int) ∧ ofO m = none7.set J true := by
  have h : ∀ J : Fin 7, 2 ^ J.val % 256 < 256 ∧ (2 ^ J.val % 256 : Int) = ((2 ^ J.val % 256 : Nat) : Int) ∧ ofO (2 ^ J.val % 256) = none7.set J.val true := by decide +kernel
  exact ⟨_, h ⟨J, hJ⟩⟩
theorem seven5 (n : Nat) (hn : n < 128) : ∃ m : Nat, m < 256 ∧ bits BinOp.and IntKind.u8 (n : Int) 55 = (m : Int) ∧ badO (ofO m) = false := by
  have h : ∀ n : Fin 128, (bits BinOp.and IntKind.u8 (n.val : Int) 55).toNat < 256 ∧ bits BinOp.and IntKind.u8 (n.val : Int) 55 = ((bits BinOp.and IntKind.u8 (n.val : Int) 55).toNat : Int) ∧ badO (ofO (bits BinOp.and IntKind.u8 (n.val : Int) 55).toNat) = false := by decide +kernel
  exact ⟨_, h ⟨n, hn⟩⟩
theorem check_ok {a b c d e f g : Bool} (h : badO [a, b, c, d, e, f, g] = false) (w : World) : Calls Try.prog 16 #[val7 a b c d e f g] w fun r w' => r = .returned (.int .i64 0) ∧ Below w.heap.size w w' := by
  have := check_any a b c d e f g w
  rw [h] at this
  exact this
theorem check_bad {a b c d e f g : Bool} (h : badO [a, b, c, d, e, f, g] = true) (w : World) : Calls Try.prog 16 #[val7 a b c d e f g] w fun r w' => r = .returned (.int .i64 10) ∧ Below w.heap.size w w' := by
  have := check_any a b c d e f g w
  rw [h] at this
  exact this

set_option maxHeartbeats 2000000 in
theorem walk (W : World) (a b c d e f g : Bool) (k : UInt8) : Calls Try.prog 7 #[val7 a b c d e f g, .int .u8 (k.toNat : Int)] W fun r w' => r = .returned (.bool true) ∧ Below W.heap.size W w' := by
  have hk := k.toNat_lt
  have K0 := bk_new W a b c d e f g
  have HB0 := Lib.hid ((Below.refl W.heap.size W).alloc (Nat.le_refl _) (.cells #[.bool a, .bool b, .bool c, .bool d, .bool e, .bool f, .bool g] 24))
  have HA := Lib.hid (fun X => awake_any X)
  have HBI := Lib.hid (fun X => bits_any a b c d e f g X)
  go_enter Try.func7, Try.ntmps7
  go_wp2_with (first
    | (go_at_call 8; (with_reducible refine (HA.out _).mono ?_); rintro r w1 ⟨rfl, hb1⟩; have K1 := K0.keep hb1 (by simp); have l0 := K1.cell (k := 0) rfl; have l1 := K1.cell (k := 1) rfl; have l2 := K1.cell (k := 2) rfl; have l3 := K1.cell (k := 3) rfl; have l4 := K1.cell (k := 4) rfl; have l5 := K1.cell (k := 5) rfl; have l6 := K1.cell (k := 6) rfl)
    | (go_at_call 14; (with_reducible refine (HBI.out _).mono ?_); rintro r w2 ⟨rfl, hb2⟩))
  have K2 := K1.keep hb2 K1.lt
  have HB1 := HB0.out.trans (hb1.mono HB0.out.size)
  have HB2 := Lib.hid (HB1.trans (hb2.mono HB1.size))
  have HN : Hid (bitsO [a, b, c, d, e, f, g] < 128 ∧ ofO (bitsO [a, b, c, d, e, f, g]) = [a, b, c, d, e, f, g]) := Lib.hid ⟨bits_lt a b c d e f g, of_bits a b c d e f g⟩
  obtain ⟨n, hn⟩ : ∃ n, bitsO [a, b, c, d, e, f, g] = n := ⟨_, rfl⟩
  obtain ⟨J, hJ⟩ : ∃ J, k.toNat % 7 = J := ⟨_, rfl⟩
  have hJ7 : J < 7 := by omega
  rw [hn] at HN ⊢
  rw [hJ]
  obtain ⟨m1, hm1, he1, ho1⟩ := ones n J HN.out.1 hJ7
  obtain ⟨m2, hm2, he2, ho2⟩ := one J hJ7
  obtain ⟨m3, hm3, he3, ho3⟩ := seven5 n HN.out.1
  rw [HN.out.2] at ho1
  have HO1 := Lib.hid (fun X => of_any m1 hm1 X)
  have HO2 := Lib.hid (fun X => of_any m2 hm2 X)
  have HO3 := Lib.hid (fun X => of_any m3 hm3 X)
  rw [ho1] at HO1
  rw [ho2] at HO2
  have HE2 := Lib.hid he2
  have HE3 := Lib.hid he3
  have H3 := Lib.hid ho3
  rw [he1]
  clear hb1 hb2 HB1 l0 l1 l2 l3 l4 l5 l6 K0 K1 hn he1 he2 he3 hm1 hm2 hm3 ho1 ho2 ho3
  go_wp2_with (go_at_call 17; (with_reducible refine (HO1.out _).mono ?_); rintro r w3 ⟨⟨a3, b3, c3, d3, e3, f3, g3, h3, rfl⟩, hb3⟩)
  have K3 := (K2.keep hb3 K2.lt).keep ((Below.refl w3.heap.size w3).alloc (Nat.le_refl _) (.cells #[.bool a3, .bool b3, .bool c3, .bool d3, .bool e3, .bool f3, .bool g3] 24)) (Nat.lt_of_lt_of_le K2.lt hb3.size)
  have L3 := bk_new w3 a3 b3 c3 d3 e3 f3 g3
  have HB3 := Lib.hid ((HB2.out.trans (hb3.mono HB2.out.size)).alloc (Nat.le_trans HB2.out.size hb3.size) (.cells #[.bool a3, .bool b3, .bool c3, .bool d3, .bool e3, .bool f3, .bool g3] 24))
  generalize hX3 : w3.alloc _ = W3 at *
  clear hb3 K2 hX3
  have HH3 := Lib.hid h3
  clear h3
  rw [hJ, HE2.out]
  have HL3 := Lib.hid (fun (h : badO [a, b, c, d, e, f, g] = false) => show badO [a3, b3, c3, d3, e3, f3, g3] = false by
    rw [← HH3.out]
    cases hb : badO ([a, b, c, d, e, f, g].set J false) with
    | false => rfl
    | true => rw [bad_less a b c d e f g ⟨J, hJ7⟩ hb] at h; cases h)
  have HB1' := Lib.hid (bad_one ⟨J, hJ7⟩)
  have he3 := HE3.out
  cases hbo : badO [a, b, c, d, e, f, g]
  · have CO := Lib.hid (fun X => check_ok hbo X)
    have CL := Lib.hid (fun X => check_ok (HL3.out hbo) X)
    go_wp2_with (first
      | (go_at_call 17; (with_reducible refine (HO2.out _).mono ?_); rintro r w4 ⟨⟨a4, b4, c4, d4, e4, f4, g4, h4, rfl⟩, hb4⟩; have HH4 := Lib.hid h4; clear h4; have K4 := K3.keep hb4 K3.lt; have L4 := L3.keep hb4 L3.lt; have t4 := K4.lt; have u4 := L4.lt; have l0 := K4.cell (k := 0) rfl; have l1 := K4.cell (k := 1) rfl; have l2 := K4.cell (k := 2) rfl; have l3 := K4.cell (k := 3) rfl; have l4 := K4.cell (k := 4) rfl; have l5 := K4.cell (k := 5) rfl; have l6 := K4.cell (k := 6) rfl)
      | (go_at_call 16; (with_reducible refine (CO.out _).mono ?_); rintro r w5 ⟨rfl, hb5⟩; have L5 := (L4.keep ((Below.refl w4.heap.size w4).alloc (Nat.le_refl _) (.cells #[.bool a4, .bool b4, .bool c4, .bool d4, .bool e4, .bool f4, .bool g4] 24)) u4).keep hb5 (by simp; omega); have M5 := (bk_new w4 a4 b4 c4 d4 e4 f4 g4).keep hb5 (by simp); have p0 := L5.cell (k := 0) rfl; have p1 := L5.cell (k := 1) rfl; have p2 := L5.cell (k := 2) rfl; have p3 := L5.cell (k := 3) rfl; have p4 := L5.cell (k := 4) rfl; have p5 := L5.cell (k := 5) rfl; have p6 := L5.cell (k := 6) rfl; skip)
      | (go_at_call 16; (with_reducible refine (CL.out _).mono ?_); rintro r w6 ⟨rfl, hb6⟩; have M6 := M5.keep hb6 M5.lt; have q0 := M6.cell (k := 0) rfl; have q1 := M6.cell (k := 1) rfl; have q2 := M6.cell (k := 2) rfl; have q3 := M6.cell (k := 3) rfl; have q4 := M6.cell (k := 4) rfl; have q5 := M6.cell (k := 5) rfl; have q6 := M6.cell (k := 6) rfl)
      | (go_at_call 17; (with_reducible refine (HO3.out _).mono ?_); rintro r w8 ⟨⟨a8, b8, c8, d8, e8, f8, g8, h8, rfl⟩, hb8⟩; have HH8 := Lib.hid h8; clear h8)
      | (go_at_call 16; (with_reducible refine (check_ok (by rw [← HH4.out]; exact HB1'.out) _).mono ?_); rintro r w7 ⟨rfl, hb7⟩)
      | (go_at_call 16; (with_reducible refine (check_ok (by rw [← HH8.out]; exact H3.out) _).mono ?_); rintro r w9 ⟨rfl, hb9⟩))
    go_ret
    have HB4 := (HB3.out.trans (hb4.mono HB3.out.size)).alloc (Nat.le_trans HB3.out.size hb4.size) (.cells #[.bool a4, .bool b4, .bool c4, .bool d4, .bool e4, .bool f4, .bool g4] 24)
    have HB5 := HB4.trans (hb5.mono HB4.size)
    have HB6 := HB5.trans (hb6.mono HB5.size)
    have HB7 := HB6.trans (hb7.mono HB6.size)
    have HB8 := HB7.trans (hb8.mono HB7.size)
    have HB9 := HB8.trans (hb9.mono HB8.size)
    exact ⟨rfl, HB9⟩
  · have CO := Lib.hid (fun X => check_bad hbo X)
    go_wp2_with (first
      | (go_at_call 17; (with_reducible refine (HO2.out _).mono ?_); rintro r w4 ⟨⟨a4, b4, c4, d4, e4, f4, g4, h4, rfl⟩, hb4⟩; have HH4 := Lib.hid h4; clear h4; have K4 := K3.keep hb4 K3.lt; have L4 := L3.keep hb4 L3.lt; have t4 := K4.lt; have u4 := L4.lt; have l0 := K4.cell (k := 0) rfl; have l1 := K4.cell (k := 1) rfl; have l2 := K4.cell (k := 2) rfl; have l3 := K4.cell (k := 3) rfl; have l4 := K4.cell (k := 4) rfl; have l5 := K4.cell (k := 5) rfl; have l6 := K4.cell (k := 6) rfl)
      | (go_at_call 16; (with_reducible refine (CO.out _).mono ?_); rintro r w5 ⟨rfl, hb5⟩; have L5 := (L4.keep ((Below.refl w4.heap.size w4).alloc (Nat.le_refl _) (.cells #[.bool a4, .bool b4, .bool c4, .bool d4, .bool e4, .bool f4, .bool g4] 24)) u4).keep hb5 (by simp; omega); have M5 := (bk_new w4 a4 b4 c4 d4 e4 f4 g4).keep hb5 (by simp); have p0 := L5.cell (k := 0) rfl; have p1 := L5.cell (k := 1) rfl; have p2 := L5.cell (k := 2) rfl; have p3 := L5.cell (k := 3) rfl; have p4 := L5.cell (k := 4) rfl; have p5 := L5.cell (k := 5) rfl; have p6 := L5.cell (k := 6) rfl; have q0 := M5.cell (k := 0) rfl; have q1 := M5.cell (k := 1) rfl; have q2 := M5.cell (k := 2) rfl; have q3 := M5.cell (k := 3) rfl; have q4 := M5.cell (k := 4) rfl; have q5 := M5.cell (k := 5) rfl; have q6 := M5.cell (k := 6) rfl)
      | (go_at_call 17; (with_reducible refine (HO3.out _).mono ?_); rintro r w8 ⟨⟨a8, b8, c8, d8, e8, f8, g8, h8, rfl⟩, hb8⟩; have HH8 := Lib.hid h8; clear h8)
      | (go_at_call 16; (with_reducible refine (check_ok (by rw [← HH4.out]; exact HB1'.out) _).mono ?_); rintro r w7 ⟨rfl, hb7⟩)
      | (go_at_call 16; (with_reducible refine (check_ok (by rw [← HH8.out]; exact H3.out) _).mono ?_); rintro r w9 ⟨rfl, hb9⟩))
    go_ret
    have HB4 := (HB3.out.trans (hb4.mono HB3.out.size)).alloc (Nat.le_trans HB3.out.size hb4.size) (.cells #[.bool a4, .bool b4, .bool c4, .bool d4, .bool e4, .bool f4, .bool g4] 24)
    have HB5 := HB4.trans (hb5.mono HB4.size)
    have HB7 := HB5.trans (hb7.mono HB5.size)
    have HB8 := HB7.trans (hb8.mono HB7.size)
    have HB9 := HB8.trans (hb9.mono HB8.size)
    exact ⟨rfl, HB9⟩
end Go.Proofs.Ytjccnhipdhpkoaa.optionsFewer
