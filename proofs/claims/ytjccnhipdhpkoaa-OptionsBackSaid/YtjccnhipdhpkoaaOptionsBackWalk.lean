/- OptionsBack, walked. -/
import Derived.Test.YtjccnhipdhpkoaaOptC
namespace Go.Proofs.Ytjccnhipdhpkoaa.optionsBack
open Go.RowKit Opt
set_option maxRecDepth 100000
attribute [local go_sem ↓] eql_opts

theorem of_val {n : Nat} (hn : n < 256) {a b c d e f g : Bool} (h : ofO n = [a, b, c, d, e, f, g]) (w : World) : Calls Try.prog 17 #[.int .u8 (n : Int)] w fun r w' => r = .returned (val7 a b c d e f g) ∧ Below w.heap.size w w' := by
  have := of_any n hn w
  rw [h] at this
  refine this.mono ?_
  rintro r w' ⟨⟨a', b', c', d', e', f', g', h1, rfl⟩, hb⟩
  simp only [List.cons.injEq, and_true] at h1
  obtain ⟨rfl, rfl, rfl, rfl, rfl, rfl, rfl⟩ := h1
  exact ⟨rfl, hb⟩
theorem eq7_same (a b c d e f g : Bool) : eq7 a b c d e f g a b c d e f g = true := by simp [eq7]
theorem low7 (n : Nat) (hn : n < 256) : bits BinOp.and IntKind.u8 (n : Int) 127 = ((n % 128 : Nat) : Int) := by
  have h : ∀ n : Fin 256, bits BinOp.and IntKind.u8 (n.val : Int) 127 = ((n.val % 128 : Nat) : Int) := by decide +kernel
  exact h ⟨n, hn⟩
theorem show_len : ∀ a b c d e f g : Bool, (showO [a, b, c, d, e, f, g]).length ≤ 8 := by decide +kernel

set_option maxHeartbeats 4000000 in
theorem walk (W : World) (a b c d e f g : Bool) (k : UInt8) : Calls Try.prog 5 #[val7 a b c d e f g, .int .u8 (k.toNat : Int)] W fun r w' => r = .returned (.bool true) ∧ Below W.heap.size W w' := by
  obtain ⟨a6, b6, c6, d6, e6, f6, g6, h6⟩ := of_seven k.toNat
  have hk := k.toNat_lt
  have K0 := bk_new W a b c d e f g
  have HB0 := Lib.hid ((Below.refl W.heap.size W).alloc (Nat.le_refl _) (.cells #[.bool a, .bool b, .bool c, .bool d, .bool e, .bool f, .bool g] 24))
  have HA := Lib.hid (fun X => awake_any X)
  have HSH := Lib.hid (fun X => show_any a b c d e f g X)
  have HRD := Lib.hid (fun X => read_some (s := showO [a, b, c, d, e, f, g]) (Nat.le_trans (show_len a b c d e f g) (by decide)) (read_show a b c d e f g) X)
  have HBI := Lib.hid (fun X => bits_any a b c d e f g X)
  have hn8 := bits_lt a b c d e f g
  have HOF := Lib.hid (fun X => of_val (n := bitsO [a, b, c, d, e, f, g]) (by omega) (of_bits a b c d e f g) X)
  have HOK := Lib.hid (fun X => of_val (n := k.toNat) hk h6 X)
  have hm : ofO (k.toNat % 128) = [a6, b6, c6, d6, e6, f6, g6] := by rw [← h6]; exact (of_mod ⟨k.toNat, hk⟩).symm
  have HOM := Lib.hid (fun X => of_val (n := k.toNat % 128) (by omega) hm X)
  have HBV := Lib.hid (fun X => bits_any a6 b6 c6 d6 e6 f6 g6 X)
  have hbv : bitsO [a6, b6, c6, d6, e6, f6, g6] = k.toNat % 128 := by rw [← h6]; exact bits_of ⟨k.toNat, hk⟩
  rw [hbv] at HBV
  have hlow := low7 k.toNat hk
  obtain ⟨n, hn⟩ : ∃ n, k.toNat = n := ⟨_, rfl⟩
  rw [hn] at HOK hlow HBV HOM ⊢
  obtain ⟨m, hm2⟩ : ∃ m, n % 128 = m := ⟨_, rfl⟩
  rw [hm2] at hlow HBV HOM
  obtain ⟨T, hT⟩ : ∃ T, showO [a, b, c, d, e, f, g] = T := ⟨_, rfl⟩
  obtain ⟨n0, hn0⟩ : ∃ n0, bitsO [a, b, c, d, e, f, g] = n0 := ⟨_, rfl⟩
  rw [hT] at HSH HRD
  rw [hn0] at HBI HOF
  have hq1 := eq7_same a b c d e f g
  have hq2 := eq7_same a6 b6 c6 d6 e6 f6 g6
  clear hT hn0 hn8 hm hm2 hbv hn hk h6
  go_enter Try.func5, Try.ntmps5
  go_wp2_with (first
    | (go_at_call 8; (with_reducible refine (HA.out _).mono ?_); rintro r w1 ⟨rfl, hb1⟩; have K1 := K0.keep hb1 (by simp); have l0 := K1.cell (k := 0) rfl; have l1 := K1.cell (k := 1) rfl; have l2 := K1.cell (k := 2) rfl; have l3 := K1.cell (k := 3) rfl; have l4 := K1.cell (k := 4) rfl; have l5 := K1.cell (k := 5) rfl; have l6 := K1.cell (k := 6) rfl)
    | (go_at_call 12; (with_reducible refine (HSH.out _).mono ?_); rintro r w2 ⟨rfl, hb2⟩)
    | (go_at_call 9; (with_reducible refine (HRD.out _).mono ?_); rintro r w3 ⟨rfl, hb3⟩; have K3 := (K1.keep hb2 K1.lt).keep hb3 (Nat.lt_of_lt_of_le K1.lt hb2.size); have t3 := K3.lt; have n0 := K3.cell (k := 0) rfl; have n1 := K3.cell (k := 1) rfl; have n2 := K3.cell (k := 2) rfl; have n3 := K3.cell (k := 3) rfl; have n4 := K3.cell (k := 4) rfl; have n5 := K3.cell (k := 5) rfl; have n6 := K3.cell (k := 6) rfl)
    | (go_at_call 14; (with_reducible refine (HBI.out _).mono ?_); rintro r w4 ⟨rfl, hb4⟩; have K4 := (K3.keep ((Below.refl w3.heap.size w3).alloc (Nat.le_refl _) (.cells #[.bool a, .bool b, .bool c, .bool d, .bool e, .bool f, .bool g] 24)) t3).keep hb4 (by simp; omega); have X4 := (bk_new w3 a b c d e f g).keep hb4 (by simp))
    | (go_at_call 17; (with_reducible refine (HOF.out _).mono ?_); rintro r w5 ⟨rfl, hb5⟩; have K5 := K4.keep hb5 K4.lt; have X5 := X4.keep hb5 X4.lt; have t5 := K5.lt; have u5 := X5.lt; have p0 := K5.cell (k := 0) rfl; have p1 := K5.cell (k := 1) rfl; have p2 := K5.cell (k := 2) rfl; have p3 := K5.cell (k := 3) rfl; have p4 := K5.cell (k := 4) rfl; have p5 := K5.cell (k := 5) rfl; have p6 := K5.cell (k := 6) rfl; have q0 := X5.cell (k := 0) rfl; have q1 := X5.cell (k := 1) rfl; have q2 := X5.cell (k := 2) rfl; have q3 := X5.cell (k := 3) rfl; have q4 := X5.cell (k := 4) rfl; have q5 := X5.cell (k := 5) rfl; have q6 := X5.cell (k := 6) rfl)
    | (go_at_call 17; have z6 := hb6; (with_reducible refine (HOK.out _).mono ?_); rintro r w8 ⟨rfl, hb8⟩)
    | (go_at_call 17; (with_reducible refine (HOK.out _).mono ?_); rintro r w6 ⟨rfl, hb6⟩)
    | (go_at_call 14; (with_reducible refine (HBV.out _).mono ?_); rintro r w7 ⟨rfl, hb7⟩)
    | (go_at_call 17; (with_reducible refine (HOM.out _).mono ?_); rintro r w9 ⟨rfl, hb9⟩))
  go_ret
  have HB1 := HB0.out.trans (hb1.mono HB0.out.size)
  have HB2 := HB1.trans (hb2.mono HB1.size)
  have HB3 := (HB2.trans (hb3.mono HB2.size)).alloc (Nat.le_trans HB2.size hb3.size) (.cells #[.bool a, .bool b, .bool c, .bool d, .bool e, .bool f, .bool g] 24)
  have HB4 := HB3.trans (hb4.mono HB3.size)
  have HB5 := (HB4.trans (hb5.mono HB4.size)).alloc (Nat.le_trans HB4.size hb5.size) (.cells #[.bool a, .bool b, .bool c, .bool d, .bool e, .bool f, .bool g] 24)
  have HB6 := HB5.trans (hb6.mono HB5.size)
  have HB7 := HB6.trans (hb7.mono HB6.size)
  have HB8 := HB7.trans (hb8.mono HB7.size)
  exact ⟨rfl, HB8.trans (hb9.mono HB8.size)⟩
end Go.Proofs.Ytjccnhipdhpkoaa.optionsBack
