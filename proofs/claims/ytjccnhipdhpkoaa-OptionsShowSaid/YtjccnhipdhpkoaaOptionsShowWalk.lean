/- OptionsShow, walked. -/
import Derived.Test.YtjccnhipdhpkoaaOptC
import Derived.Test.YtjccnhipdhpkoaaOptB2
namespace Go.Proofs.Ytjccnhipdhpkoaa.optionsShow
open Go.RowKit Opt
set_option maxRecDepth 100000
attribute [local go_sem ↓] eql_opts

theorem check_ok {a b c d e f g : Bool} (h : badO [a, b, c, d, e, f, g] = false) (w : World) : Calls Try.prog 16 #[val7 a b c d e f g] w fun r w' => r = .returned (.int .i64 0) ∧ Below w.heap.size w w' := by
  have := check_any a b c d e f g w
  rw [h] at this
  exact this
theorem check_bad {a b c d e f g : Bool} (h : badO [a, b, c, d, e, f, g] = true) (w : World) : Calls Try.prog 16 #[val7 a b c d e f g] w fun r w' => r = .returned (.int .i64 10) ∧ Below w.heap.size w w' := by
  have := check_any a b c d e f g w
  rw [h] at this
  exact this
theorem bad_is (a b c d e f g : Bool) : badO [a, b, c, d, e, f, g] = ((d && f) || (d && g) || (e && g)) := rfl

set_option maxHeartbeats 4000000 in
theorem walk11 (W : World) (a b c e g : Bool) : Calls Try.prog 4 #[val7 a b c true e true g] W fun r w' => r = .returned (.bool true) ∧ Below W.heap.size W w' := by
  have hbad : badO [a, b, c, true, e, true, g] = true := by simp [badO]
  have CK := Lib.hid (fun X => check_bad hbad X)
  have K0 := bk_new W a b c true e true g
  have HB0 := Lib.hid ((Below.refl W.heap.size W).alloc (Nat.le_refl _) (.cells #[.bool a, .bool b, .bool c, .bool true, .bool e, .bool true, .bool g] 24))
  have HA := Lib.hid (fun X => awake_any X)
  have HLI := Lib.hid (fun X => list_any a b c true e true g X)
  have HBI := Lib.hid (fun X => bits_any a b c true e true g X)
  have HSH := Lib.hid (fun X => show_any a b c true e true g X)
  have HRS := Lib.hid (fun x X h => rshow_any x a b c true e true g X h)
  have HRB := Lib.hid (fun x X h => rbits_any x [a, b, c, true, e, true, g] rfl X h)
  obtain ⟨T, hT⟩ : ∃ T, showO [a, b, c, true, e, true, g] = T := ⟨_, rfl⟩
  obtain ⟨n, hn⟩ : ∃ n, bitsO [a, b, c, true, e, true, g] = n := ⟨_, rfl⟩
  rw [hT] at HSH HRS
  rw [hn] at HBI HRB
  have hn8 : n < 128 := by rw [← hn]; exact bits_lt _ _ _ _ _ _ _
  have hwn : wrap64 (n : Int) = (n : Int) := IntWalk.wrap64_in _ ⟨by omega, by omega⟩
  clear hT hn hbad
  have heq : ((str T).toList == (str T).toList) = true := beq_self_eq_true _
  go_enter Try.func4, Try.ntmps4
  go_wp2_with (first
    | (go_at_call 8; (with_reducible refine (HA.out _).mono ?_); rintro r w1 ⟨rfl, hb1⟩; have K1 := K0.keep hb1 (by simp); have l0 := K1.cell (k := 0) rfl; have l1 := K1.cell (k := 1) rfl; have l2 := K1.cell (k := 2) rfl; have l3 := K1.cell (k := 3) rfl; have l4 := K1.cell (k := 4) rfl; have l5 := K1.cell (k := 5) rfl; have l6 := K1.cell (k := 6) rfl)
    | (go_at_call 11; (with_reducible refine (HLI.out _).mono ?_); rintro r w2 ⟨x, rfl, hx, hbx, hb2⟩; have K2 := K1.keep hb2 K1.lt; have m0 := K2.cell (k := 0) rfl; have m1 := K2.cell (k := 1) rfl; have m2 := K2.cell (k := 2) rfl; have m3 := K2.cell (k := 3) rfl; have m4 := K2.cell (k := 4) rfl; have m5 := K2.cell (k := 5) rfl; have m6 := K2.cell (k := 6) rfl; have y0 := hbx.cell (k := 0) rfl; have y1 := hbx.cell (k := 1) rfl; have y2 := hbx.cell (k := 2) rfl; have y3 := hbx.cell (k := 3) rfl; have y4 := hbx.cell (k := 4) rfl; have y5 := hbx.cell (k := 5) rfl; have y6 := hbx.cell (k := 6) rfl)
    | (go_at_call 12; (with_reducible refine (HSH.out _).mono ?_); rintro r w3 ⟨rfl, hb3⟩; have hbx3 := hbx.keep hb3 hbx.lt; have K3 := K2.keep hb3 K2.lt; have n0 := K3.cell (k := 0) rfl; have n1 := K3.cell (k := 1) rfl; have n2 := K3.cell (k := 2) rfl; have n3 := K3.cell (k := 3) rfl; have n4 := K3.cell (k := 4) rfl; have n5 := K3.cell (k := 5) rfl; have n6 := K3.cell (k := 6) rfl)
    | (go_at_call 13; (with_reducible refine (HRS.out _ _ hbx3).mono ?_); rintro r w4 ⟨rfl, rfl⟩)
    | (go_at_call 14; (with_reducible refine (HBI.out _).mono ?_); rintro r w5 ⟨rfl, hb5⟩; have hbx5 := hbx3.keep hb5 hbx3.lt; have K5 := K3.keep hb5 K3.lt; have p0 := K5.cell (k := 0) rfl; have p1 := K5.cell (k := 1) rfl; have p2 := K5.cell (k := 2) rfl; have p3 := K5.cell (k := 3) rfl; have p4 := K5.cell (k := 4) rfl; have p5 := K5.cell (k := 5) rfl; have p6 := K5.cell (k := 6) rfl)
    | (go_at_call 15; (with_reducible refine (HRB.out _ _ hbx5).mono ?_); rintro r w6 ⟨rfl, rfl⟩)
    | (go_at_call 16; have K8 := K7; (with_reducible refine (CK.out _).mono ?_); rintro r w8 ⟨rfl, hb8⟩)
    | (go_at_call 16; (with_reducible refine (CK.out _).mono ?_); rintro r w7 ⟨rfl, hb7⟩; have K7 := K5.keep hb7 K5.lt; have q0 := K7.cell (k := 0) rfl; have q1 := K7.cell (k := 1) rfl; have q2 := K7.cell (k := 2) rfl; have q3 := K7.cell (k := 3) rfl; have q4 := K7.cell (k := 4) rfl; have q5 := K7.cell (k := 5) rfl; have q6 := K7.cell (k := 6) rfl))
  go_ret
  have HB1 := HB0.out.trans (hb1.mono HB0.out.size)
  have HB2 := HB1.trans (hb2.mono HB1.size)
  have HB3 := HB2.trans (hb3.mono HB2.size)
  have HB5 := HB3.trans (hb5.mono HB3.size)
  have HB7 := HB5.trans (hb7.mono HB5.size)
  exact ⟨rfl, HB7.trans (hb8.mono HB7.size)⟩
set_option maxHeartbeats 4000000 in
theorem walk101 (W : World) (a b c e : Bool) : Calls Try.prog 4 #[val7 a b c true e false true] W fun r w' => r = .returned (.bool true) ∧ Below W.heap.size W w' := by
  have hbad : badO [a, b, c, true, e, false, true] = true := by simp [badO]
  have CK := Lib.hid (fun X => check_bad hbad X)
  have K0 := bk_new W a b c true e false true
  have HB0 := Lib.hid ((Below.refl W.heap.size W).alloc (Nat.le_refl _) (.cells #[.bool a, .bool b, .bool c, .bool true, .bool e, .bool false, .bool true] 24))
  have HA := Lib.hid (fun X => awake_any X)
  have HLI := Lib.hid (fun X => list_any a b c true e false true X)
  have HBI := Lib.hid (fun X => bits_any a b c true e false true X)
  have HSH := Lib.hid (fun X => show_any a b c true e false true X)
  have HRS := Lib.hid (fun x X h => rshow_any x a b c true e false true X h)
  have HRB := Lib.hid (fun x X h => rbits_any x [a, b, c, true, e, false, true] rfl X h)
  obtain ⟨T, hT⟩ : ∃ T, showO [a, b, c, true, e, false, true] = T := ⟨_, rfl⟩
  obtain ⟨n, hn⟩ : ∃ n, bitsO [a, b, c, true, e, false, true] = n := ⟨_, rfl⟩
  rw [hT] at HSH HRS
  rw [hn] at HBI HRB
  have hn8 : n < 128 := by rw [← hn]; exact bits_lt _ _ _ _ _ _ _
  have hwn : wrap64 (n : Int) = (n : Int) := IntWalk.wrap64_in _ ⟨by omega, by omega⟩
  clear hT hn hbad
  have heq : ((str T).toList == (str T).toList) = true := beq_self_eq_true _
  go_enter Try.func4, Try.ntmps4
  go_wp2_with (first
    | (go_at_call 8; (with_reducible refine (HA.out _).mono ?_); rintro r w1 ⟨rfl, hb1⟩; have K1 := K0.keep hb1 (by simp); have l0 := K1.cell (k := 0) rfl; have l1 := K1.cell (k := 1) rfl; have l2 := K1.cell (k := 2) rfl; have l3 := K1.cell (k := 3) rfl; have l4 := K1.cell (k := 4) rfl; have l5 := K1.cell (k := 5) rfl; have l6 := K1.cell (k := 6) rfl)
    | (go_at_call 11; (with_reducible refine (HLI.out _).mono ?_); rintro r w2 ⟨x, rfl, hx, hbx, hb2⟩; have K2 := K1.keep hb2 K1.lt; have m0 := K2.cell (k := 0) rfl; have m1 := K2.cell (k := 1) rfl; have m2 := K2.cell (k := 2) rfl; have m3 := K2.cell (k := 3) rfl; have m4 := K2.cell (k := 4) rfl; have m5 := K2.cell (k := 5) rfl; have m6 := K2.cell (k := 6) rfl; have y0 := hbx.cell (k := 0) rfl; have y1 := hbx.cell (k := 1) rfl; have y2 := hbx.cell (k := 2) rfl; have y3 := hbx.cell (k := 3) rfl; have y4 := hbx.cell (k := 4) rfl; have y5 := hbx.cell (k := 5) rfl; have y6 := hbx.cell (k := 6) rfl)
    | (go_at_call 12; (with_reducible refine (HSH.out _).mono ?_); rintro r w3 ⟨rfl, hb3⟩; have hbx3 := hbx.keep hb3 hbx.lt; have K3 := K2.keep hb3 K2.lt; have n0 := K3.cell (k := 0) rfl; have n1 := K3.cell (k := 1) rfl; have n2 := K3.cell (k := 2) rfl; have n3 := K3.cell (k := 3) rfl; have n4 := K3.cell (k := 4) rfl; have n5 := K3.cell (k := 5) rfl; have n6 := K3.cell (k := 6) rfl)
    | (go_at_call 13; (with_reducible refine (HRS.out _ _ hbx3).mono ?_); rintro r w4 ⟨rfl, rfl⟩)
    | (go_at_call 14; (with_reducible refine (HBI.out _).mono ?_); rintro r w5 ⟨rfl, hb5⟩; have hbx5 := hbx3.keep hb5 hbx3.lt; have K5 := K3.keep hb5 K3.lt; have p0 := K5.cell (k := 0) rfl; have p1 := K5.cell (k := 1) rfl; have p2 := K5.cell (k := 2) rfl; have p3 := K5.cell (k := 3) rfl; have p4 := K5.cell (k := 4) rfl; have p5 := K5.cell (k := 5) rfl; have p6 := K5.cell (k := 6) rfl)
    | (go_at_call 15; (with_reducible refine (HRB.out _ _ hbx5).mono ?_); rintro r w6 ⟨rfl, rfl⟩)
    | (go_at_call 16; have K8 := K7; (with_reducible refine (CK.out _).mono ?_); rintro r w8 ⟨rfl, hb8⟩)
    | (go_at_call 16; (with_reducible refine (CK.out _).mono ?_); rintro r w7 ⟨rfl, hb7⟩; have K7 := K5.keep hb7 K5.lt; have q0 := K7.cell (k := 0) rfl; have q1 := K7.cell (k := 1) rfl; have q2 := K7.cell (k := 2) rfl; have q3 := K7.cell (k := 3) rfl; have q4 := K7.cell (k := 4) rfl; have q5 := K7.cell (k := 5) rfl; have q6 := K7.cell (k := 6) rfl))
  go_ret
  have HB1 := HB0.out.trans (hb1.mono HB0.out.size)
  have HB2 := HB1.trans (hb2.mono HB1.size)
  have HB3 := HB2.trans (hb3.mono HB2.size)
  have HB5 := HB3.trans (hb5.mono HB3.size)
  have HB7 := HB5.trans (hb7.mono HB5.size)
  exact ⟨rfl, HB7.trans (hb8.mono HB7.size)⟩
set_option maxHeartbeats 4000000 in
theorem walk1001 (W : World) (a b c : Bool) : Calls Try.prog 4 #[val7 a b c true true false false] W fun r w' => r = .returned (.bool true) ∧ Below W.heap.size W w' := by
  have hbad : badO [a, b, c, true, true, false, false] = false := by simp [badO]
  have CK := Lib.hid (fun X => check_ok hbad X)
  have K0 := bk_new W a b c true true false false
  have HB0 := Lib.hid ((Below.refl W.heap.size W).alloc (Nat.le_refl _) (.cells #[.bool a, .bool b, .bool c, .bool true, .bool true, .bool false, .bool false] 24))
  have HA := Lib.hid (fun X => awake_any X)
  have HLI := Lib.hid (fun X => list_any a b c true true false false X)
  have HBI := Lib.hid (fun X => bits_any a b c true true false false X)
  have HSH := Lib.hid (fun X => show_any a b c true true false false X)
  have HRS := Lib.hid (fun x X h => rshow_any x a b c true true false false X h)
  have HRB := Lib.hid (fun x X h => rbits_any x [a, b, c, true, true, false, false] rfl X h)
  obtain ⟨T, hT⟩ : ∃ T, showO [a, b, c, true, true, false, false] = T := ⟨_, rfl⟩
  obtain ⟨n, hn⟩ : ∃ n, bitsO [a, b, c, true, true, false, false] = n := ⟨_, rfl⟩
  rw [hT] at HSH HRS
  rw [hn] at HBI HRB
  have hn8 : n < 128 := by rw [← hn]; exact bits_lt _ _ _ _ _ _ _
  have hwn : wrap64 (n : Int) = (n : Int) := IntWalk.wrap64_in _ ⟨by omega, by omega⟩
  clear hT hn hbad
  have heq : ((str T).toList == (str T).toList) = true := beq_self_eq_true _
  go_enter Try.func4, Try.ntmps4
  go_wp2_with (first
    | (go_at_call 8; (with_reducible refine (HA.out _).mono ?_); rintro r w1 ⟨rfl, hb1⟩; have K1 := K0.keep hb1 (by simp); have l0 := K1.cell (k := 0) rfl; have l1 := K1.cell (k := 1) rfl; have l2 := K1.cell (k := 2) rfl; have l3 := K1.cell (k := 3) rfl; have l4 := K1.cell (k := 4) rfl; have l5 := K1.cell (k := 5) rfl; have l6 := K1.cell (k := 6) rfl)
    | (go_at_call 11; (with_reducible refine (HLI.out _).mono ?_); rintro r w2 ⟨x, rfl, hx, hbx, hb2⟩; have K2 := K1.keep hb2 K1.lt; have m0 := K2.cell (k := 0) rfl; have m1 := K2.cell (k := 1) rfl; have m2 := K2.cell (k := 2) rfl; have m3 := K2.cell (k := 3) rfl; have m4 := K2.cell (k := 4) rfl; have m5 := K2.cell (k := 5) rfl; have m6 := K2.cell (k := 6) rfl; have y0 := hbx.cell (k := 0) rfl; have y1 := hbx.cell (k := 1) rfl; have y2 := hbx.cell (k := 2) rfl; have y3 := hbx.cell (k := 3) rfl; have y4 := hbx.cell (k := 4) rfl; have y5 := hbx.cell (k := 5) rfl; have y6 := hbx.cell (k := 6) rfl)
    | (go_at_call 12; (with_reducible refine (HSH.out _).mono ?_); rintro r w3 ⟨rfl, hb3⟩; have hbx3 := hbx.keep hb3 hbx.lt; have K3 := K2.keep hb3 K2.lt; have n0 := K3.cell (k := 0) rfl; have n1 := K3.cell (k := 1) rfl; have n2 := K3.cell (k := 2) rfl; have n3 := K3.cell (k := 3) rfl; have n4 := K3.cell (k := 4) rfl; have n5 := K3.cell (k := 5) rfl; have n6 := K3.cell (k := 6) rfl)
    | (go_at_call 13; (with_reducible refine (HRS.out _ _ hbx3).mono ?_); rintro r w4 ⟨rfl, rfl⟩)
    | (go_at_call 14; (with_reducible refine (HBI.out _).mono ?_); rintro r w5 ⟨rfl, hb5⟩; have hbx5 := hbx3.keep hb5 hbx3.lt; have K5 := K3.keep hb5 K3.lt; have p0 := K5.cell (k := 0) rfl; have p1 := K5.cell (k := 1) rfl; have p2 := K5.cell (k := 2) rfl; have p3 := K5.cell (k := 3) rfl; have p4 := K5.cell (k := 4) rfl; have p5 := K5.cell (k := 5) rfl; have p6 := K5.cell (k := 6) rfl)
    | (go_at_call 15; (with_reducible refine (HRB.out _ _ hbx5).mono ?_); rintro r w6 ⟨rfl, rfl⟩)
    | (go_at_call 16; have K8 := K7; (with_reducible refine (CK.out _).mono ?_); rintro r w8 ⟨rfl, hb8⟩)
    | (go_at_call 16; (with_reducible refine (CK.out _).mono ?_); rintro r w7 ⟨rfl, hb7⟩; have K7 := K5.keep hb7 K5.lt; have q0 := K7.cell (k := 0) rfl; have q1 := K7.cell (k := 1) rfl; have q2 := K7.cell (k := 2) rfl; have q3 := K7.cell (k := 3) rfl; have q4 := K7.cell (k := 4) rfl; have q5 := K7.cell (k := 5) rfl; have q6 := K7.cell (k := 6) rfl))
  go_ret
  have HB1 := HB0.out.trans (hb1.mono HB0.out.size)
  have HB2 := HB1.trans (hb2.mono HB1.size)
  have HB3 := HB2.trans (hb3.mono HB2.size)
  have HB5 := HB3.trans (hb5.mono HB3.size)
  have HB7 := HB5.trans (hb7.mono HB5.size)
  exact ⟨rfl, HB7.trans (hb8.mono HB7.size)⟩
set_option maxHeartbeats 4000000 in
theorem walk1000 (W : World) (a b c : Bool) : Calls Try.prog 4 #[val7 a b c true false false false] W fun r w' => r = .returned (.bool true) ∧ Below W.heap.size W w' := by
  have hbad : badO [a, b, c, true, false, false, false] = false := by simp [badO]
  have CK := Lib.hid (fun X => check_ok hbad X)
  have K0 := bk_new W a b c true false false false
  have HB0 := Lib.hid ((Below.refl W.heap.size W).alloc (Nat.le_refl _) (.cells #[.bool a, .bool b, .bool c, .bool true, .bool false, .bool false, .bool false] 24))
  have HA := Lib.hid (fun X => awake_any X)
  have HLI := Lib.hid (fun X => list_any a b c true false false false X)
  have HBI := Lib.hid (fun X => bits_any a b c true false false false X)
  have HSH := Lib.hid (fun X => show_any a b c true false false false X)
  have HRS := Lib.hid (fun x X h => rshow_any x a b c true false false false X h)
  have HRB := Lib.hid (fun x X h => rbits_any x [a, b, c, true, false, false, false] rfl X h)
  obtain ⟨T, hT⟩ : ∃ T, showO [a, b, c, true, false, false, false] = T := ⟨_, rfl⟩
  obtain ⟨n, hn⟩ : ∃ n, bitsO [a, b, c, true, false, false, false] = n := ⟨_, rfl⟩
  rw [hT] at HSH HRS
  rw [hn] at HBI HRB
  have hn8 : n < 128 := by rw [← hn]; exact bits_lt _ _ _ _ _ _ _
  have hwn : wrap64 (n : Int) = (n : Int) := IntWalk.wrap64_in _ ⟨by omega, by omega⟩
  clear hT hn hbad
  have heq : ((str T).toList == (str T).toList) = true := beq_self_eq_true _
  go_enter Try.func4, Try.ntmps4
  go_wp2_with (first
    | (go_at_call 8; (with_reducible refine (HA.out _).mono ?_); rintro r w1 ⟨rfl, hb1⟩; have K1 := K0.keep hb1 (by simp); have l0 := K1.cell (k := 0) rfl; have l1 := K1.cell (k := 1) rfl; have l2 := K1.cell (k := 2) rfl; have l3 := K1.cell (k := 3) rfl; have l4 := K1.cell (k := 4) rfl; have l5 := K1.cell (k := 5) rfl; have l6 := K1.cell (k := 6) rfl)
    | (go_at_call 11; (with_reducible refine (HLI.out _).mono ?_); rintro r w2 ⟨x, rfl, hx, hbx, hb2⟩; have K2 := K1.keep hb2 K1.lt; have m0 := K2.cell (k := 0) rfl; have m1 := K2.cell (k := 1) rfl; have m2 := K2.cell (k := 2) rfl; have m3 := K2.cell (k := 3) rfl; have m4 := K2.cell (k := 4) rfl; have m5 := K2.cell (k := 5) rfl; have m6 := K2.cell (k := 6) rfl; have y0 := hbx.cell (k := 0) rfl; have y1 := hbx.cell (k := 1) rfl; have y2 := hbx.cell (k := 2) rfl; have y3 := hbx.cell (k := 3) rfl; have y4 := hbx.cell (k := 4) rfl; have y5 := hbx.cell (k := 5) rfl; have y6 := hbx.cell (k := 6) rfl)
    | (go_at_call 12; (with_reducible refine (HSH.out _).mono ?_); rintro r w3 ⟨rfl, hb3⟩; have hbx3 := hbx.keep hb3 hbx.lt; have K3 := K2.keep hb3 K2.lt; have n0 := K3.cell (k := 0) rfl; have n1 := K3.cell (k := 1) rfl; have n2 := K3.cell (k := 2) rfl; have n3 := K3.cell (k := 3) rfl; have n4 := K3.cell (k := 4) rfl; have n5 := K3.cell (k := 5) rfl; have n6 := K3.cell (k := 6) rfl)
    | (go_at_call 13; (with_reducible refine (HRS.out _ _ hbx3).mono ?_); rintro r w4 ⟨rfl, rfl⟩)
    | (go_at_call 14; (with_reducible refine (HBI.out _).mono ?_); rintro r w5 ⟨rfl, hb5⟩; have hbx5 := hbx3.keep hb5 hbx3.lt; have K5 := K3.keep hb5 K3.lt; have p0 := K5.cell (k := 0) rfl; have p1 := K5.cell (k := 1) rfl; have p2 := K5.cell (k := 2) rfl; have p3 := K5.cell (k := 3) rfl; have p4 := K5.cell (k := 4) rfl; have p5 := K5.cell (k := 5) rfl; have p6 := K5.cell (k := 6) rfl)
    | (go_at_call 15; (with_reducible refine (HRB.out _ _ hbx5).mono ?_); rintro r w6 ⟨rfl, rfl⟩)
    | (go_at_call 16; have K8 := K7; (with_reducible refine (CK.out _).mono ?_); rintro r w8 ⟨rfl, hb8⟩)
    | (go_at_call 16; (with_reducible refine (CK.out _).mono ?_); rintro r w7 ⟨rfl, hb7⟩; have K7 := K5.keep hb7 K5.lt; have q0 := K7.cell (k := 0) rfl; have q1 := K7.cell (k := 1) rfl; have q2 := K7.cell (k := 2) rfl; have q3 := K7.cell (k := 3) rfl; have q4 := K7.cell (k := 4) rfl; have q5 := K7.cell (k := 5) rfl; have q6 := K7.cell (k := 6) rfl))
  go_ret
  have HB1 := HB0.out.trans (hb1.mono HB0.out.size)
  have HB2 := HB1.trans (hb2.mono HB1.size)
  have HB3 := HB2.trans (hb3.mono HB2.size)
  have HB5 := HB3.trans (hb5.mono HB3.size)
  have HB7 := HB5.trans (hb7.mono HB5.size)
  exact ⟨rfl, HB7.trans (hb8.mono HB7.size)⟩
set_option maxHeartbeats 4000000 in
theorem walk01t (W : World) (a b c f : Bool) : Calls Try.prog 4 #[val7 a b c false true f true] W fun r w' => r = .returned (.bool true) ∧ Below W.heap.size W w' := by
  have hbad : badO [a, b, c, false, true, f, true] = true := by simp [badO]
  have CK := Lib.hid (fun X => check_bad hbad X)
  have K0 := bk_new W a b c false true f true
  have HB0 := Lib.hid ((Below.refl W.heap.size W).alloc (Nat.le_refl _) (.cells #[.bool a, .bool b, .bool c, .bool false, .bool true, .bool f, .bool true] 24))
  have HA := Lib.hid (fun X => awake_any X)
  have HLI := Lib.hid (fun X => list_any a b c false true f true X)
  have HBI := Lib.hid (fun X => bits_any a b c false true f true X)
  have HSH := Lib.hid (fun X => show_any a b c false true f true X)
  have HRS := Lib.hid (fun x X h => rshow_any x a b c false true f true X h)
  have HRB := Lib.hid (fun x X h => rbits_any x [a, b, c, false, true, f, true] rfl X h)
  obtain ⟨T, hT⟩ : ∃ T, showO [a, b, c, false, true, f, true] = T := ⟨_, rfl⟩
  obtain ⟨n, hn⟩ : ∃ n, bitsO [a, b, c, false, true, f, true] = n := ⟨_, rfl⟩
  rw [hT] at HSH HRS
  rw [hn] at HBI HRB
  have hn8 : n < 128 := by rw [← hn]; exact bits_lt _ _ _ _ _ _ _
  have hwn : wrap64 (n : Int) = (n : Int) := IntWalk.wrap64_in _ ⟨by omega, by omega⟩
  clear hT hn hbad
  have heq : ((str T).toList == (str T).toList) = true := beq_self_eq_true _
  go_enter Try.func4, Try.ntmps4
  go_wp2_with (first
    | (go_at_call 8; (with_reducible refine (HA.out _).mono ?_); rintro r w1 ⟨rfl, hb1⟩; have K1 := K0.keep hb1 (by simp); have l0 := K1.cell (k := 0) rfl; have l1 := K1.cell (k := 1) rfl; have l2 := K1.cell (k := 2) rfl; have l3 := K1.cell (k := 3) rfl; have l4 := K1.cell (k := 4) rfl; have l5 := K1.cell (k := 5) rfl; have l6 := K1.cell (k := 6) rfl)
    | (go_at_call 11; (with_reducible refine (HLI.out _).mono ?_); rintro r w2 ⟨x, rfl, hx, hbx, hb2⟩; have K2 := K1.keep hb2 K1.lt; have m0 := K2.cell (k := 0) rfl; have m1 := K2.cell (k := 1) rfl; have m2 := K2.cell (k := 2) rfl; have m3 := K2.cell (k := 3) rfl; have m4 := K2.cell (k := 4) rfl; have m5 := K2.cell (k := 5) rfl; have m6 := K2.cell (k := 6) rfl; have y0 := hbx.cell (k := 0) rfl; have y1 := hbx.cell (k := 1) rfl; have y2 := hbx.cell (k := 2) rfl; have y3 := hbx.cell (k := 3) rfl; have y4 := hbx.cell (k := 4) rfl; have y5 := hbx.cell (k := 5) rfl; have y6 := hbx.cell (k := 6) rfl)
    | (go_at_call 12; (with_reducible refine (HSH.out _).mono ?_); rintro r w3 ⟨rfl, hb3⟩; have hbx3 := hbx.keep hb3 hbx.lt; have K3 := K2.keep hb3 K2.lt; have n0 := K3.cell (k := 0) rfl; have n1 := K3.cell (k := 1) rfl; have n2 := K3.cell (k := 2) rfl; have n3 := K3.cell (k := 3) rfl; have n4 := K3.cell (k := 4) rfl; have n5 := K3.cell (k := 5) rfl; have n6 := K3.cell (k := 6) rfl)
    | (go_at_call 13; (with_reducible refine (HRS.out _ _ hbx3).mono ?_); rintro r w4 ⟨rfl, rfl⟩)
    | (go_at_call 14; (with_reducible refine (HBI.out _).mono ?_); rintro r w5 ⟨rfl, hb5⟩; have hbx5 := hbx3.keep hb5 hbx3.lt; have K5 := K3.keep hb5 K3.lt; have p0 := K5.cell (k := 0) rfl; have p1 := K5.cell (k := 1) rfl; have p2 := K5.cell (k := 2) rfl; have p3 := K5.cell (k := 3) rfl; have p4 := K5.cell (k := 4) rfl; have p5 := K5.cell (k := 5) rfl; have p6 := K5.cell (k := 6) rfl)
    | (go_at_call 15; (with_reducible refine (HRB.out _ _ hbx5).mono ?_); rintro r w6 ⟨rfl, rfl⟩)
    | (go_at_call 16; have K8 := K7; (with_reducible refine (CK.out _).mono ?_); rintro r w8 ⟨rfl, hb8⟩)
    | (go_at_call 16; (with_reducible refine (CK.out _).mono ?_); rintro r w7 ⟨rfl, hb7⟩; have K7 := K5.keep hb7 K5.lt; have q0 := K7.cell (k := 0) rfl; have q1 := K7.cell (k := 1) rfl; have q2 := K7.cell (k := 2) rfl; have q3 := K7.cell (k := 3) rfl; have q4 := K7.cell (k := 4) rfl; have q5 := K7.cell (k := 5) rfl; have q6 := K7.cell (k := 6) rfl))
  go_ret
  have HB1 := HB0.out.trans (hb1.mono HB0.out.size)
  have HB2 := HB1.trans (hb2.mono HB1.size)
  have HB3 := HB2.trans (hb3.mono HB2.size)
  have HB5 := HB3.trans (hb5.mono HB3.size)
  have HB7 := HB5.trans (hb7.mono HB5.size)
  exact ⟨rfl, HB7.trans (hb8.mono HB7.size)⟩
set_option maxHeartbeats 4000000 in
theorem walk01f (W : World) (a b c f : Bool) : Calls Try.prog 4 #[val7 a b c false true f false] W fun r w' => r = .returned (.bool true) ∧ Below W.heap.size W w' := by
  have hbad : badO [a, b, c, false, true, f, false] = false := by simp [badO]
  have CK := Lib.hid (fun X => check_ok hbad X)
  have K0 := bk_new W a b c false true f false
  have HB0 := Lib.hid ((Below.refl W.heap.size W).alloc (Nat.le_refl _) (.cells #[.bool a, .bool b, .bool c, .bool false, .bool true, .bool f, .bool false] 24))
  have HA := Lib.hid (fun X => awake_any X)
  have HLI := Lib.hid (fun X => list_any a b c false true f false X)
  have HBI := Lib.hid (fun X => bits_any a b c false true f false X)
  have HSH := Lib.hid (fun X => show_any a b c false true f false X)
  have HRS := Lib.hid (fun x X h => rshow_any x a b c false true f false X h)
  have HRB := Lib.hid (fun x X h => rbits_any x [a, b, c, false, true, f, false] rfl X h)
  obtain ⟨T, hT⟩ : ∃ T, showO [a, b, c, false, true, f, false] = T := ⟨_, rfl⟩
  obtain ⟨n, hn⟩ : ∃ n, bitsO [a, b, c, false, true, f, false] = n := ⟨_, rfl⟩
  rw [hT] at HSH HRS
  rw [hn] at HBI HRB
  have hn8 : n < 128 := by rw [← hn]; exact bits_lt _ _ _ _ _ _ _
  have hwn : wrap64 (n : Int) = (n : Int) := IntWalk.wrap64_in _ ⟨by omega, by omega⟩
  clear hT hn hbad
  have heq : ((str T).toList == (str T).toList) = true := beq_self_eq_true _
  go_enter Try.func4, Try.ntmps4
  go_wp2_with (first
    | (go_at_call 8; (with_reducible refine (HA.out _).mono ?_); rintro r w1 ⟨rfl, hb1⟩; have K1 := K0.keep hb1 (by simp); have l0 := K1.cell (k := 0) rfl; have l1 := K1.cell (k := 1) rfl; have l2 := K1.cell (k := 2) rfl; have l3 := K1.cell (k := 3) rfl; have l4 := K1.cell (k := 4) rfl; have l5 := K1.cell (k := 5) rfl; have l6 := K1.cell (k := 6) rfl)
    | (go_at_call 11; (with_reducible refine (HLI.out _).mono ?_); rintro r w2 ⟨x, rfl, hx, hbx, hb2⟩; have K2 := K1.keep hb2 K1.lt; have m0 := K2.cell (k := 0) rfl; have m1 := K2.cell (k := 1) rfl; have m2 := K2.cell (k := 2) rfl; have m3 := K2.cell (k := 3) rfl; have m4 := K2.cell (k := 4) rfl; have m5 := K2.cell (k := 5) rfl; have m6 := K2.cell (k := 6) rfl; have y0 := hbx.cell (k := 0) rfl; have y1 := hbx.cell (k := 1) rfl; have y2 := hbx.cell (k := 2) rfl; have y3 := hbx.cell (k := 3) rfl; have y4 := hbx.cell (k := 4) rfl; have y5 := hbx.cell (k := 5) rfl; have y6 := hbx.cell (k := 6) rfl)
    | (go_at_call 12; (with_reducible refine (HSH.out _).mono ?_); rintro r w3 ⟨rfl, hb3⟩; have hbx3 := hbx.keep hb3 hbx.lt; have K3 := K2.keep hb3 K2.lt; have n0 := K3.cell (k := 0) rfl; have n1 := K3.cell (k := 1) rfl; have n2 := K3.cell (k := 2) rfl; have n3 := K3.cell (k := 3) rfl; have n4 := K3.cell (k := 4) rfl; have n5 := K3.cell (k := 5) rfl; have n6 := K3.cell (k := 6) rfl)
    | (go_at_call 13; (with_reducible refine (HRS.out _ _ hbx3).mono ?_); rintro r w4 ⟨rfl, rfl⟩)
    | (go_at_call 14; (with_reducible refine (HBI.out _).mono ?_); rintro r w5 ⟨rfl, hb5⟩; have hbx5 := hbx3.keep hb5 hbx3.lt; have K5 := K3.keep hb5 K3.lt; have p0 := K5.cell (k := 0) rfl; have p1 := K5.cell (k := 1) rfl; have p2 := K5.cell (k := 2) rfl; have p3 := K5.cell (k := 3) rfl; have p4 := K5.cell (k := 4) rfl; have p5 := K5.cell (k := 5) rfl; have p6 := K5.cell (k := 6) rfl)
    | (go_at_call 15; (with_reducible refine (HRB.out _ _ hbx5).mono ?_); rintro r w6 ⟨rfl, rfl⟩)
    | (go_at_call 16; have K8 := K7; (with_reducible refine (CK.out _).mono ?_); rintro r w8 ⟨rfl, hb8⟩)
    | (go_at_call 16; (with_reducible refine (CK.out _).mono ?_); rintro r w7 ⟨rfl, hb7⟩; have K7 := K5.keep hb7 K5.lt; have q0 := K7.cell (k := 0) rfl; have q1 := K7.cell (k := 1) rfl; have q2 := K7.cell (k := 2) rfl; have q3 := K7.cell (k := 3) rfl; have q4 := K7.cell (k := 4) rfl; have q5 := K7.cell (k := 5) rfl; have q6 := K7.cell (k := 6) rfl))
  go_ret
  have HB1 := HB0.out.trans (hb1.mono HB0.out.size)
  have HB2 := HB1.trans (hb2.mono HB1.size)
  have HB3 := HB2.trans (hb3.mono HB2.size)
  have HB5 := HB3.trans (hb5.mono HB3.size)
  have HB7 := HB5.trans (hb7.mono HB5.size)
  exact ⟨rfl, HB7.trans (hb8.mono HB7.size)⟩
set_option maxHeartbeats 4000000 in
theorem walk00 (W : World) (a b c f g : Bool) : Calls Try.prog 4 #[val7 a b c false false f g] W fun r w' => r = .returned (.bool true) ∧ Below W.heap.size W w' := by
  have hbad : badO [a, b, c, false, false, f, g] = false := by simp [badO]
  have CK := Lib.hid (fun X => check_ok hbad X)
  have K0 := bk_new W a b c false false f g
  have HB0 := Lib.hid ((Below.refl W.heap.size W).alloc (Nat.le_refl _) (.cells #[.bool a, .bool b, .bool c, .bool false, .bool false, .bool f, .bool g] 24))
  have HA := Lib.hid (fun X => awake_any X)
  have HLI := Lib.hid (fun X => list_any a b c false false f g X)
  have HBI := Lib.hid (fun X => bits_any a b c false false f g X)
  have HSH := Lib.hid (fun X => show_any a b c false false f g X)
  have HRS := Lib.hid (fun x X h => rshow_any x a b c false false f g X h)
  have HRB := Lib.hid (fun x X h => rbits_any x [a, b, c, false, false, f, g] rfl X h)
  obtain ⟨T, hT⟩ : ∃ T, showO [a, b, c, false, false, f, g] = T := ⟨_, rfl⟩
  obtain ⟨n, hn⟩ : ∃ n, bitsO [a, b, c, false, false, f, g] = n := ⟨_, rfl⟩
  rw [hT] at HSH HRS
  rw [hn] at HBI HRB
  have hn8 : n < 128 := by rw [← hn]; exact bits_lt _ _ _ _ _ _ _
  have hwn : wrap64 (n : Int) = (n : Int) := IntWalk.wrap64_in _ ⟨by omega, by omega⟩
  clear hT hn hbad
  have heq : ((str T).toList == (str T).toList) = true := beq_self_eq_true _
  go_enter Try.func4, Try.ntmps4
  go_wp2_with (first
    | (go_at_call 8; (with_reducible refine (HA.out _).mono ?_); rintro r w1 ⟨rfl, hb1⟩; have K1 := K0.keep hb1 (by simp); have l0 := K1.cell (k := 0) rfl; have l1 := K1.cell (k := 1) rfl; have l2 := K1.cell (k := 2) rfl; have l3 := K1.cell (k := 3) rfl; have l4 := K1.cell (k := 4) rfl; have l5 := K1.cell (k := 5) rfl; have l6 := K1.cell (k := 6) rfl)
    | (go_at_call 11; (with_reducible refine (HLI.out _).mono ?_); rintro r w2 ⟨x, rfl, hx, hbx, hb2⟩; have K2 := K1.keep hb2 K1.lt; have m0 := K2.cell (k := 0) rfl; have m1 := K2.cell (k := 1) rfl; have m2 := K2.cell (k := 2) rfl; have m3 := K2.cell (k := 3) rfl; have m4 := K2.cell (k := 4) rfl; have m5 := K2.cell (k := 5) rfl; have m6 := K2.cell (k := 6) rfl; have y0 := hbx.cell (k := 0) rfl; have y1 := hbx.cell (k := 1) rfl; have y2 := hbx.cell (k := 2) rfl; have y3 := hbx.cell (k := 3) rfl; have y4 := hbx.cell (k := 4) rfl; have y5 := hbx.cell (k := 5) rfl; have y6 := hbx.cell (k := 6) rfl)
    | (go_at_call 12; (with_reducible refine (HSH.out _).mono ?_); rintro r w3 ⟨rfl, hb3⟩; have hbx3 := hbx.keep hb3 hbx.lt; have K3 := K2.keep hb3 K2.lt; have n0 := K3.cell (k := 0) rfl; have n1 := K3.cell (k := 1) rfl; have n2 := K3.cell (k := 2) rfl; have n3 := K3.cell (k := 3) rfl; have n4 := K3.cell (k := 4) rfl; have n5 := K3.cell (k := 5) rfl; have n6 := K3.cell (k := 6) rfl)
    | (go_at_call 13; (with_reducible refine (HRS.out _ _ hbx3).mono ?_); rintro r w4 ⟨rfl, rfl⟩)
    | (go_at_call 14; (with_reducible refine (HBI.out _).mono ?_); rintro r w5 ⟨rfl, hb5⟩; have hbx5 := hbx3.keep hb5 hbx3.lt; have K5 := K3.keep hb5 K3.lt; have p0 := K5.cell (k := 0) rfl; have p1 := K5.cell (k := 1) rfl; have p2 := K5.cell (k := 2) rfl; have p3 := K5.cell (k := 3) rfl; have p4 := K5.cell (k := 4) rfl; have p5 := K5.cell (k := 5) rfl; have p6 := K5.cell (k := 6) rfl)
    | (go_at_call 15; (with_reducible refine (HRB.out _ _ hbx5).mono ?_); rintro r w6 ⟨rfl, rfl⟩)
    | (go_at_call 16; have K8 := K7; (with_reducible refine (CK.out _).mono ?_); rintro r w8 ⟨rfl, hb8⟩)
    | (go_at_call 16; (with_reducible refine (CK.out _).mono ?_); rintro r w7 ⟨rfl, hb7⟩; have K7 := K5.keep hb7 K5.lt; have q0 := K7.cell (k := 0) rfl; have q1 := K7.cell (k := 1) rfl; have q2 := K7.cell (k := 2) rfl; have q3 := K7.cell (k := 3) rfl; have q4 := K7.cell (k := 4) rfl; have q5 := K7.cell (k := 5) rfl; have q6 := K7.cell (k := 6) rfl))
  go_ret
  have HB1 := HB0.out.trans (hb1.mono HB0.out.size)
  have HB2 := HB1.trans (hb2.mono HB1.size)
  have HB3 := HB2.trans (hb3.mono HB2.size)
  have HB5 := HB3.trans (hb5.mono HB3.size)
  have HB7 := HB5.trans (hb7.mono HB5.size)
  exact ⟨rfl, HB7.trans (hb8.mono HB7.size)⟩
theorem walk (W : World) (a b c d e f g : Bool) : Calls Try.prog 4 #[val7 a b c d e f g] W fun r w' => r = .returned (.bool true) ∧ Below W.heap.size W w' := by
  cases d
  · cases e
    · exact walk00 W a b c f g
    · cases g
      · exact walk01f W a b c f
      · exact walk01t W a b c f
  · cases f
    · cases g
      · cases e
        · exact walk1000 W a b c
        · exact walk1001 W a b c
      · exact walk101 W a b c e
    · exact walk11 W a b c e g
end Go.Proofs.Ytjccnhipdhpkoaa.optionsShow
