/- Scans with a counter of one's own, with none, of no table; what the walks of layer 10 share. -/
import Derived.Test.YtnbfdjpmppflmaaDh
namespace Go.Proofs.Ytnbfdjpmppflmaa.Dfa
open Go.RowKit Go.Maps Go.Proofs.Ytnbfdjpmppflmaa.Tri Go.Proofs.Ytnbfdjpmppflmaa.Lnk Go.Proofs.Ytnbfdjpmppflmaa.Reg Go.Proofs.Ytnbfdjpmppflmaa.Prs
set_option maxRecDepth 100000
theorem dscan_nil (w : World) (p : Option Addr) (a : Option Addr) (n cap : Nat) : Calls Try.prog 15 #[.pointer none, .pointer p, .slice a n cap] w fun e w' => e = .returned (.slice none 0 0) ∧ w = w' := by
  have HS := Lib.hid (states_none w)
  go_enter Try.func15, Try.ntmps15
  go_wp2_with (go_at_call 19; (with_reducible refine HS.out.mono ?_); rintro e w2 ⟨rfl, rfl⟩)
  go_ret
  exact ⟨rfl, rfl⟩
/-- A scan with a counter of one's own. -/
theorem dscan_new (w : World) (s t : Nat) (l : List Tx) (hD : Dt w s t l) (g : Nat) (line : Tx) (al : Option Addr) (cl : Nat) (hb : Bs w w.heap.size al line) (hl : line.length ≤ 1000) (a b : Nat) (hM : Met.Cnt w g (a : Int) (b : Int) 0 0) (ha : a ≤ 1000000) (hb' : b ≤ 1000000) :
    Calls Try.prog 15 #[.pointer (some ⟨t, 0, none⟩), .pointer (some ⟨g, 0, none⟩), .slice al line.length cl] w fun x w' => ∃ A cap, x = .returned (.slice A (Spa.scanOf l line).length cap) ∧ Ps w' w'.heap.size A (Spa.scanOf l line) ∧ (A = none → cap = 0) ∧ Met.Cnt w' g ((a + line.length : Nat) : Int) ((b + line.length : Nat) : Int) 0 0 ∧ w.grownBy w' (some g) := by
  refine (dscan_any w s t l hD (some ⟨g, 0, none⟩) line al cl hb hl (a : Int) (b : Int) 0 0 (.inr ⟨g, rfl, hM⟩) (by omega) (by omega) (by omega) (by omega)).mono ?_
  rintro x w' ⟨A, cap, e, hp, hn, hM', hg⟩
  refine ⟨A, cap, e, hp, hn, ?_, hg⟩
  have := Spa.Mt.cnt hM'
  rw [Int.natCast_add, Int.natCast_add]; exact this
/-- .. with none. -/
theorem dscan_free (w : World) (s t : Nat) (l : List Tx) (hD : Dt w s t l) (line : Tx) (al : Option Addr) (cl : Nat) (hb : Bs w w.heap.size al line) (hl : line.length ≤ 1000) :
    Calls Try.prog 15 #[.pointer (some ⟨t, 0, none⟩), .pointer none, .slice al line.length cl] w fun x w' => ∃ A cap, x = .returned (.slice A (Spa.scanOf l line).length cap) ∧ Ps w' w'.heap.size A (Spa.scanOf l line) ∧ (A = none → cap = 0) ∧ Below w.heap.size w w' := by
  refine (dscan_any w s t l hD none line al cl hb hl 0 0 0 0 (.inl rfl) (by omega) (by omega) (by omega) (by omega)).mono ?_
  rintro x w' ⟨A, cap, e, hp, hn, _, hg⟩
  exact ⟨A, cap, e, hp, hn, (Below.refl _ _).grown hg (Nat.le_refl _) (fun k e => by cases e)⟩
theorem ex_cnt : Cls.cnt (Cls.stands Spa.exl) = 3 := by decide +kernel
theorem ex_next1 : nextOf (paths Spa.exl) 0 115 = 3 := by decide
theorem ex_next2 : nextOf (paths Spa.exl) 5 120 = 0 := by decide
theorem ex_len : (paths Spa.exl).length = 6 := by decide
attribute [local go_sem ↓] Met.eql_counts
set_option maxHeartbeats 8000000 in
theorem awake_any (w : World) : Calls Try.prog 9 #[] w fun e w' => e = .returned (.bool true) ∧ Below w.heap.size w w' := by
  have kc := fun (w : World) (C : Array Value) (n c : Nat) => Lib.run_convert_bytes_const (P := Try.prog) w 23 5 C n c Try.underlying23 Try.underlying5
  have kd := fun (w : World) (o : Obj) (C : Array Value) (n c : Nat) => Spa.const_at (w.alloc o) (w.heap.size + 1) (by simp) C n c
  go_enter Try.func9, Try.ntmps9
  have BU : Calls Try.prog 13 #[.slice (some ⟨w.heap.size + 1 + 1, 0, none⟩) 2 2] (Spa.exw w) (GivesDt (Spa.exw w) Spa.exl) :=
    dnew_any (Spa.exw w) (Spa.exx w) (some ⟨w.heap.size + 1 + 1, 0, none⟩) 2 (Spa.ex_ts w) (by show 2 ≤ 1000000; decide) (by show tot Spa.exl ≤ _; decide) (by intro x hx; simp only [Spa.exx, List.mem_cons, List.not_mem_nil, or_false] at hx; rcases hx with rfl | rfl <;> simp) (by show (paths Spa.exl).length ≤ 160; decide)
  go_wp2_with fail
  refine BU.mono ?_
  rintro e w0 ⟨t, rfl, hA, hb⟩
  have HB0 := Lib.hid ((Spa.ex_below w).trans (hb.mono (Spa.ex_below w).size))
  clear BU hb
  have CN := Met.new_any w0
  go_wp2_with fail
  refine CN.mono ?_
  rintro e X1 ⟨rfl, hX1⟩
  have HA1 : Hid (Dt X1 (Spa.exw w).heap.size t Spa.exl) := Lib.hid (by rw [hX1]; exact hA.keep (Spa.below_new w0 _))
  have HM1 : Hid (Met.Cnt X1 w0.heap.size 0 0 0 0) := Lib.hid (by rw [hX1]; exact Met.Blk4.new w0 67 _ _ _ _)
  have HB1 : Hid (Below w.heap.size w X1) := Lib.hid (by rw [hX1]; exact HB0.out.alloc HB0.out.size _)
  have hgw : w.heap.size ≤ w0.heap.size := HB0.out.size
  clear hX1 CN hA HB0
  generalize w0.heap.size = g at *
  generalize (Spa.exw w).heap.size = s0 at *
  have b1 := Spa.below_new X1 (.cells #[.int .u8 117, .int .u8 115, .int .u8 104, .int .u8 101] 5 (4, 5))
  have HA2 := Lib.hid (HA1.out.keep b1)
  have hM2 : Met.Cnt (X1.alloc (.cells #[.int .u8 117, .int .u8 115, .int .u8 104, .int .u8 101] 5 (4, 5))) g 0 0 0 0 := Met.Blk4.same HM1.out (b1.block g (txt_lt HM1.out))
  have C1 := dscan_new (X1.alloc (.cells #[.int .u8 117, .int .u8 115, .int .u8 104, .int .u8 101] 5 (4, 5))) s0 t Spa.exl HA2.out g [117, 115, 104, 101] (some ⟨X1.heap.size, 0, none⟩) 4 (bs_lit X1 [117, 115, 104, 101] (4, 5) #[.int .u8 117, .int .u8 115, .int .u8 104, .int .u8 101] rfl) (by decide) 0 0 hM2 (by decide) (by decide)
  rw [Spa.ex_scan1] at C1
  have HM2 := Lib.hid hM2
  have HB2 := Lib.hid (HB1.out.alloc HB1.out.size (.cells #[.int .u8 117, .int .u8 115, .int .u8 104, .int .u8 101] 5 (4, 5)))
  clear b1 hM2
  go_wp2_with fail
  refine C1.mono ?_
  generalize X1.alloc (.cells #[.int .u8 117, .int .u8 115, .int .u8 104, .int .u8 101] 5 (4, 5)) = X2 at *
  rintro e X ⟨A1, k1, rfl, hp1, hn1, hM, hg⟩
  have HBX : Hid (Below w.heap.size w X) := Lib.hid (HB2.out.grown hg HB2.out.size (fun k e => by obtain rfl := Option.some.inj e; exact hgw))
  have HAX := Lib.hid (HA2.out.adds hg (.inr ⟨g, rfl, HM2.out⟩))
  have HPX := Lib.hid hp1
  have HMX := Lib.hid hM
  have HNX := Lib.hid hn1
  clear hp1 hM hg C1 HA1 HM1 HB1 HA2 HM2 HB2 hn1
  have HS := Lib.hid (dstates_at X s0 t Spa.exl HAX.out)
  have HW := Lib.hid (dwidth_at X s0 t Spa.exl HAX.out)
  rw [ex_len] at HS
  rw [ex_cnt] at HW
  go_wp2_with (first
    | (go_at_call 19; (with_reducible refine HS.out.mono ?_); rintro e w5 ⟨rfl, rfl⟩)
    | (go_at_call 20; (with_reducible refine HW.out.mono ?_); rintro e w5 ⟨rfl, rfl⟩))
  have b5 := Spa.below_new X (.cells #[.int .i64 1, .int .i64 4, .int .i64 2, .int .i64 4] 65)
  have C5 := same_any Spa.ex1 Spa.ex1 A1 (some ⟨X.heap.size, 0, none⟩) k1 2 _ (by decide) (HPX.out.keeps b5) (Spa.ps_two X ⟨1, 4⟩ ⟨2, 4⟩)
  have h11 : decide (Spa.ex1 = Spa.ex1) = true := by simp
  rw [h11] at C5
  have HB5 := Lib.hid (HBX.out.alloc HBX.out.size (.cells #[.int .i64 1, .int .i64 4, .int .i64 2, .int .i64 4] 65))
  have HA5 := Lib.hid (HAX.out.keep b5)
  have HM5 : Hid (Met.Cnt (X.alloc (.cells #[.int .i64 1, .int .i64 4, .int .i64 2, .int .i64 4] 65)) g 4 4 0 0) := Lib.hid (Met.Blk4.same HMX.out (b5.block g (txt_lt HMX.out)))
  clear HS HW HBX HAX HPX HMX HNX b5
  refine C5.mono ?_
  generalize X.alloc (.cells #[.int .i64 1, .int .i64 4, .int .i64 2, .int .i64 4] 65) = V3 at *
  rintro e w6 ⟨rfl, q6, rfl⟩
  have b6 : Below V3.heap.size V3 (V3.drewN q6) := below_drews (Below.refl _ _) q6
  have HB6 := Lib.hid (below_drews HB5.out q6)
  have HA6 := Lib.hid (HA5.out.keep b6)
  have HM6 : Hid (Met.Cnt (V3.drewN q6) g 4 4 0 0) := Lib.hid (Met.Blk4.same HM5.out (b6.block g (txt_lt HM5.out)))
  clear C5 HB5 HA5 HM5 b6 h11
  generalize V3.drewN q6 = V4 at *
  have CC := Lib.hid (Met.counts_some V4 g 4 4 0 0 HM6.out)
  go_wp2_with fail
  refine CC.out.mono ?_
  rintro e V ⟨rfl, hb⟩
  have HBV := Lib.hid (HB6.out.trans (hb.mono HB6.out.size))
  have HAV := Lib.hid (HA6.out.keep hb)
  clear CC HB6 HA6 HM6 hb
  have HN1 : Hid (∀ X, Below V.heap.size V X → Calls Try.prog 22 #[.pointer (some ⟨t, 0, none⟩), .int .i64 0, .int .u8 115] X fun e w' => e = .returned (.int .i64 3) ∧ ∃ q, w' = X.drewN q) := Lib.hid fun X hX => by
    have := dnext_at X s0 t Spa.exl (HAV.out.keep hX) 0 115
    rw [ex_next1] at this
    exact this
  have HN2 : Hid (∀ X, Below V.heap.size V X → Calls Try.prog 22 #[.pointer (some ⟨t, 0, none⟩), .int .i64 5, .int .u8 120] X fun e w' => e = .returned (.int .i64 0) ∧ ∃ q, w' = X.drewN q) := Lib.hid fun X hX => by
    have := dnext_at X s0 t Spa.exl (HAV.out.keep hX) 5 120
    rw [ex_next2] at this
    exact this
  clear HAV
  go_wp2_with fail
  refine (HN1.out V (Below.refl _ _)).mono ?_
  rintro e V1 ⟨rfl, q1, rfl⟩
  have b1 : Below V.heap.size V (V.drewN q1) := below_drews (Below.refl _ _) q1
  have HC2 := Lib.hid (HN2.out _ b1)
  have HB1 := Lib.hid (below_drews HBV.out q1)
  clear HN1 HN2 b1 HBV
  generalize V.drewN q1 = V1 at *
  go_wp2_with fail
  refine HC2.out.mono ?_
  rintro e V2 ⟨rfl, q2, rfl⟩
  go_wp2
  go_ret
  exact ⟨rfl, below_drews HB1.out q2⟩
end Go.Proofs.Ytnbfdjpmppflmaa.Dfa
