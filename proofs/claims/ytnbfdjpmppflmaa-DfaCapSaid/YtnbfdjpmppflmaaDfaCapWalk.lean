/- The walk of DfaCap. -/
import Derived.Test.YtnbfdjpmppflmaaDi
namespace Go.Proofs.Ytnbfdjpmppflmaa.dfaCap
open Go.Proofs.Ytnbfdjpmppflmaa.Tri Go.Proofs.Ytnbfdjpmppflmaa.Lnk Go.Proofs.Ytnbfdjpmppflmaa.Prs Go.Proofs.Ytnbfdjpmppflmaa.Reg Go.Proofs.Ytnbfdjpmppflmaa.Dfa Go.RowKit Go.Maps
set_option maxRecDepth 100000
set_option linter.unusedVariables false
attribute [local go_sem ↓] Met.eql_counts
attribute [local go_sem ↓] Go.wp_at_zero Go.wp_at_succ
theorem ts_single (X : World) (l : List UInt8) (av : Option Addr) (cv : Nat) (hn : av = none → cv = 0) (hb : Bs X X.heap.size av l) : Ts (X.alloc (.cells #[.slice av l.length cv] 23)) (some ⟨X.heap.size, 0, none⟩) [⟨l, av, cv, hn⟩] := by
  refine ⟨fun _ => ⟨X.heap.size, 0, rfl, by simp, fun i hi => ?_⟩, fun y hy => ?_⟩
  · have hh := heap_alloc_new X (.cells #[.slice av l.length cv] 23)
    obtain rfl : i = 0 := by simpa using hi
    rw [cell_of_row _ _ _ _ 23 (0, 0) hh]
    rfl
  · obtain rfl := List.mem_singleton.1 hy
    exact (hb.keep (Spa.below_new X _)).more (Spa.below_new X _).size
/-- Facts of one long text. -/
theorem new_one (X : World) (l : List UInt8) (av : Option Addr) (cv : Nat) (hn : av = none → cv = 0) (hb : Bs X X.heap.size av l) (hl : l.length ≤ 160 - 1) : Calls Try.prog 13 #[.slice (some ⟨X.heap.size, 0, none⟩) 1 1] (X.alloc (.cells #[.slice av l.length cv] 23)) (GivesDt (X.alloc (.cells #[.slice av l.length cv] 23)) [l]) := by
  have hp := paths_one l
  exact dnew_any _ [⟨l, av, cv, hn⟩] _ 1 (ts_single X l av cv hn hb) (by simp) (by simp [tot]; omega) (by intro y hy; obtain rfl := List.mem_singleton.1 hy; show l.length ≤ _; omega) (by show (paths [l]).length ≤ 160; omega)
theorem new_far (X : World) (l : List UInt8) (av : Option Addr) (cv : Nat) (hn : av = none → cv = 0) (hb : Bs X X.heap.size av l) (hl : 160 ≤ l.length) (h2 : l.length ≤ 1000000) : Calls Try.prog 13 #[.slice (some ⟨X.heap.size, 0, none⟩) 1 1] (X.alloc (.cells #[.slice av l.length cv] 23)) (GivesNone (X.alloc (.cells #[.slice av l.length cv] 23))) := by
  have hp := paths_one l
  exact dnew_over _ [⟨l, av, cv, hn⟩] _ 1 (ts_single X l av cv hn hb) (by simp) (by simp [tot]; omega) (by show 160 < (paths [l]).length; omega)
theorem tree_one (X : World) (l : List UInt8) (av : Option Addr) (cv : Nat) (hn : av = none → cv = 0) (hb : Bs X X.heap.size av l) (h2 : l.length ≤ 1000000) : Calls Try.prog 29 #[.slice (some ⟨X.heap.size, 0, none⟩) 1 1] (X.alloc (.cells #[.slice av l.length cv] 23)) (GivesTr (X.alloc (.cells #[.slice av l.length cv] 23)) (paths [l]) [l]) :=
  build_any _ [⟨l, av, cv, hn⟩] _ 1 (ts_single X l av cv hn hb) (by simp) (by simp [tot]; omega)
/-- How long a slice is. -/
def lenV : Value → Nat
  | .slice _ n _ => n
  | _ => 0

set_option maxHeartbeats 8000000 in
theorem walk (w : World) (b : List UInt8) (a0 : Option Addr) (cap0 : Nat) (hm0 : b.length ≤ maxLen) (hb0 : Bs w w.heap.size a0 b) (hn0 : a0 = none → cap0 = 0) (n : UInt8) :
    Calls Try.prog 6 #[.slice a0 b.length cap0, .int .u8 (n.toNat : Int)] w fun e w' => e = .returned (.bool true) ∧ Below w.heap.size w w' := by
  have hn8 := n.toNat_lt
  unfold maxLen at hm0
  by_cases h0 : b.length ≤ 400
  · have h0' : ¬ (400 : Int) < (b.length : Int) := by omega
    go_enter Try.func6, Try.ntmps6
    go_wp2_with fail
    refine (Dfa.awake_any _).mono ?_
    rintro e' w1 ⟨rfl, hb2⟩
    have bt1 := (hb0.keep hb2).more hb2.size
    go_wp2_with (at_builtin; refine app_bs rfl _ _ rfl w1.heap.size _ 0 [] rfl (World.ownsRow_nil _ _ _ _) a0 b cap0 w1.heap.size rfl bt1 hn0 (by omega) (Nat.le_refl _) ?_; intro v1 w2 hown1 hg1)
    have B2 : Below w1.heap.size w1 w2 := (Below.refl _ _).grown hg1 (Nat.le_refl _) (fun q hq => by cases hq)
    rw [List.nil_append, Nat.zero_add] at hown1
    have HO1 := Lib.hid hown1
    have HB2 := Lib.hid B2
    clear hown1 hg1 bt1 B2
    have hcv : IntKind.i64.wrap (n.toNat : Int) = (n.toNat : Int) := IntWalk.i64_in _ (by omega)
    go_loopw [6, 7] (fun v i wr => ∃ k : Nat, k ≤ n.toNat ∧ i = .int .i64 (k : Int) ∧ wr.ownsRow w1.heap.size 5 1 v (b ++ List.replicate k 97).length (vals (b ++ List.replicate k 97)) ∧ Below w1.heap.size w1 wr) (fun _ i _ => n.toNat - (intOf i).toNat)
    case atStart => exact ⟨0, Nat.zero_le _, rfl, by simpa using HO1.out, HB2.out⟩
    case round =>
      obtain ⟨k, hk, rfl, hown, hbel⟩ := hrel
      have hsz := hbel.size
      by_cases hlt : k < n.toNat
      · have hlt2 : (k : Int) < (n.toNat : Int) := by omega
        have HOW := Lib.hid hown
        have HBE := Lib.hid hbel
        obtain ⟨av, cv, rfl, _, _⟩ := own_txt hown
        clear hown hbel
        go_wp2_with (at_builtin; refine app_bs rfl _ _ rfl w1.heap.size _ (b ++ List.replicate k 97).length (vals (b ++ List.replicate k 97)) rfl (HOW.out.alloc _) (some ⟨wr.heap.size, 0, none⟩) [97] 1 (wr.alloc (.cells #[.int .u8 97] 5)).heap.size rfl (bs_lit wr [97] (0, 0) _ rfl) (fun e => by cases e) (by simp; omega) (by simp; omega) ?_; intro v3 w3 hown3 hg3)
        go_roundw
        case rel =>
          refine ⟨k + 1, by omega, by go_num, ?_, (HBE.out.alloc hsz _).grown hg3 (by simp; omega) (fun q hq => own_ge HOW.out hq)⟩
          have e : b ++ List.replicate (k + 1) 97 = (b ++ List.replicate k 97) ++ [97] := by rw [List.replicate_succ', List.append_assoc]
          rw [e, List.length_append (bs := [97])]
          simpa [vals] using hown3
        case measure => simp [intOf]; omega
      · have hke : k = n.toNat := by omega
        have hlt2 : ¬ (k : Int) < (n.toNat : Int) := by omega
        have hll : (b ++ List.replicate k 97).length ≤ 1000 := by rw [List.length_append, List.length_replicate]; omega
        obtain ⟨av, cv, rfl, htx, hlc, hnc⟩ := own_txt hown
        have HBS := Lib.hid htx.bs
        have HBE := Lib.hid (hb2.trans (hbel.mono hb2.size))
        clear hown hbel HO1 HB2 htx hke
        generalize b ++ List.replicate k 97 = l at *
        by_cases hov : l.length ≤ 159
        · have HNEW := Lib.hid (new_one wr l av cv hnc HBS.out (by omega))
          have e1 : IntKind.i64.wrap ((l.length : Int) + 1) = (l.length : Int) + 1 := IntWalk.i64_in _ (by omega)
          have hnv : ¬ (160 : Int) < (l.length : Int) + 1 := by omega
          have hp := paths_one l
          go_wp2_with fail
          refine HNEW.out.mono ?_
          rintro e5 w5 ⟨t, rfl, hD, hb5⟩
          have hb5' : Below wr.heap.size wr w5 := (Spa.below_new wr _).trans (hb5.mono (Spa.below_new wr _).size)
          have HBS5 := Lib.hid ((HBS.out.keep hb5').more hb5'.size)
          have HB5 := Lib.hid (HBE.out.trans (hb5'.mono HBE.out.size))
          have HD5 := Lib.hid hD
          have HTR := Lib.hid (tree_one w5 l av cv hnc HBS5.out (by omega))
          clear hD hb5 hb5' HNEW HBE HBS
          go_wp2_with fail
          refine HTR.out.mono ?_
          have bn5 := Spa.below_new w5 (.cells #[.slice av l.length cv] 23)
          have HD6 := Lib.hid (HD5.out.keep bn5)
          have HB6 := Lib.hid (HB5.out.trans (bn5.mono HB5.out.size))
          clear HTR bn5 HD5 HB5
          generalize w5.alloc (.cells #[.slice av l.length cv] 23) = w6 at *
          rintro e7 w7 ⟨tt, rfl, htr, hb7⟩
          have HNO := Lib.hid (nodes_any w7 _ tt _ _ htr)
          rw [hp] at HNO
          have HD7 := Lib.hid (HD6.out.keep hb7)
          have HB7 := Lib.hid (HB6.out.trans (hb7.mono HB6.out.size))
          clear htr hb7 HD6 HB6
          go_wp2_with (go_at_call 30; (with_reducible refine HNO.out.mono ?_); rintro e8 w8 ⟨rfl, rfl⟩)
          go_wp2_with fail
          refine (Met.new_any w7).mono ?_
          rintro e9 w9 ⟨rfl, hw9⟩
          have b9 : Below w7.heap.size w7 w9 := by rw [hw9]; exact Spa.below_new _ _
          have HST := Lib.hid (dstates_at w9 _ t [l] (HD7.out.keep b9))
          rw [hp] at HST
          have HB9 := Lib.hid (HB7.out.trans (b9.mono HB7.out.size))
          clear hw9 b9 HD7 HB7 HNO hp
          generalize w7.heap.size = gm at *
          go_wp2_with (go_at_call 19; (with_reducible refine HST.out.mono ?_); rintro e10 w10 ⟨rfl, rfl⟩)
          go_ret
          exact ⟨rfl, HB9.out⟩
        · have HNEW := Lib.hid (new_far wr l av cv hnc HBS.out (by omega) (by omega))
          have e1 : IntKind.i64.wrap ((l.length : Int) + 1) = (l.length : Int) + 1 := IntWalk.i64_in _ (by omega)
          have hnv : (160 : Int) < (l.length : Int) + 1 := by omega
          have hp := paths_one l
          go_wp2_with fail
          refine HNEW.out.mono ?_
          rintro e5 w5 ⟨rfl, hb5⟩
          have hb5' : Below wr.heap.size wr w5 := (Spa.below_new wr _).trans (hb5.mono (Spa.below_new wr _).size)
          have HBS5 := Lib.hid ((HBS.out.keep hb5').more hb5'.size)
          have HB5 := Lib.hid (HBE.out.trans (hb5'.mono HBE.out.size))
          have HTR := Lib.hid (tree_one w5 l av cv hnc HBS5.out (by omega))
          clear hb5 hb5' HNEW HBE HBS
          go_wp2_with fail
          refine HTR.out.mono ?_
          have bn5 := Spa.below_new w5 (.cells #[.slice av l.length cv] 23)
          have HB6 := Lib.hid (HB5.out.trans (bn5.mono HB5.out.size))
          clear HTR bn5 HB5
          generalize w5.alloc (.cells #[.slice av l.length cv] 23) = w6 at *
          rintro e7 w7 ⟨tt, rfl, htr, hb7⟩
          have HNO := Lib.hid (nodes_any w7 _ tt _ _ htr)
          rw [hp] at HNO
          have HB7 := Lib.hid (HB6.out.trans (hb7.mono HB6.out.size))
          clear htr hb7 HB6
          go_wp2_with (go_at_call 30; (with_reducible refine HNO.out.mono ?_); rintro e8 w8 ⟨rfl, rfl⟩)
          go_wp2_with fail
          refine (Met.new_any w7).mono ?_
          rintro e9 w9 ⟨rfl, hw9⟩
          have b9 : Below w7.heap.size w7 w9 := by rw [hw9]; exact Spa.below_new _ _
          have c9 : Met.Cnt w9 w7.heap.size 0 0 0 0 := by rw [hw9]; exact Spa.cnt_new w7
          have HB9 := Lib.hid (HB7.out.trans (b9.mono HB7.out.size))
          have HSC := Lib.hid (dscan_nil w9 (some ⟨w7.heap.size, 0, none⟩) av l.length cv)
          have HCO := Lib.hid (Met.counts_some w9 _ 0 0 0 0 c9)
          clear hw9 b9 c9 HB7 HNO hp
          generalize w7.heap.size = gm at *
          go_wp2_with (go_at_call 15; (with_reducible refine HSC.out.mono ?_); rintro e10 w10 ⟨rfl, rfl⟩)
          go_wp2_with fail
          refine HCO.out.mono ?_
          rintro e11 w11 ⟨rfl, b11⟩
          have HB11 := Lib.hid (HB9.out.trans (b11.mono HB9.out.size))
          have N1 := Lib.hid (fun X => states_none X)
          have N2 := Lib.hid (fun X => width_none X)
          have N3 : Hid (∀ X, Calls Try.prog 22 #[.pointer none, .int .i64 0, .int .u8 97] X fun e w' => e = .returned (.int .i64 (-1)) ∧ X = w') := Lib.hid (fun X => dnext_none X 0 97)
          have N4 := Lib.hid (fun X => path_none X 0)
          clear HCO HSC HB9 b11
          go_wp2_with (first
            | (go_at_call 19; (with_reducible refine (N1.out _).mono ?_); rintro e12 w12 ⟨rfl, rfl⟩)
            | (go_at_call 20; (with_reducible refine (N2.out _).mono ?_); rintro e12 w12 ⟨rfl, rfl⟩)
            | (go_at_call 22; (with_reducible refine (N3.out _).mono ?_); rintro e12 w12 ⟨rfl, rfl⟩)
            | (go_at_call 24; (with_reducible refine (N4.out _).mono ?_); rintro e12 w12 ⟨rfl, rfl⟩))
          go_ret
          exact ⟨rfl, HB11.out⟩
  · have h0' : (400 : Int) < (b.length : Int) := by omega
    go_enter Try.func6, Try.ntmps6
    go_wp2_with fail
    refine (Dfa.awake_any _).mono ?_
    rintro e' w1 ⟨rfl, hb2⟩
    go_wp2
    go_ret
    exact ⟨rfl, hb2⟩
end Go.Proofs.Ytnbfdjpmppflmaa.dfaCap
