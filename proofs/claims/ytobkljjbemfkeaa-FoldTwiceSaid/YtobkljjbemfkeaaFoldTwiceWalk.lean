/- The walk of the law FoldTwice. -/
import Derived.Test.YtobkljjbemfkeaaWalkh
import Derived.Deep.DeepCutAuto
namespace Go.Proofs.Ytobkljjbemfkeaa.foldTwice
open Go.RowKit

theorem low_low (c : UInt8) : low (low c) = low c := by
  have h := low_nat c
  generalize low c = d at *
  unfold low
  rw [if_neg]
  rw [h]
  split <;> omega
theorem lows_lows (l : List UInt8) : lows (lows l) = lows l := by
  unfold lows
  rw [List.map_map]
  exact List.map_congr_left fun c _ => low_low c

set_option maxRecDepth 100000 in
set_option maxHeartbeats 8000000 in
theorem walk (w : World) (l : List UInt8) (a : Option Addr) (cap : Nat) (hm : l.length ≤ maxLen) (hb : Bs w w.heap.size a l) :
    Calls Try.prog 6 #[.slice a l.length cap] w fun e w' => e = .returned (.bool true) ∧ Below w.heap.size w w' := by
  unfold maxLen at hm
  by_cases hl : l.length ≤ 600
  · have hl' : l.length ≤ 1000000000000 := by omega
    have hll : (lows l).length = l.length := by simp [lows]
    obtain ⟨x, hx⟩ : ∃ x, x = lows l := ⟨_, rfl⟩
    have hxx : lows x = x := by rw [hx]; exact lows_lows l
    have hxl : x.length ≤ 1000000000000 := by rw [hx, hll]; omega
    have HX := Lib.hid hx
    have HXX := Lib.hid hxx
    have hxe : x.length = l.length := by rw [hx, hll]
    have HBY : Hid (∀ w : World, Bs w w.heap.size a l → Calls Try.prog 11 #[.slice a l.length cap] w (GivesBytes w x)) := fun w h => by rw [hx]; exact bytes_any l a cap w hl' h
    have HBX : Hid (∀ (a : Option Addr) (cap : Nat) (w : World), Bs w w.heap.size a x → Calls Try.prog 11 #[.slice a l.length cap] w (GivesBytes w x)) := fun a cap w h => by have h1 := bytes_any x a cap w hxl h; rw [hxx, hxe] at h1; exact h1
    have HFX : Hid (∀ (a : Option Addr) (cap : Nat) (w : World), Bs w w.heap.size a x → Calls Try.prog 12 #[.slice a l.length cap] w fun e w' => e = .returned (.bool true) ∧ Below w.heap.size w w') := fun a cap w h => by have h1 := fixed_any x a cap w hxl h; rw [hxx, beq_self_eq_true, hxe] at h1; exact h1
    clear hx hxx hll
    have hsl := str_list x
    go_enter Try.func6, Try.ntmps6
    go_wp2_with fail
    go_at_call 9
    refine (awake_any w).mono ?_
    rintro e w1 ⟨rfl, hb1⟩
    go_wp2_with fail
    go_at_call 11
    refine (HBY.out w1 ((hb.keep hb1).more hb1.size)).mono ?_
    rintro e w2 ⟨a2, cap2, rfl, hb2, hbel2⟩
    have B2 : Below w.heap.size w w2 := hb1.trans (hbel2.mono hb1.size)
    clear hb1 hbel2
    have hD : Bs w2.drew w2.drew.heap.size a2 x := hb2
    have HS : Hid (∀ (W : World) (B : Nat) (a : Option Addr) (cap : Nat), Bs W B a x → (convert 22 9 (.slice a l.length cap)).run Try.prog W = .ok (.string (str x)) W) := fun W B a cap h => by rw [← hxe]; exact str_of_bs cap h
    go_upto_region 7 with fail
    go_cut [31] (fun s31 wx => s31 = .bool false ∧ Below w2.heap.size w2 wx)
    case first =>
     go_region_with (first
      | (go_at_call 12; refine (HFX.out a2 cap2 _ hD).mono ?_; rintro e w3 ⟨rfl, hb3⟩; have hk3 := HS.out _ _ _ cap2 (hD.keep hb3))
      | (go_at_call 11; refine (HBX.out a2 cap2 _ ((hD.keep hb3).more hb3.size)).mono ?_; rintro e w4 ⟨a4, cap4, rfl, hb4, hbel4⟩; have hk4 := HS.out _ _ _ cap4 hb4; have hk5 := HS.out _ _ _ cap2 ((hD.keep hb3).keep (hbel4.mono hb3.size))))
     all_goals
      go_wp2_with fail
      go_meet
      exact ⟨rfl, ((Below.refl w2.heap.size w2).drew.trans hb3).trans (hbel4.mono hb3.size)⟩
    case rest =>
     obtain ⟨rfl, hbx⟩ := hcut
     go_wp2
     go_loopw [5] (fun i wr => ∃ k : Nat, k ≤ l.length ∧ i = .int .i64 k ∧ Below w2.heap.size w2 wr) (fun i _ => l.length - (intOf i).toNat)
     case atStart => exact ⟨0, Nat.zero_le _, rfl, hbx⟩
     case round =>
      obtain ⟨k, hk, rfl, hbr⟩ := hrel
      by_cases hlt : k < l.length
      · have hB2 : Below w.heap.size w wr := B2.trans (hbr.mono B2.size)
        obtain ⟨b1, o1, ha1, _, hc1⟩ := (hb.keep hB2) (by omega)
        obtain ⟨b2, o2, ha2, _, hc2⟩ := (hb2.keep hbr) (by omega)
        have hcl := hc1 k hlt
        have hcx := hc2 k (by omega)
        have hn := low_nat l[k]
        have hxk : x[k]'(by omega) = low l[k] := by simp [HX.out, lows]
        rw [hxk] at hcx
        have hlt256 := l[k].toNat_lt
        generalize (low l[k]).toNat = m at hcx hn
        generalize l[k].toNat = n at hcl hn hlt256
        have HC1 := Lib.hid hc1
        have HC2 := Lib.hid hc2
        clear hc1 hc2 hxk
        have hkl : (k : Int) < (l.length : Int) := by omega
        subst ha1 ha2
        rcases (show (n < 65 ∧ m = n) ∨ (90 < n ∧ m = n) ∨ (65 ≤ n ∧ n ≤ 90 ∧ m = n + 32) from by split at hn <;> omega) with ⟨h1, rfl⟩ | ⟨h1, rfl⟩ | ⟨h1, h2, rfl⟩
        · clear hn
          have d0 : ((m : Int) != (m : Int)) = false := by simp
          have d1 : decide ((65 : Int) ≤ (m : Int)) = false := by simp; omega
          go_wp2
          go_quiet (fail)
          go_wp2
          go_roundw
          case rel => exact ⟨k + 1, by omega, by go_num, below_drews hbr _⟩
          case measure => simp [intOf]; omega
        · clear hn
          have d0 : ((m : Int) != (m : Int)) = false := by simp
          have d1 : decide ((65 : Int) ≤ (m : Int)) = true := by simp; omega
          have d2 : decide ((m : Int) ≤ (90 : Int)) = false := by simp; omega
          go_wp2
          go_quiet (fail)
          go_wp2
          go_roundw
          case rel => exact ⟨k + 1, by omega, by go_num, below_drews hbr _⟩
          case measure => simp [intOf]; omega
        · clear hn
          have e0 : ((n + 32 : Nat) : Int) = (n : Int) + 32 := by omega
          rw [e0] at hcx
          clear e0
          have d0 : (((n : Int) + 32) != (n : Int)) = true := by simp; omega
          have d3 : (((n : Int) + 32) != ((n : Int) + 32)) = false := by simp
          have d4 : decide ((n : Int) < (65 : Int)) = false := by simp; omega
          have d5 : decide ((90 : Int) < (n : Int)) = false := by simp; omega
          have d1 : decide ((65 : Int) ≤ (n : Int) + 32) = true := by simp; omega
          have d2 : decide ((n : Int) + 32 ≤ (90 : Int)) = false := by simp; omega
          have d6 : IntKind.u8.wrap ((n : Int) + 32) = (n : Int) + 32 := by rw [IntKind.wrap_u8']; omega
          go_wp2
          go_quiet (fail)
          go_wp2
          go_roundw
          case rel => exact ⟨k + 1, by omega, by go_num, below_drews hbr _⟩
          case measure => simp [intOf]; omega
      · go_wp2
        go_ret
        exact ⟨rfl, B2.trans (hbr.mono B2.size)⟩
  · have hgt : 600 < l.length := by omega
    go_enter Try.func6, Try.ntmps6
    go_wp2_with fail
    go_at_call 9
    refine (awake_any w).mono ?_
    rintro e w1 ⟨rfl, hb1⟩
    go_wp2
    go_ret
    exact ⟨rfl, hb1⟩
end Go.Proofs.Ytobkljjbemfkeaa.foldTwice
