/- Contracts of the reference's Bytes, In and List. -/
import Derived.Test.YtlepabeibniabaaWalkf
namespace Go.Proofs.Ytlepabeibniabaa
open Go.RowKit
set_option maxRecDepth 100000

theorem str_list (l : List UInt8) : (str l).toList = l := by rw [ByteArray.toList_eq]; rfl
theorem str_add (a b : List UInt8) : str a ++ str b = str (a ++ b) := by
  apply ByteArray.ext
  simp [str]
theorem lows_snoc (l : List UInt8) (k : Nat) (h : k < l.length) : lows (l.take (k + 1)) = lows (l.take k) ++ [low l[k]] := by
  unfold lows
  rw [take_snoc l k h, List.map_append]
  rfl

theorem any_take_succ (l : List UInt8) (k c : Nat) (h : k < l.length) : (l.take (k + 1)).any (fun x => x.toNat == c) = ((l.take k).any (fun x => x.toNat == c) || l[k].toNat == c) := by
  rw [take_snoc l k h, List.any_append]
  simp only [List.any_cons, List.any_nil, Bool.or_false]
theorem any_of_at (l : List UInt8) (k c : Nat) (h : k < l.length) (e : l[k].toNat = c) : l.any (fun x => x.toNat == c) = true := by
  rw [List.any_eq_true]; exact ⟨l[k], List.getElem_mem h, by simp [e]⟩
set_option maxHeartbeats 1000000 in
theorem in_any (l : List UInt8) (c : Nat) (w : World) (hl : l.length ≤ 1000000000000) :
    Calls Try.prog 20 #[.string (str l), .int .u8 c] w fun e w' => e = .returned (.bool ((setOf l).testBit c)) ∧ w = w' := by
  rw [setOf_bit]
  have hz := str_size l
  go_enter Try.func20, Try.ntmps20
  go_wp2
  go_loop [5] (fun i => ∃ k : Nat, k ≤ l.length ∧ i = .int .i64 k ∧ (l.take k).any (fun x => x.toNat == c) = false) (fun i => l.length - (intOf i).toNat)
  case atStart => exact ⟨0, Nat.zero_le _, rfl, rfl⟩
  case round =>
    obtain ⟨k, hk, rfl, hn⟩ := hrel
    have HN := Lib.hid hn
    clear hn
    by_cases hlt : k < l.length
    · have hix := str_at l k hlt
      by_cases hc : l[k].toNat = c
      · have ht : ((l[k].toNat : Int) == (c : Int)) = true := by simp [hc]
        have HA := Lib.hid (any_of_at l k c hlt hc)
        clear hc
        go_wp2
        go_ret
        rw [HA.out]
        exact ⟨rfl, rfl⟩
      · have ht : ((l[k].toNat : Int) == (c : Int)) = false := by simp; omega
        have HA := Lib.hid (any_take_succ l k c hlt)
        have HC := Lib.hid hc
        clear hc
        go_wp2
        go_round
        case rel => exact ⟨k + 1, by omega, by go_num, by rw [HA.out, HN.out]; simpa using HC.out⟩
        case measure => simp [intOf]; omega
    · go_wp2
      go_ret
      have e : l.take k = l := List.take_of_length_le (by omega)
      have h := HN.out
      rw [e] at h
      rw [h]
      exact ⟨rfl, rfl⟩

/-- A set's bytes below k, rising. -/
def listTo (N k : Nat) : List UInt8 := ((List.range k).filter (fun i => N.testBit i)).map UInt8.ofNat
theorem listTo_yes (N k : Nat) (h : N.testBit k = true) : listTo N (k + 1) = listTo N k ++ [UInt8.ofNat k] := by
  unfold listTo; rw [List.range_succ, List.filter_append]; simp [h]
theorem listTo_no (N k : Nat) (h : N.testBit k = false) : listTo N (k + 1) = listTo N k := by
  unfold listTo; rw [List.range_succ, List.filter_append]; simp [h]
theorem listTo_le (N k : Nat) : (listTo N k).length ≤ k := by
  unfold listTo; rw [List.length_map]; exact Nat.le_trans (List.length_filter_le _ _) (by simp)
theorem nat_u8 (k : Nat) (h : k < 256) : (UInt8.ofNat k).toNat = k := by rw [UInt8.toNat_ofNat']; omega

set_option maxRecDepth 100000 in
set_option maxHeartbeats 4000000 in
theorem rlist_any (l : List UInt8) (w : World) (hl : l.length ≤ 1000000000000) :
    Calls Try.prog 21 #[.string (str l)] w fun e w' => e = .returned (.string (str (listTo (setOf l) 256))) ∧ Below w.heap.size w w' := by
  go_enter Try.func21, Try.ntmps21
  go_wp2
  go_loopw [3, 4] (fun o i wr => ∃ k : Nat, k ≤ 256 ∧ i = .int .i64 k ∧ o = .string (str (listTo (setOf l) k)) ∧ Below w.heap.size w wr)
    (fun _ i _ => 256 - (intOf i).toNat)
  case atStart => exact ⟨0, Nat.zero_le _, rfl, rfl, Below.refl _ _⟩
  case round =>
    obtain ⟨k, hk, rfl, rfl, hbel⟩ := hrel
    by_cases hlt : k < 256
    · have hs2 : (str (listTo (setOf l) k)).size ≤ 256 := by rw [str_size]; have := listTo_le (setOf l) k; omega
      cases hb : (setOf l).testBit k with
      | true =>
        have HB := Lib.hid hb
        have hcv : (convert 36 9 (.slice (some ⟨wr.heap.size, 0, none⟩) 1 1)).run Try.prog (wr.alloc (.cells #[.int .u8 (k : Int)] 5)) = .ok (.string (str [UInt8.ofNat k])) (wr.alloc (.cells #[.int .u8 (k : Int)] 5)) :=
          str_of_bs (l := [UInt8.ofNat k]) 1 (bs_lit wr [UInt8.ofNat k] (0, 0) _ (by simp [nat_u8 k hlt]))
        have hs1 : (str [UInt8.ofNat k]).size = 1 := str_size _
        go_wp2_with (go_at_call 20; refine (in_any l k _ hl).mono ?_; rintro e w1 ⟨rfl, rfl⟩)
        go_roundw
        case rel => exact ⟨k + 1, by omega, by go_num, by rw [listTo_yes _ _ HB.out, str_add], hbel.alloc hbel.size _⟩
        case measure => simp [intOf]; omega
      | false =>
        have HB := Lib.hid hb
        go_wp2_with (go_at_call 20; refine (in_any l k _ hl).mono ?_; rintro e w1 ⟨rfl, rfl⟩)
        go_roundw
        case rel => exact ⟨k + 1, by omega, by go_num, by rw [listTo_no _ _ HB.out], hbel⟩
        case measure => simp [intOf]; omega
    · have e : k = 256 := by omega
      subst e
      go_wp2
      go_ret
      exact ⟨rfl, hbel⟩
end Go.Proofs.Ytlepabeibniabaa
