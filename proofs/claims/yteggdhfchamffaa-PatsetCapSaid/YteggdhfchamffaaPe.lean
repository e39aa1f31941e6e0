/- Contracts of the reference's In, Size, Least. -/
import Derived.Test.YteggdhfchamffaaPv
namespace Go.Proofs.Yteggdhfchamffaa
open Go.RowKit

theorem str_toList (l : List UInt8) : (str l).toList = l := by rw [ByteArray.toList_eq]; rfl
theorem str_beq (x y : List UInt8) : ((str x).toList == (str y).toList) = decide (x = y) := by
  rw [str_toList, str_toList]
  by_cases h : x = y <;> simp [h]

set_option maxHeartbeats 1000000 in
theorem in_any (xs : List (List UInt8)) (x : List UInt8) (a : Option Addr) (cap : Nat) (w : World) (hs : Ss w a xs) (hl : xs.length ≤ 1000000000) :
    Calls Try.prog 12 #[.slice a xs.length cap, .string (str x)] w fun e w' => e = .returned (.bool (decide (x ∈ xs))) ∧ w = w' := by
  have HS := Lib.hid hs
  clear hs
  go_enter Try.func12, Try.ntmps12
  go_wp2
  go_loop [5] (fun i => ∃ k : Nat, k ≤ xs.length ∧ i = .int .i64 k ∧ x ∉ xs.take k) (fun i => xs.length - (intOf i).toNat)
  case atStart => exact ⟨0, Nat.zero_le _, rfl, by simp⟩
  case round =>
    obtain ⟨k, hk, rfl, hnot⟩ := hrel
    have HN := Lib.hid hnot
    clear hnot
    by_cases hlt : k < xs.length
    · obtain ⟨b, off, rfl, hbl, hc⟩ := HS.out (by omega)
      have hck := hc k hlt
      clear hc
      by_cases h : xs[k] = x
      · have hd : ((str xs[k]).toList == (str x).toList) = true := by rw [str_beq]; simpa using h
        have H := Lib.hid h
        clear h
        go_wp2
        go_ret
        refine ⟨ret_bool ?_, rfl⟩
        have : x ∈ xs := H.out ▸ List.getElem_mem hlt
        simp [this]
      · have hd : ((str xs[k]).toList == (str x).toList) = false := by rw [str_beq]; simpa using h
        have H := Lib.hid h
        clear h
        go_wp2
        go_round
        case rel =>
          refine ⟨k + 1, by omega, by go_num, ?_⟩
          rw [takes_snoc xs k hlt, List.mem_append, List.mem_singleton]
          rintro (h1 | h1)
          · exact HN.out h1
          · exact H.out h1.symm
        case measure => simp [intOf]; omega
    · go_wp2
      go_ret
      refine ⟨ret_bool ?_, rfl⟩
      have h1 := HN.out
      rw [List.take_of_length_le (by omega)] at h1
      simp [h1]
set_option maxHeartbeats 1000000 in
theorem rsize_any (ev : Value) (a : Option Addr) (cap : Nat) (xs : List (List UInt8)) (w : World) (hs : Ss w a xs) (hl : xs.length ≤ 1000000000) (hx : ∀ x ∈ xs, x.length ≤ 1000000000) :
    Calls Try.prog 25 #[.agg #[.slice a xs.length cap, ev]] w fun e w' => e = .returned (.int .i64 (bytesIn xs : Int)) ∧ Below w.heap.size w w' := by
  have hbel : Below w.heap.size w (w.alloc (.cells #[.slice a xs.length cap, ev] 32)) := (Below.refl _ _).alloc (Nat.le_refl _) _
  have hs' := hs.keep hbel
  obtain ⟨c0, c1⟩ := (Blk2.new w 32 (.slice a xs.length cap) ev).cells
  have HS := Lib.hid hs'
  have HX := Lib.hid hx
  clear hs hs' hx
  go_enter Try.func25, Try.ntmps25
  go_wp2
  go_loop [3, 4] (fun n i => ∃ k : Nat, k ≤ xs.length ∧ i = .int .i64 k ∧ n = .int .i64 (bytesIn (xs.take k) : Int)) (fun _ i => xs.length - (intOf i).toNat)
  case atStart => exact ⟨0, Nat.zero_le _, rfl, rfl⟩
  case round =>
    obtain ⟨k, hk, rfl, rfl⟩ := hrel
    by_cases hlt : k < xs.length
    · obtain ⟨b, off, rfl, hbl, hc⟩ := HS.out (by omega)
      have hck := hc k hlt
      have hz := str_size xs[k]
      have hb1 : bytesIn (xs.take k) ≤ k * 1000000000 := by
        have := bytesIn_le (xs.take k) 1000000000 (fun x hx => HX.out x (List.mem_of_mem_take hx))
        rw [List.length_take] at this
        have e : min k xs.length = k := by omega
        rwa [e] at this
      have hb2 := HX.out xs[k] (List.getElem_mem hlt)
      have HE := Lib.hid (bytesIn_snoc xs k hlt)
      obtain ⟨z, hz2⟩ : ∃ z, z = bytesIn (xs.take k) := ⟨_, rfl⟩
      rw [← hz2] at hb1 ⊢
      have HZ := Lib.hid hz2
      clear hc hz2
      go_wp2
      go_round
      case rel => exact ⟨k + 1, by omega, by go_num, by rw [HE.out, ← HZ.out]; go_num⟩
      case measure => simp [intOf]; omega
    · go_wp2
      go_ret
      refine ⟨?_, hbel⟩
      rw [List.take_of_length_le (by omega)]
      rfl
set_option maxHeartbeats 1000000 in
theorem rleast_any (ev : Value) (a : Option Addr) (cap : Nat) (xs : List (List UInt8)) (w : World) (hs : Ss w a xs) (hl : xs.length ≤ 1000000000) :
    Calls Try.prog 26 #[.agg #[.slice a xs.length cap, ev]] w fun e w' => e = .returned (.int .i64 (leastOf xs : Int)) ∧ Below w.heap.size w w' := by
  have hbel : Below w.heap.size w (w.alloc (.cells #[.slice a xs.length cap, ev] 32)) := (Below.refl _ _).alloc (Nat.le_refl _) _
  have hs' := hs.keep hbel
  obtain ⟨c0, c1⟩ := (Blk2.new w 32 (.slice a xs.length cap) ev).cells
  have HS := Lib.hid hs'
  clear hs hs'
  go_enter Try.func26, Try.ntmps26
  go_wp2
  go_loop [3, 4] (fun n i => ∃ k : Nat, k ≤ xs.length ∧ i = .int .i64 k ∧ n = .int .i64 (leastTo xs k : Int)) (fun _ i => xs.length - (intOf i).toNat)
  case atStart => exact ⟨0, Nat.zero_le _, rfl, rfl⟩
  case round =>
    obtain ⟨k, hk, rfl, rfl⟩ := hrel
    by_cases hlt : k < xs.length
    · obtain ⟨b, off, rfl, hbl, hc⟩ := HS.out (by omega)
      have hck := hc k hlt
      have hz := str_size xs[k]
      have HY := Lib.hid (leastTo_yes xs k hlt)
      have HN := Lib.hid (leastTo_no xs k hlt)
      obtain ⟨z, hz2⟩ : ∃ z, z = leastTo xs k := ⟨_, rfl⟩
      rw [← hz2]
      rw [← hz2] at HY HN
      clear hc hz2
      by_cases h0 : k = 0
      · have hd : ((k : Int) == 0) = true := by simp [h0]
        have H0 := Lib.hid h0
        clear h0
        go_wp2
        go_round
        case rel => exact ⟨k + 1, by omega, by go_num, by rw [HY.out (.inl H0.out)]⟩
        case measure => simp [intOf]; omega
      · have hd : ((k : Int) == 0) = false := by simp; omega
        by_cases h1 : xs[k].length < z
        · have hd1 : decide ((xs[k].length : Int) < (z : Int)) = true := by simp; omega
          go_wp2
          go_round
          case rel => exact ⟨k + 1, by omega, by go_num, by rw [HY.out (.inr h1)]⟩
          case measure => simp [intOf]; omega
        · have hd1 : decide ((xs[k].length : Int) < (z : Int)) = false := by simp; omega
          go_wp2
          go_round
          case rel => exact ⟨k + 1, by omega, by go_num, by rw [HN.out h0 h1]⟩
          case measure => simp [intOf]; omega
    · go_wp2
      go_ret
      refine ⟨?_, hbel⟩
      have e : k = xs.length := by omega
      rw [e]; rfl
end Go.Proofs.Yteggdhfchamffaa
