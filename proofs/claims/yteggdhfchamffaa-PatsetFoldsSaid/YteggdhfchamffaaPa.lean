/- Contracts of what a set tells. -/
import Derived.Test.YteggdhfchamffaaPv
namespace Go.Proofs.Yteggdhfchamffaa
open Go.RowKit

set_option maxHeartbeats 1000000 in
theorem has_any (m : Option Nat) (a : Option Addr) (n cap : Nat) (came : List (List UInt8)) (l : List UInt8) (ab : Option Addr) (capb : Nat) (w : World) (hset : IsSet w m a came) (hb : Bs w w.heap.size ab l) (hl : l.length ≤ 1000000000) :
    Calls Try.prog 14 #[.agg #[.map m, .slice a n cap], .slice ab l.length capb] w fun e w' => e = .returned (.bool (decide (l ∈ came))) ∧ Below w.heap.size w w' := by
  have hbel : Below w.heap.size w (w.alloc (.cells #[.map m, .slice a n cap] 27)) := (Below.refl _ _).alloc (Nat.le_refl _) _
  have hset' := hset.keep hbel
  have hcv := str_of_bs capb (hb.keep hbel)
  obtain ⟨c0, c1⟩ := (Blk2.new w 27 (.map m) (.slice a n cap)).cells
  have HS := Lib.hid hset'
  clear hset hset' hb
  go_enter Try.func14, Try.ntmps14
  go_wp2_with (at_lookup; refine look_set rfl _ _ rfl m a came rfl HS.out l rfl (by unfold maxLen; omega) ?_)
  go_ret
  exact ⟨rfl, hbel⟩
set_option maxHeartbeats 1000000 in
theorem empty_any (m : Option Nat) (a : Option Addr) (n cap : Nat) (came : List (List UInt8)) (w : World) (hset : IsSet w m a came) :
    Calls Try.prog 20 #[.agg #[.map m, .slice a n cap]] w fun e w' => e = .returned (.bool (decide ([] ∈ came))) ∧ Below w.heap.size w w' := by
  have hbel : Below w.heap.size w (w.alloc (.cells #[.map m, .slice a n cap] 27)) := (Below.refl _ _).alloc (Nat.le_refl _) _
  have hset' := hset.keep hbel
  obtain ⟨c0, c1⟩ := (Blk2.new w 27 (.map m) (.slice a n cap)).cells
  have HS := Lib.hid hset'
  clear hset hset'
  go_enter Try.func20, Try.ntmps20
  go_wp2_with (at_lookup; refine look_set rfl _ _ rfl m a came rfl HS.out [] rfl (by unfold maxLen; simp) ?_)
  go_ret
  exact ⟨rfl, hbel⟩
set_option maxHeartbeats 1000000 in
theorem size_any (mv : Value) (a : Option Addr) (cap : Nat) (xs : List (List UInt8)) (w : World) (hs : Ss w a xs) (hl : xs.length ≤ 1000000000) (hx : ∀ x ∈ xs, x.length ≤ 1000000000) :
    Calls Try.prog 21 #[.agg #[mv, .slice a xs.length cap]] w fun e w' => e = .returned (.int .i64 (bytesIn xs : Int)) ∧ Below w.heap.size w w' := by
  have hbel : Below w.heap.size w (w.alloc (.cells #[mv, .slice a xs.length cap] 27)) := (Below.refl _ _).alloc (Nat.le_refl _) _
  have hs' := hs.keep hbel
  obtain ⟨c0, c1⟩ := (Blk2.new w 27 mv (.slice a xs.length cap)).cells
  have HS := Lib.hid hs'
  have HX := Lib.hid hx
  clear hs hs' hx
  go_enter Try.func21, Try.ntmps21
  go_wp2
  go_loop [3, 9] (fun n i => ∃ k : Nat, k ≤ xs.length ∧ i = .int .i64 k ∧ n = .int .i64 (bytesIn (xs.take k) : Int)) (fun _ i => xs.length - (intOf i).toNat)
  case atStart => exact ⟨0, Nat.zero_le _, rfl, rfl⟩
  case round =>
    obtain ⟨k, hk, rfl, rfl⟩ := hrel
    by_cases hlt : k < xs.length
    · obtain ⟨b, off, rfl, hbl, hc⟩ := HS.out (by omega)
      have hck := hc k hlt
      have hz := str_size xs[k]
      have hb1 : bytesIn (xs.take k) ≤ k * 1000000000 := by
        have := bytesIn_le (xs.take k) 1000000000 (fun x hx => HX.out x (List.mem_of_mem_take hx))
        rw [List.length_take] at this
        have e : min k xs.length = k := by omega
        rwa [e] at this
      have hb2 := HX.out xs[k] (List.getElem_mem hlt)
      have HE := Lib.hid (bytesIn_snoc xs k hlt)
      obtain ⟨z, hz2⟩ : ∃ z, z = bytesIn (xs.take k) := ⟨_, rfl⟩
      rw [← hz2] at hb1 ⊢
      have HZ := Lib.hid hz2
      clear hc hz2
      go_wp2
      go_round
      case rel => exact ⟨k + 1, by omega, by go_num, by rw [HE.out, ← HZ.out]; go_num⟩
      case measure => simp [intOf]; omega
    · go_wp2
      go_ret
      refine ⟨?_, hbel⟩
      rw [List.take_of_length_le (by omega)]
      rfl
set_option maxHeartbeats 1000000 in
theorem least_any (mv : Value) (a : Option Addr) (cap : Nat) (xs : List (List UInt8)) (w : World) (hs : Ss w a xs) (hl : xs.length ≤ 1000000000) :
    Calls Try.prog 22 #[.agg #[mv, .slice a xs.length cap]] w fun e w' => e = .returned (.int .i64 (leastOf xs : Int)) ∧ Below w.heap.size w w' := by
  have hbel : Below w.heap.size w (w.alloc (.cells #[mv, .slice a xs.length cap] 27)) := (Below.refl _ _).alloc (Nat.le_refl _) _
  have hs' := hs.keep hbel
  obtain ⟨c0, c1⟩ := (Blk2.new w 27 mv (.slice a xs.length cap)).cells
  have HS := Lib.hid hs'
  clear hs hs'
  go_enter Try.func22, Try.ntmps22
  go_wp2
  go_loop [3, 9] (fun n i => ∃ k : Nat, k ≤ xs.length ∧ i = .int .i64 k ∧ n = .int .i64 (leastTo xs k : Int)) (fun _ i => xs.length - (intOf i).toNat)
  case atStart => exact ⟨0, Nat.zero_le _, rfl, rfl⟩
  case round =>
    obtain ⟨k, hk, rfl, rfl⟩ := hrel
    by_cases hlt : k < xs.length
    · obtain ⟨b, off, rfl, hbl, hc⟩ := HS.out (by omega)
      have hck := hc k hlt
      have hz := str_size xs[k]
      have HY := Lib.hid (leastTo_yes xs k hlt)
      have HN := Lib.hid (leastTo_no xs k hlt)
      obtain ⟨z, hz2⟩ : ∃ z, z = leastTo xs k := ⟨_, rfl⟩
      rw [← hz2]
      rw [← hz2] at HY HN
      clear hc hz2
      by_cases h0 : k = 0
      · have hd : ((k : Int) == 0) = true := by simp [h0]
        have H0 := Lib.hid h0
        clear h0
        go_wp2
        go_round
        case rel => exact ⟨k + 1, by omega, by go_num, by rw [HY.out (.inl H0.out)]⟩
        case measure => simp [intOf]; omega
      · have hd : ((k : Int) == 0) = false := by simp; omega
        by_cases h1 : xs[k].length < z
        · have hd1 : decide ((xs[k].length : Int) < (z : Int)) = true := by simp; omega
          go_wp2
          go_round
          case rel => exact ⟨k + 1, by omega, by go_num, by rw [HY.out (.inr h1)]⟩
          case measure => simp [intOf]; omega
        · have hd1 : decide ((xs[k].length : Int) < (z : Int)) = false := by simp; omega
          go_wp2
          go_round
          case rel => exact ⟨k + 1, by omega, by go_num, by rw [HN.out h0 h1]⟩
          case measure => simp [intOf]; omega
    · go_wp2
      go_ret
      refine ⟨?_, hbel⟩
      have e : k = xs.length := by omega
      rw [e]; rfl
end Go.Proofs.Yteggdhfchamffaa
