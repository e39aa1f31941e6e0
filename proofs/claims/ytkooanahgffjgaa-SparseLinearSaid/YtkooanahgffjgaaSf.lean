import Derived.Test.YtkooanahgffjgaaSe
import Derived.Test.YtkooanahgffjgaaLg
import Derived.Test.YtkooanahgffjgaaTh
import Derived.Test.YtkooanahgffjgaaTl
/- The reference's Step, Looks, Longest; few. -/
namespace Go.Proofs.Ytkooanahgffjgaa.Spa
open Go.RowKit Go.Maps
open Go.Proofs.Ytkooanahgffjgaa.Tri Go.Proofs.Ytkooanahgffjgaa.Lnk Go.Proofs.Ytkooanahgffjgaa.Prs
set_option maxRecDepth 100000
theorem few_any (w : World) (a : Option Addr) (n c : Nat) : Calls Try.prog 11 #[.slice a n c] w fun e w' => e = .returned (.bool (decide (n ≤ 120))) ∧ w = w' := by
  by_cases h : n ≤ 120
  · rw [decide_eq_true h]
    have h2 : (n : Int) ≤ 120 := by omega
    go_enter Try.func11, Try.ntmps11
    go_wp2
    go_ret
    exact ⟨ret_bool (by simp), rfl⟩
  · rw [decide_eq_false h]
    have h2 : ¬ (n : Int) ≤ 120 := by omega
    go_enter Try.func11, Try.ntmps11
    go_wp2
    go_ret
    exact ⟨ret_bool (by simp), rfl⟩
set_option maxHeartbeats 2000000 in
theorem rlong_any (w : World) (ps : List Tx) (a : Option Addr) (cap : Nat) (hs : Ss w a ps) (hl : ps.length ≤ 1000000000) (s : Tx) (hsl : s.length ≤ 1000000) :
    Calls Try.prog 25 #[.slice a ps.length cap, .string (str s)] w fun e w' => e = .returned (.string (str (longT ps s))) ∧ w = w' := by
  have HP := Lib.hid (place_any w ps a cap hs hl)
  have hz := str_size s
  clear hs
  go_enter Try.func25, Try.ntmps25
  go_wp2
  go_loop [5] (fun v => ∃ k : Nat, k ≤ s.length ∧ v = .int .i64 (k : Int) ∧ longT ps (s.drop k) = longT ps s) (fun v => s.length - (intOf v).toNat)
  case atStart => exact ⟨0, Nat.zero_le _, rfl, rfl⟩
  case round =>
    obtain ⟨k, hk, rfl, he⟩ := hrel
    by_cases hlt : k < s.length
    · have hkl : (k : Int) < (s.length : Int) := by omega
      rw [longT_drop ps s k hlt] at he
      have hex := str_drop s k
      have HPL := Lib.hid (HP.out (s.drop k))
      by_cases hm : s.drop k ∈ ps
      · rw [if_pos hm] at he
        have h0 := (place_nonneg ps _).2 hm
        have HE := Lib.hid he
        clear he hm
        generalize s.drop k = y at *
        generalize place ps y = z at *
        go_wp2_with (go_at_call 24; (with_reducible refine HPL.out.mono ?_); rintro e w1 ⟨rfl, rfl⟩)
        go_ret
        exact ⟨by rw [← HE.out]; rfl, rfl⟩
      · rw [if_neg hm] at he
        have h0 := (place_neg ps _).2 hm
        have HE := Lib.hid he
        clear he hm
        generalize place ps (s.drop k) = z at *
        go_wp2_with (go_at_call 24; (with_reducible refine HPL.out.mono ?_); rintro e w1 ⟨rfl, rfl⟩)
        go_round
        case rel => exact ⟨k + 1, by omega, by go_num, HE.out⟩
        case measure => simp [intOf]; omega
    · obtain rfl : k = s.length := by omega
      rw [List.drop_length] at he
      have HE := Lib.hid he
      clear he
      go_wp2
      go_ret
      exact ⟨by rw [← HE.out]; rfl, rfl⟩
set_option maxHeartbeats 8000000 in
theorem rstep_any (w : World) (ps : List Tx) (hw : Wf ps) (a : Option Addr) (cap : Nat) (hs : Ss w a ps) (hl : ps.length ≤ 1000000000) (s : Tx) (hsl : s.length ≤ 1000000) (c : UInt8) :
    Calls Try.prog 23 #[.slice a ps.length cap, .string (str s), .int .u8 (c.toNat : Int)] w fun e w' => e = .returned (.tuple #[.string (str (stepT ps c s)), .int .i64 (stepN ps c s : Int)]) ∧ Below w.heap.size w w' := by
  have HS := Lib.hid hs
  have HW := Lib.hid hw
  clear hs hw
  have hN0 := step_bound HW.out c _ s (Nat.le_refl _)
  go_enter Try.func23, Try.ntmps23
  go_wp2
  go_loopw [1, 8] (fun v n wr => ∃ (q : Tx) (k : Nat), q.length ≤ 1000000 ∧ v = .string (str q) ∧ n = .int .i64 ((k : Int) + 1) ∧ stepT ps c q = stepT ps c s ∧ stepN ps c s = stepN ps c q + k ∧ k + q.length ≤ s.length ∧ Below w.heap.size w wr) (fun v _ _ => match v with | .string b => b.size | _ => 0)
  case atStart => exact ⟨s, 0, hsl, rfl, rfl, rfl, rfl, by omega, Below.refl _ _⟩
  case round =>
    obtain ⟨q, k, hql, rfl, rfl, hs1, hs2, hkq, hbel⟩ := hrel
    have HB := Lib.hid hbel
    have HS1 := Lib.hid hs1
    have HS2 := Lib.hid hs2
    have hcv := conv_one wr c
    have hap := str_append q [c]
    have hz0 := str_size q
    have hz2 : (str [c]).size = 1 := str_size _
    have hb1 : Below w.heap.size w (wr.alloc (.cells #[.int .u8 (c.toNat : Int)] 5)) := hbel.alloc hbel.size _
    have HB1 := Lib.hid hb1
    have HP := Lib.hid (place_any _ ps a cap (HS.out.keep hb1) hl (q ++ [c]))
    clear hbel hs1 hs2 hb1
    by_cases hit : q ++ [c] ∈ ps
    · have h0 := (place_nonneg ps _).2 hit
      have HI := Lib.hid hit
      clear hit
      go_wp2_with (go_at_call 24; (with_reducible refine HP.out.mono ?_); rintro e w1 ⟨rfl, rfl⟩)
      refine bodyPost_ret (v := .tuple #[.string (str (q ++ [c])), .int .i64 ((k : Int) + 1)]) (by simp [results, Try.results23, go_sem]) rfl ?_
      have e1 : stepN ps c s = k + 1 := by rw [HS2.out, stepN_one (.inl HI.out)]; omega
      refine ⟨?_, HB1.out⟩
      rw [← HS1.out, stepT_hit HI.out, e1]; rfl
    · have h0 := (place_neg ps _).2 hit
      have HI := Lib.hid hit
      clear hit
      by_cases hn : q = []
      · have hem : (str q).toList.isEmpty = true := by rw [hn]; simp [str]
        have HN := Lib.hid hn
        clear hn
        go_wp2_with (go_at_call 24; (with_reducible refine HP.out.mono ?_); rintro e w1 ⟨rfl, rfl⟩)
        refine bodyPost_ret (v := .tuple #[.string (str []), .int .i64 ((k : Int) + 1)]) (by simp [results, Try.results23, go_sem, str]) rfl ?_
        have e1 : stepN ps c s = k + 1 := by rw [HS2.out, stepN_one (.inr HN.out)]; omega
        have e2 : stepT ps c q = [] := by
          have hi := HI.out
          rw [HN.out] at hi ⊢
          exact stepT_root (by simpa using hi)
        refine ⟨?_, HB1.out⟩
        rw [← HS1.out, e2, e1]; rfl
      · have hpos : 0 < q.length := List.length_pos_iff.2 hn
        have hem : (str q).toList.isEmpty = false := by
          cases q with
          | nil => exact absurd rfl hn
          | cons x q => simp [str]
        have HN := Lib.hid hn
        have HFT : Hid (fallT ps q = longT ps (q.drop 1)) := Lib.hid (by cases q with | nil => exact absurd rfl hn | cons x q => rfl)
        have HFL := Lib.hid (fallT_lt ps hn)
        clear hn
        go_wp2_with (go_at_call 24; (with_reducible refine HP.out.mono ?_); rintro e w1 ⟨rfl, rfl⟩)
        have HPA := Lib.hid (place_any _ ps a cap (HS.out.keep HB1.out) hl)
        clear HP hcv
        generalize wr.alloc (.cells #[.int .u8 (c.toNat : Int)] 5) = wa at *
        go_loopw [10] (fun v wi => wi = wa ∧ ∃ j : Nat, 1 ≤ j ∧ j ≤ q.length ∧ v = .int .i64 (j : Int) ∧ longT ps (q.drop j) = fallT ps q) (fun v _ => q.length - (intOf v).toNat)
        case atStart => exact ⟨rfl, 1, by omega, by omega, rfl, HFT.out.symm⟩
        case round =>
          obtain ⟨rfl, j, hj1, hj, rfl, he⟩ := hrel
          have hex := str_drop q j
          have HPL := Lib.hid (HPA.out (q.drop j))
          by_cases hm : q.drop j ∈ ps
          · have h9 := (place_nonneg ps _).2 hm
            rw [longT_of_mem hm] at he
            have HE := Lib.hid he
            have hld : (q.drop j).length = q.length - j := List.length_drop
            have HLD := Lib.hid hld
            clear he hm hld
            generalize q.drop j = y at *
            generalize place ps y = z at *
            go_wp2_with (go_at_call 24; (with_reducible refine HPL.out.mono ?_); rintro e w1 ⟨rfl, rfl⟩)
            go_roundw
            case rel =>
              refine ⟨y, k + 1, by rw [HLD.out]; omega, rfl, by go_num, ?_, ?_, by rw [HLD.out]; omega, HB1.out⟩
              · rw [HE.out, ← HS1.out, stepT_fall HW.out HI.out HN.out]
              · rw [HE.out, HS2.out, stepN_fall HI.out HN.out]; omega
            case measure =>
              show (str y).size < (str q).size
              rw [str_size, str_size, HLD.out]; omega
          · have h9 := (place_neg ps _).2 hm
            have hjl : j < q.length := by
              rcases Nat.lt_or_ge j q.length with h | h
              · exact h
              · exact absurd (by rw [List.drop_of_length_le h]; exact HW.out.nil_mem) hm
            rw [longT_drop ps q j hjl, if_neg hm] at he
            have HE := Lib.hid he
            clear he hm
            generalize place ps (q.drop j) = z at *
            go_wp2_with (go_at_call 24; (with_reducible refine HPL.out.mono ?_); rintro e w1 ⟨rfl, rfl⟩)
            go_roundw
            case rel => exact ⟨trivial, j + 1, by omega, by omega, by go_num, HE.out⟩
            case measure => simp [intOf]; omega
set_option maxHeartbeats 8000000 in
theorem rlooks_any (w : World) (ps : List Tx) (hw : Wf ps) (a : Option Addr) (cap : Nat) (hs : Ss w a ps) (hl : ps.length ≤ 1000000000) (s : Tx) (hsl : s.length ≤ 1000000) :
    Calls Try.prog 18 #[.slice a ps.length cap, .string (str s)] w fun e w' => e = .returned (.int .i64 (looksTo ps s s.length : Int)) ∧ Below w.heap.size w w' := by
  have HS := Lib.hid hs
  have HW := Lib.hid hw
  have hz := str_size s
  clear hs hw
  go_enter Try.func18, Try.ntmps18
  go_wp2
  go_loopw [5, 6, 7] (fun v n i wr => ∃ k : Nat, k ≤ s.length ∧ i = .int .i64 (k : Int) ∧ v = .string (str (longT ps (s.take k))) ∧ n = .int .i64 (looksTo ps s k : Int) ∧ Below w.heap.size w wr) (fun _ _ i _ => s.length - (intOf i).toNat)
  case atStart => exact ⟨0, by omega, rfl, rfl, rfl, Below.refl _ _⟩
  case round =>
    obtain ⟨k, hk, rfl, rfl, rfl, hbel⟩ := hrel
    have HB := Lib.hid hbel
    clear hbel
    by_cases hlt : k < s.length
    · have hlt2 : (k : Int) < (s.length : Int) := by omega
      have hlb := (looks_bound HW.out s (k + 1) (by omega)).2
      have HLE := Lib.hid (looksTo_succ ps s k hlt)
      have hle := HLE.out
      have hb3 : (looksTo ps s k : Int) + (stepN ps s[k] (longT ps (s.take k)) : Int) ≤ 3000000 := by omega
      have HST := Lib.hid (long_take HW.out s k hlt)
      have hq : (longT ps (s.take k)).length ≤ 1000000 := by
        have := longT_le ps (s.take k)
        rw [List.length_take] at this; omega
      have hat := str_at s k hlt
      have HC := Lib.hid (rstep_any wr ps HW.out a cap (HS.out.keep HB.out) hl (longT ps (s.take k)) hq s[k])
      clear hlb hle
      go_wp2_with (go_at_call 23; (with_reducible refine HC.out.mono ?_); rintro e w1 ⟨rfl, hb1⟩; have HB1 := Lib.hid hb1; clear hb1)
      refine ⟨⟨k + 1, by omega, by go_num, by rw [HST.out], ?_, HB.out.trans (HB1.out.mono HB.out.size)⟩, by simp [intOf]; omega⟩
      rw [HLE.out]; congr 1
    · have hke : k = s.length := by omega
      have hk3 : ¬ (k : Int) < (s.length : Int) := by omega
      have HQ : Hid (looksTo ps s k = looksTo ps s s.length) := Lib.hid (by rw [hke])
      clear hke
      go_wp2
      go_ret
      exact ⟨by rw [← HQ.out]; rfl, HB.out⟩
end Go.Proofs.Ytkooanahgffjgaa.Spa
