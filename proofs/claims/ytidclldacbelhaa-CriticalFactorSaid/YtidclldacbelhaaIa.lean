/- same; run. -/
import Derived.Test.YtidclldacbelhaaIMath
import Derived.Test.YtidclldacbelhaaGE
namespace Go.Proofs.Ytidclldacbelhaa.Cut
open Go.RowKit Go.Maps Go.Proofs.Ytidclldacbelhaa.Crt Go.Proofs.Ytidclldacbelhaa.Suf
set_option maxRecDepth 100000
set_option linter.unusedVariables false

theorem same_any (w : World) (s : Tx) (a : Option Addr) (cap : Nat) (ha : Bs w w.heap.size a s) (hl : s.length ≤ 1000000) (i j : Nat) (hi : i < s.length) (hj : j < s.length) :
    Calls Try.prog 17 #[.slice a s.length cap, .int .i64 (i : Int), .int .i64 (j : Int)] w fun e w' => e = .returned (.bool (decide (at' s i = at' s j))) ∧ Drew w w' := by
  obtain ⟨b1, o1, rfl, _, hc1⟩ := bs_at ha i hi
  obtain ⟨b2, o2, e2, _, hc2⟩ := bs_at ha j hj
  have e2' : b1 = b2 ∧ o1 = o2 := by injection e2 with e2; injection e2 with e3 e4; exact ⟨e3, e4⟩
  obtain ⟨rfl, rfl⟩ := e2'
  rw [← at_eq hi] at hc1
  rw [← at_eq hj] at hc2
  have hb := u8_beq (at' s i) (at' s j)
  have hil : (i : Int) < (s.length : Int) := by omega
  have hjl : (j : Int) < (s.length : Int) := by omega
  clear ha e2
  go_enter Try.func17, Try.ntmps17
  go_wp2
  go_quiet (fail)
  go_wp2
  go_ret
  exact ⟨ret_bool rfl, _, rfl⟩
theorem call17 (args : Array Value) (w : World) : (callFunc 17 args).run Try.prog w = .ok (.enter 17 args) w := by simp [go_sem]
theorem Bs.drew {w x : World} {a : Option Addr} {s : Tx} (h : Bs w w.heap.size a s) (hd : Drew w x) : Bs x x.heap.size a s := by
  obtain ⟨q, rfl⟩ := hd
  have hb := below_drews (Below.refl w.heap.size w) q
  exact (h.keep hb).more hb.size
set_option maxHeartbeats 1000000 in
theorem run_any (w : World) (s : Tx) (a : Option Addr) (cap : Nat) (ha : Bs w w.heap.size a s) (hl : s.length ≤ 1000000) (i j m : Nat) (hi : i + m ≤ s.length) (hj : j + m ≤ s.length) :
    Calls Try.prog 16 #[.func (.func 17) #[.slice a s.length cap] #[], .int .i64 (i : Int), .int .i64 (j : Int), .int .i64 (m : Int)] w fun e w' => e = .returned (.int .i64 (agr s i j m : Int)) ∧ Drew w w' := by
  have HA := Lib.hid ha
  have hcf := call17
  clear ha
  go_enter Try.func16, Try.ntmps16
  go_wp2
  go_loopw [9] (fun v wr => ∃ n : Nat, n ≤ m ∧ v = .int .i64 (n : Int) ∧ (∀ x, x < n → at' s (i + x) = at' s (j + x)) ∧ Drew w wr) (fun v _ => m - (intOf v).toNat)
  case atStart => exact ⟨0, Nat.zero_le _, rfl, fun x hx => by omega, Drew.refl _⟩
  case round =>
    obtain ⟨n, hn, rfl, hag, hdr⟩ := hrel
    have HD := Lib.hid hdr
    have HG := Lib.hid hag
    clear hdr hag
    by_cases hlt : n < m
    · have hnm : (n : Int) < (m : Int) := by omega
      obtain ⟨A, hA⟩ : ∃ A, A = i + n := ⟨_, rfl⟩
      obtain ⟨B, hB⟩ : ∃ B, B = j + n := ⟨_, rfl⟩
      have hw1 : IntKind.i64.wrap ((i : Int) + (n : Int)) = (A : Int) := by rw [IntWalk.i64_in _ (by omega)]; omega
      have hw2 : IntKind.i64.wrap ((j : Int) + (n : Int)) = (B : Int) := by rw [IntWalk.i64_in _ (by omega)]; omega
      have HS := Lib.hid (fun X (hX : Drew w X) => same_any X s a cap (Bs.drew HA.out hX) hl A B (by omega) (by omega))
      have HAB := Lib.hid (And.intro hA hB)
      by_cases he : at' s A = at' s B
      · rw [decide_eq_true he] at HS
        have HE := Lib.hid he
        clear he hA hB
        go_wp2_with ((refine (HS.out wr HD.out).mono ?_); rintro e w3 ⟨rfl, hd3⟩; have HD3 := Lib.hid (HD.out.trans hd3); clear hd3)
        exact ⟨⟨n + 1, by omega, by go_num, fun x hx => by
          by_cases e : x = n
          · subst e; rw [← HAB.out.1, ← HAB.out.2]; exact HE.out
          · exact HG.out x (by omega), HD3.out⟩, by simp [intOf]; omega⟩
      · rw [decide_eq_false he] at HS
        have HE : Hid (agr s i j m = n) := Lib.hid (Agr.is ⟨hn, HG.out, fun _ => by rw [← hA, ← hB]; exact he⟩)
        clear he hA hB
        go_wp2_with ((refine (HS.out wr HD.out).mono ?_); rintro e w3 ⟨rfl, hd3⟩; have HD3 := Lib.hid (HD.out.trans hd3); clear hd3)
        go_ret
        exact ⟨ret_int (by rw [HE.out]), HD3.out⟩
    · have hnm : ¬ (n : Int) < (m : Int) := by omega
      have HE : Hid (agr s i j m = n) := Lib.hid (Agr.is ⟨hn, HG.out, fun h => absurd h hlt⟩)
      clear hlt
      go_wp2
      go_ret
      exact ⟨ret_int (by rw [HE.out]), HD.out⟩
end Go.Proofs.Ytidclldacbelhaa.Cut
