/- The walk of StreamCap. -/
import Derived.Test.YtcekifknbljbiaaStrC5
namespace Go.Proofs.Ytcekifknbljbiaa.streamCap
open Go.Proofs.Ytcekifknbljbiaa.Stm Go.Proofs.Ytcekifknbljbiaa.Str Go.Proofs.Ytcekifknbljbiaa.Reg Go.RowKit Go.Maps
set_option maxRecDepth 100000
set_option linter.unusedVariables false

attribute [local go_sem ↓] Met.eql_counts
set_option maxHeartbeats 8000000 in
theorem walk (w : World) (xs : List TxV) (a0 : Option Addr) (cap0 : Nat) (hz0 : xs.length ≤ 6000000000000) (hx0 : ∀ x ∈ xs, x.text.length ≤ maxLen) (hts : Ts w a0 xs) (hcx : ∀ x ∈ xs, x.text.length ≤ x.cap) (c : UInt8) :
    Calls Try.prog 6 #[.slice a0 xs.length cap0, .int .u8 (c.toNat : Int)] w fun e w' => e = .returned (.bool true) ∧ Below w.heap.size w w' := by
  have HS := Lib.hid hts
  have HX := Lib.hid hx0
  have HCX := Lib.hid hcx
  have HAW := Lib.hid (awake_any w)
  have hz1 : xs.length ≤ maxLen := by unfold maxLen; omega
  clear hts hx0 hcx
  have hc8 : c.toNat < 256 := c.toNat_lt
  go_enter Try.func6, Try.ntmps6
  go_wp2_with fail
  refine HAW.out.mono ?_
  rintro e' w1 ⟨rfl, hb1⟩
  have HB1 := Lib.hid hb1
  clear HAW hb1
  have HS1 := Lib.hid (HS.out.keep HB1.out)
  go_wp2_with fail
  refine (few_any w1 a0 cap0 xs HS1.out hz1 HX.out).mono ?_
  rintro e' w2 ⟨z, rfl, rfl, hz⟩
  cases z
  · clear hz
    go_wp2_with fail
    go_ret
    exact ⟨rfl, HB1.out⟩
  have HF := Lib.hid (hz rfl)
  clear hz HS1 HX hz0 hz1
  go_wp2_with fail
  refine (snew_any w w2 none (c.toNat : Int) c.toNat (by omega) HB1.out (.inl rfl) (fun k e => by cases e)).mono ?_
  rintro e' w5 ⟨p, g, rfl, _, _, hS5, _⟩
  generalize c.toNat = M at *
  have RN := Lib.hid (run_any w w5 p _ g none (stNew M) hS5 0 (bd_new M) (by decide) xs a0 _ cap0 rfl (arg_cks HS.out HCX.out hS5.sbel (fun k hk => hS5.own0 hk)) (by have := HF.out.1; omega) (by have := HF.out.2.1; omega))
  clear hS5
  go_wp2_with fail
  refine RN.out.mono ?_
  rintro e' w6 ⟨v6, ys6, d6, rfl, hy6, hg6, _, hS6, _⟩
  have HY6 := Lib.hid (congrArg List.length hy6)
  obtain ⟨a6, c6, rfl, _⟩ := own_lt hg6.1 (fun x hx => (hg6.2 x hx).1)
  obtain ⟨K, k1, k2, k3, k4, k5, k6⟩ := cap_facts M (tx xs)
  have SA := Lib.hid (sall_any w6 a0 cap0 xs (HS.out.keep hS6.sbel) HF.out.1 HF.out.2.1)
  have hfl : (tx xs).flatten.length ≤ 1500 := HF.out.2.1
  rw [List.length_map, k4] at HY6
  generalize (runs (stNew M) (tx xs)).1 = s1 at *
  have HS6 := Lib.hid hS6
  have K2 := Lib.hid k2
  have K3 := Lib.hid k3
  have K5 := Lib.hid k5
  have K6 := Lib.hid k6
  clear RN hS6 hy6 hg6 k2 k3 k4 k5 k6
  generalize (tx xs).flatten = t at *
  have hyl : ys6.length = K := HY6.out
  go_wp2_with fail
  refine SA.out.mono ?_
  rintro e' w7 ⟨a7, c7, rfl, ht7, _, _, hb7⟩
  have HS7 := Lib.hid (HS6.out.keep hb7)
  have SP := Lib.hid (split_ls t a7 c7 _ w7 rfl (by omega) ht7.bs)
  clear ht7 hb7 HS6
  go_wp2_with fail
  refine SP.out.mono ?_
  rintro e' w8 ⟨a8, c8, zs, rfl, hz8, hls8, hb8⟩
  have HS8 := Lib.hid (HS7.out.keep hb8)
  have HZ8 := Lib.hid hz8
  have HLS := Lib.hid hls8
  have hll := lines_le t
  have hzl : zs.length = (linesOf t).length := by rw [← hz8, List.length_map]
  clear hz8 hls8 hb8 HS7 SP
  go_wp2_with fail
  refine (serr_any w w8 p _ g d6 s1 HS8.out).mono ?_
  rintro e' w9 ⟨rfl, q, hq⟩
  have hb9 : Below w8.heap.size w8 w9 := by rw [hq]; exact below_drews (Below.refl _ _) _
  have HS9 := Lib.hid (HS8.out.keep hb9)
  have HL9 := Lib.hid (HLS.out.keep hb9)
  clear HS8 HLS hb9 hq
  go_wp2_with fail
  go_loopw [12] (fun i wr => ∃ k : Nat, k ≤ K ∧ i = .int .i64 (k : Int) ∧ wr = w9) (fun i _ => K - (intOf i).toNat)
  case atStart => exact ⟨0, Nat.zero_le _, rfl, rfl⟩
  case round =>
    obtain ⟨k, hk, rfl, rfl⟩ := hrel
    by_cases hlt : k < zs.length
    · have hlt2 : k < (linesOf t).length := by omega
      have hln : zs[k].ln = (linesOf t)[k] := by
        have e := congrArg (fun l => l[k]?) HZ8.out
        simpa [hlt, hlt2] using e
      obtain ⟨b, off, rfl, hbl, hc⟩ := HL9.out.1 (by omega)
      obtain ⟨_, c1, _⟩ := hc k hlt
      rw [hln] at c1
      have hkl : (k : Int) < (zs.length : Int) := by omega
      by_cases hle : (linesOf t)[k].text.length ≤ M
      · have hkK : k < K := by
          rcases Nat.lt_or_ge k K with h | h
          · exact h
          · have e : k = K := by omega
            subst e
            exact absurd hle (K3.out hlt2)
        have hbd := (lines_bound t _ (List.getElem_mem hlt2)).1
        generalize (linesOf t)[k] = L at *
        have hlei : (L.text.length : Int) ≤ (M : Int) := by omega
        clear hc hln hle
        go_wp2_with fail
        go_roundw
        case rel => exact ⟨k + 1, by omega, by go_num, trivial⟩
        case measure => simp [intOf]; omega
      · have hkK : k = K := by
          rcases Nat.lt_or_ge k K with h | h
          · exact absurd (K2.out k hlt2 h) hle
          · omega
        subst hkK
        obtain ⟨e15, en⟩ := K6.out hlt2
        have hbd := (lines_bound t _ (List.getElem_mem hlt2)).1
        generalize (linesOf t)[k] = L at *
        have hlei : ¬ (L.text.length : Int) ≤ (M : Int) := by omega
        have hne : ((k : Int) == (zs.length : Int)) = false := beq_eq_false_iff_ne.2 (by omega)
        rw [e15, en]
        clear hc hln hle
        go_wp2_with fail
        go_ret
        exact ⟨ret_bool (by simp), HS9.out.sbel⟩
    · have hkK : k = K := by omega
      subst hkK
      have hkz : zs.length = k := by omega
      obtain ⟨e0, en⟩ := K5.out (by omega)
      rw [e0, en]
      go_wp2_with fail
      go_ret
      exact ⟨ret_bool (by simp), HS9.out.sbel⟩
end Go.Proofs.Ytcekifknbljbiaa.streamCap
