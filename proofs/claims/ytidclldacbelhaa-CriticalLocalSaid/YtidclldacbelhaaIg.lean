/- The reference's Local. -/
import Derived.Test.YtidclldacbelhaaIf
namespace Go.Proofs.Ytidclldacbelhaa.Cut
open Go.RowKit Go.Maps Go.Proofs.Ytidclldacbelhaa.Crt Go.Proofs.Ytidclldacbelhaa.Suf
set_option maxRecDepth 100000
set_option linter.unusedVariables false

theorem rlocal_out (w : World) (s : Tx) (x : Int) (hl : s.length ≤ 1000) (hx : x < 0 ∨ (s.length : Int) < x) :
    Calls Try.prog 12 #[.string (str s), .int .i64 x] w fun e w' => e = .returned (.int .i64 (locI s x : Int)) ∧ Drew w w' := by
  have HE := Lib.hid (locI_out hx)
  have hz := str_size s
  by_cases h0 : x < 0
  · clear hx
    go_enter Try.func12, Try.ntmps12
    go_wp2
    go_ret
    exact ⟨ret_int (by rw [HE.out]; rfl), Drew.refl _⟩
  · have h1 : (s.length : Int) < x := by omega
    clear hx
    go_enter Try.func12, Try.ntmps12
    go_wp2
    go_ret
    exact ⟨ret_int (by rw [HE.out]; rfl), Drew.refl _⟩
set_option maxHeartbeats 4000000 in
theorem rlocal_in (w : World) (s : Tx) (hl : s.length ≤ 1000) (k : Nat) (hk : k ≤ s.length) :
    Calls Try.prog 12 #[.string (str s), .int .i64 (k : Int)] w fun e w' => e = .returned (.int .i64 (locN s k : Int)) ∧ Drew w w' := by
  have hz := str_size s
  have h0 : ¬ (k : Int) < 0 := by omega
  have h1 : ¬ (s.length : Int) < (k : Int) := by omega
  go_enter Try.func12, Try.ntmps12
  go_wp2
  go_loopw [5] (fun v wr => ∃ p : Nat, 1 ≤ p ∧ p ≤ s.length + 1 ∧ v = .int .i64 (p : Int) ∧ (∀ r, 1 ≤ r → r < p → ¬ Crt.Loc s k r) ∧ Drew w wr) (fun v _ => s.length + 1 - (intOf v).toNat)
  case atStart => exact ⟨1, Nat.le_refl _, by omega, rfl, fun r h1 h2 => by omega, Drew.refl _⟩
  case round =>
    obtain ⟨p, hp1, hp2, rfl, hno, hdr⟩ := hrel
    have HNO := Lib.hid hno
    have HD := Lib.hid hdr
    clear hno hdr
    by_cases hlt : p ≤ s.length
    · have hkl : (p : Int) ≤ (s.length : Int) := by omega
      obtain ⟨J, hJ⟩ : ∃ J : Int, J = (k : Int) - (p : Int) := ⟨_, rfl⟩
      have hwJ : IntKind.i64.wrap ((k : Int) - (p : Int)) = J := by rw [IntWalk.i64_in _ (by omega)]; omega
      have HJ := Lib.hid hJ
      clear hJ
      go_wp2
      go_loopw [6, 7] (fun b i wq => ∃ (m : Nat) (I : Int), m ≤ p ∧ I = J + (m : Int) ∧ b = .bool (locB s k p m) ∧ i = .int .i64 I ∧ Drew w wq) (fun _ i _ => ((k : Int) - intOf i).toNat)
      case atStart => exact ⟨0, J, Nat.zero_le _, by omega, rfl, rfl, HD.out⟩
      case round =>
        obtain ⟨m, I, hm, hI, rfl, rfl, hdr⟩ := hrel
        have HD2 := Lib.hid hdr
        clear hdr
        have hJ := HJ.out
        have hst : locB s k p (m + 1) = (locB s k p m && (decide (k + m < p) || decide (s.length ≤ k + m) || at' s (k + m - p) == at' s (k + m))) := rfl
        by_cases hmp : m < p
        · have hik : I < (k : Int) := by omega
          obtain ⟨E, hE⟩ : ∃ E, E = k + m := ⟨_, rfl⟩
          have hwE : IntKind.i64.wrap (I + (p : Int)) = (E : Int) := by rw [IntWalk.i64_in _ (by omega)]; omega
          rw [← hE] at hst
          have HI := Lib.hid (And.intro hI hE)
          have HMP := Lib.hid hmp
          cases hal : locB s k p m
          · rw [hal, Bool.false_and] at hst
            have HST := Lib.hid hst
            have hIp : -9223372036854775808 ≤ I ∧ I + 1 ≤ 9223372036854775807 := by omega
            clear hst hal hI hE hJ hmp
            go_wp2
            go_quiet (fail)
            go_wp2
            exact ⟨⟨m + 1, I + 1, by have := HMP.out; omega, by have := HI.out.1; omega, by rw [HST.out], by go_num, HD2.out.more _⟩, by have := HI.out.1; have := HJ.out; have := HMP.out; simp [intOf]; omega⟩
          · rw [hal, Bool.true_and] at hst
            by_cases hn : k + m < p
            · have hn0 : I < 0 := by omega
              have hb0 : decide (I < 0) = true := decide_eq_true hn0
              rw [decide_eq_true (show E < p by omega), Bool.true_or, Bool.true_or] at hst
              have HST := Lib.hid hst
              have hIp : -9223372036854775808 ≤ I ∧ I + 1 ≤ 9223372036854775807 := by omega
              clear hst hal hI hE hJ hmp hn
              go_wp2
              go_quiet (fail)
              go_wp2
              exact ⟨⟨m + 1, I + 1, by have := HMP.out; omega, by have := HI.out.1; omega, by rw [HST.out], by go_num, HD2.out.more _⟩, by have := HI.out.1; have := HJ.out; have := HMP.out; simp [intOf]; omega⟩
            · obtain ⟨A, hA⟩ : ∃ A, A = k + m - p := ⟨_, rfl⟩
              have hIA : I = (A : Int) := by omega
              subst hIA
              have hn0 : ¬ (A : Int) < 0 := by omega
              have hb0 : decide ((A : Int) < 0) = false := decide_eq_false hn0
              rw [decide_eq_false (show ¬ E < p by omega), Bool.false_or] at hst
              by_cases hEl : E < s.length
              · rw [decide_eq_false (show ¬ s.length ≤ E by omega), Bool.false_or, show E - p = A by omega] at hst
                have hEi : (E : Int) < (s.length : Int) := by omega
                have hEn : ¬ (s.length : Int) ≤ (E : Int) := by omega
                have hb1 : decide ((s.length : Int) ≤ (E : Int)) = false := decide_eq_false hEn
                have hAl : A < s.length := by omega
                have hAi : (A : Int) < (s.length : Int) := by omega
                have hix := str_at' s A hAl
                have hix2 := str_at' s E hEl
                have hbe := u8_beq (at' s A) (at' s E)
                have HST := Lib.hid hst
                clear hst hal hI hE hJ hmp hn hA
                go_wp2
                go_quiet (fail)
                go_wp2
                exact ⟨⟨m + 1, (A : Int) + 1, by have := HMP.out; omega, by have := HI.out.1; omega, by rw [HST.out, beq_dec, decide_eq_false (show ¬ s.length ≤ E by omega), Bool.false_or], by go_num, HD2.out.more _⟩, by have := HI.out.1; have := HJ.out; have := HMP.out; simp [intOf]; omega⟩
              · rw [decide_eq_true (show s.length ≤ E by omega), Bool.true_or] at hst
                have hEn : (s.length : Int) ≤ (E : Int) := by omega
                have hb1 : decide ((s.length : Int) ≤ (E : Int)) = true := decide_eq_true hEn
                have HST := Lib.hid hst
                have hAi : (A : Int) + 1 ≤ 9223372036854775807 := by omega
                clear hst hal hI hE hJ hmp hn hA
                go_wp2
                go_quiet (fail)
                go_wp2
                exact ⟨⟨m + 1, (A : Int) + 1, by have := HMP.out; omega, by have := HI.out.1; omega, by rw [HST.out], by go_num, HD2.out.more _⟩, by have := HI.out.1; have := HJ.out; have := HMP.out; simp [intOf]; omega⟩
        · obtain rfl : m = p := by omega
          have hik : ¬ I < (k : Int) := by omega
          have hlb := locB_loc (s := s) (k := k) hp1
          cases hal : locB s k m m
          · rw [hal] at hlb
            have HNL : Hid (¬ Crt.Loc s k m) := Lib.hid fun h => by have := hlb.2 h; cases this
            clear hlb hal hst hI hJ
            go_wp2
            exact ⟨⟨m + 1, by omega, by omega, by go_num, fun r h1 h2 => by
              by_cases e : r = m
              · rw [e]; exact HNL.out
              · exact HNO.out r h1 (by omega), HD2.out⟩, by simp [intOf]; omega⟩
          · rw [hal] at hlb
            have HE : Hid (locN s k = m) := Lib.hid (locN_is (fun e => by rw [e] at hlt; simp at hlt; omega) (leastLoc_first (hlb.1 rfl) HNO.out))
            clear hlb hal hst hI hJ
            go_wp2
            go_ret
            exact ⟨ret_int (by rw [HE.out]), HD2.out⟩
    · have hkl : ¬ (p : Int) ≤ (s.length : Int) := by omega
      have HE : Hid (locN s k = 1) := Lib.hid (by
        by_cases e : s = []
        · rw [locN, if_pos e]
        · exfalso
          have := List.length_pos_iff.2 e
          exact HNO.out s.length (by omega) (by omega) (loc_end (by omega) (Nat.le_refl _)))
      go_wp2
      go_ret
      exact ⟨ret_int (by rw [HE.out]; rfl), HD.out⟩
end Go.Proofs.Ytidclldacbelhaa.Cut
