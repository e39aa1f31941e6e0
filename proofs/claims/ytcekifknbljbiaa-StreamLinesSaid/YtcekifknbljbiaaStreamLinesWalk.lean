/- The walk of StreamLines. -/
import Derived.Test.YtcekifknbljbiaaStrC5
namespace Go.Proofs.Ytcekifknbljbiaa.streamLines
open Go.Proofs.Ytcekifknbljbiaa.Stm Go.Proofs.Ytcekifknbljbiaa.Str Go.Proofs.Ytcekifknbljbiaa.Reg Go.RowKit Go.Maps
set_option maxRecDepth 100000
set_option linter.unusedVariables false

attribute [local go_sem ↓] Met.eql_counts
set_option maxHeartbeats 8000000 in
theorem walk (w : World) (xs : List TxV) (a0 : Option Addr) (cap0 : Nat) (hz0 : xs.length ≤ 6000000000000) (hx0 : ∀ x ∈ xs, x.text.length ≤ maxLen) (hts : Ts w a0 xs) (hcx : ∀ x ∈ xs, x.text.length ≤ x.cap) :
    Calls Try.prog 5 #[.slice a0 xs.length cap0] w fun e w' => e = .returned (.bool true) ∧ Below w.heap.size w w' := by
  have HS := Lib.hid hts
  have HX := Lib.hid hx0
  have HCX := Lib.hid hcx
  have HAW := Lib.hid (awake_any w)
  have hz1 : xs.length ≤ maxLen := by unfold maxLen; omega
  clear hts hx0 hcx
  go_enter Try.func5, Try.ntmps5
  go_wp2_with fail
  refine HAW.out.mono ?_
  rintro e' w1 ⟨rfl, hb1⟩
  have HB1 := Lib.hid hb1
  clear HAW hb1
  have HS1 := Lib.hid (HS.out.keep HB1.out)
  go_wp2_with fail
  refine (few_any w1 a0 cap0 xs HS1.out hz1 HX.out).mono ?_
  rintro e' w2 ⟨z, rfl, rfl, hz⟩
  cases z
  · clear hz
    go_wp2_with fail
    go_ret
    exact ⟨rfl, HB1.out⟩
  have HF := Lib.hid (hz rfl)
  clear hz HS1 HX hz0 hz1
  have SA := Lib.hid (sall_any w2 a0 cap0 xs (HS.out.keep HB1.out) HF.out.1 HF.out.2.1)
  have hfl : (tx xs).flatten.length ≤ 1500 := HF.out.2.1
  obtain ⟨h1, h2, h3, _⟩ := runs_new (tx xs).flatten.length (tx xs)
  have hnf : fails (tx xs).flatten.length [] (tx xs).flatten = false := short_fails _ _ _ (by simp)
  rw [full_lines _ _ _ _ _ hnf] at h1
  rw [hnf] at h2
  have hll := lines_le (tx xs).flatten
  clear h3
  generalize (tx xs).flatten = t at *
  go_wp2_with fail
  refine SA.out.mono ?_
  rintro e' w3 ⟨a3, c3, rfl, ht3, _, _, hb3⟩
  have HT3 := Lib.hid ht3.bs
  have HB3 := Lib.hid (HB1.out.trans (hb3.mono HB1.out.size))
  clear ht3 hb3 SA
  have hmx : max ((t.length : Nat) : Int) 0 = (t.length : Int) := by omega
  have NW := Lib.hid (snew_any w w3 none _ _ hmx HB3.out (.inl rfl) (fun k e => by cases e))
  clear hmx
  go_wp2_with fail
  refine NW.out.mono ?_
  rintro e' w5 ⟨p, g, rfl, hp5, hg5, hS5, hb5⟩
  have HBX5 := Lib.hid (new_bx (mp := none) HT3.out hb5 hp5 hg5 (fun k e => by cases e))
  have RN := Lib.hid (run_any w w5 p _ g none (stNew t.length) hS5 0 (bd_new _) (by decide) xs a0 _ cap0 rfl (arg_cks HS.out HCX.out hS5.sbel (fun k hk => hS5.own0 hk)) (by have := HF.out.1; omega) (by have := HF.out.2.1; omega))
  clear NW hS5 hp5 hg5 hb5 HT3
  go_wp2_with fail
  refine RN.out.mono ?_
  rintro e' w6 ⟨v6, ys6, d6, rfl, hy6, hg6, hn6, hS6, hc6⟩
  rw [h1] at hy6
  have HBX6 := Lib.hid (HBX5.out.ch hc6 hn6)
  have HY6 := Lib.hid hy6
  have he : errOf (runs (stNew t.length) (tx xs)).1 = 0 := by unfold errOf; rw [if_neg (by rw [h2]; decide)]
  obtain ⟨a6, c6, rfl, hl6⟩ := own_lt hg6.1 (fun x hx => (hg6.2 x hx).1)
  generalize (runs (stNew t.length) (tx xs)).1 = s1 at *
  have HS6 := Lib.hid hS6
  have HL6 := Lib.hid hl6
  have HN6 := Lib.hid hn6
  have hyl : ys6.length = (linesOf t).length := by
    have := congrArg List.length hy6
    rw [List.length_map, numb_len] at this
    exact this
  have SP := Lib.hid (split_ls t a3 c3 _ w6 rfl (by omega) HBX6.out.mem)
  clear RN hS6 hy6 hg6 hc6 hn6 hl6 h1 h2 HBX5
  go_wp2_with fail
  refine SP.out.mono ?_
  rintro e' w8 ⟨a8, c8, zs, rfl, hz8, hls8, hb8⟩
  have HS8 := Lib.hid (HS6.out.keep hb8)
  have HL8 := Lib.hid (HL6.out.keep hb8)
  have HZ8 := Lib.hid hz8
  have HLS := Lib.hid hls8
  have hzl : zs.length = (linesOf t).length := by rw [← hz8, List.length_map]
  clear hz8 hls8 hb8 HS6 HL6 SP HBX6
  have ER := Lib.hid (serr_any w w8 p _ g d6 s1 HS8.out)
  rw [he] at ER
  go_wp2_with fail
  refine ER.out.mono ?_
  rintro e' w9 ⟨rfl, q, hq⟩
  have hb9 : Below w8.heap.size w8 w9 := by rw [hq]; exact below_drews (Below.refl _ _) _
  have HS9 := Lib.hid (HS8.out.keep hb9)
  have HLX := Lib.hid (HL8.out.keep hb9)
  have HLY := Lib.hid (HLS.out.keep hb9)
  have hne : ((ys6.length : Int) != (zs.length : Int)) = false := by rw [hyl, hzl]; simp
  clear HS8 HL8 HLS hb9 hq ER he
  have hyz : ys6.length = zs.length := by omega
  go_wp2_with fail
  go_loopw [11] (fun i wr => ∃ k : Nat, k ≤ ys6.length ∧ i = .int .i64 (k : Int) ∧ Hid (∃ q, wr = w9.drewN q)) (fun i _ => ys6.length - (intOf i).toNat)
  case atStart => exact ⟨0, Nat.zero_le _, rfl, Lib.hid ⟨0, rfl⟩⟩
  case round =>
    obtain ⟨k, hk, rfl, HQ⟩ := hrel
    have hbel : Below w9.heap.size w9 wr := by obtain ⟨q, e⟩ := HQ.out; rw [e]; exact below_drews (Below.refl _ _) _
    by_cases hlt : k < ys6.length
    · have hlt2 : k < (linesOf t).length := by omega
      have hlt3 : k < zs.length := by omega
      have hln : zs[k].ln = (linesOf t)[k] := by
        have e := congrArg (fun l => l[k]?) HZ8.out
        simpa [hlt3, hlt2] using e
      have hsl : ys6[k].sl = ⟨0 + k, (linesOf t)[k].off, (linesOf t)[k].text⟩ := by
        have e := congrArg (fun l => l[k]?) HY6.out
        rw [show numb 0 (goes 0 [] t) = numb 0 (linesOf t) from rfl] at e
        simp only [numb_at _ _ _ hlt2] at e
        simpa [hlt] using e
      have hbd := (lines_bound t _ (List.getElem_mem hlt2)).1
      obtain ⟨ba, oa, rfl, hba, hca⟩ := (HLX.out.keep hbel).1 (by omega)
      obtain ⟨bb, ob, rfl, hbb, hcb⟩ := (HLY.out.keep hbel).1 (by omega)
      have htx := (HLX.out.keep hbel).2 ys6[k] (List.getElem_mem hlt)
      have hty := (HLY.out.keep hbel).2 zs[k] (List.getElem_mem hlt3)
      obtain ⟨ca0, ca1, ca2⟩ := hca k hlt
      obtain ⟨cb0, cb1, cb2⟩ := hcb k hlt3
      rw [hsl] at ca0 ca1 ca2 htx
      rw [hln] at cb0 cb1 hty
      clear hca hcb hln hsl
      generalize ys6[k].a = A1 at *
      generalize ys6[k].cap = C1 at *
      generalize zs[k].a = A2 at *
      generalize zs[k].cap = C2 at *
      generalize (linesOf t)[k] = L at *
      obtain ⟨o, tt, en⟩ := L
      simp only [Nat.zero_add] at ca0 ca1 ca2 cb0 cb1 htx hty hbd
      have hk1 : ∀ n, (convert 38 9 (.slice A1 tt.length C1)).run Try.prog (wr.drewN n) = .ok (.string (str tt)) (wr.drewN n) := fun n => str_of_bs (w := wr.drewN n) C1 htx
      have hk2 : ∀ n, (convert 38 9 (.slice A2 tt.length C2)).run Try.prog (wr.drewN n) = .ok (.string (str tt)) (wr.drewN n) := fun n => str_of_bs (w := wr.drewN n) C2 hty
      have hkl : (k : Int) < (ys6.length : Int) := by omega
      have hkl2 : (k : Int) < (zs.length : Int) := by omega
      have d1 : ((k : Int) != (k : Int)) = false := by simp
      have d2 : ((o : Int) != (o : Int)) = false := by simp
      clear htx hty hne hyz hyl hzl
      go_wp2_with fail
      go_quiet (fail)
      go_wp2_with fail
      go_roundw
      case rel =>
        obtain ⟨q, e⟩ := HQ.out
        exact ⟨k + 1, by omega, by go_num, Lib.hid ⟨q + nq, by rw [e, World.drewN_drewN]⟩⟩
      case measure => simp [intOf]; omega
    · go_wp2_with fail
      go_ret
      exact ⟨rfl, HS9.out.sbel.trans (hbel.mono HS9.out.sbel.size)⟩
end Go.Proofs.Ytcekifknbljbiaa.streamLines
