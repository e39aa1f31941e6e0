/- The walk of StreamOffs. -/
import Derived.Test.YtcekifknbljbiaaStrC5
namespace Go.Proofs.Ytcekifknbljbiaa.streamOffs
open Go.Proofs.Ytcekifknbljbiaa.Stm Go.Proofs.Ytcekifknbljbiaa.Str Go.Proofs.Ytcekifknbljbiaa.Reg Go.RowKit Go.Maps
set_option maxRecDepth 100000
set_option linter.unusedVariables false

theorem runs_len (s : St) (l : List Tx) : (runs s l).2.length ≤ l.flatten.length + 1 := by
  have h2 := feeds_told_len l s
  have h3 := fin_told_len (s.feeds l).1
  unfold runs
  rw [List.length_append]
  omega
attribute [local go_sem ↓] Met.eql_counts
set_option maxHeartbeats 8000000 in
theorem walk (w : World) (xs : List TxV) (a0 : Option Addr) (cap0 : Nat) (hz0 : xs.length ≤ 6000000000000) (hx0 : ∀ x ∈ xs, x.text.length ≤ maxLen) (hts : Ts w a0 xs) (hcx : ∀ x ∈ xs, x.text.length ≤ x.cap) (M : Nat) (hM : M < 65536) :
    Calls Try.prog 9 #[.slice a0 xs.length cap0, .int .u16 (M : Int)] w fun e w' => e = .returned (.bool true) ∧ Below w.heap.size w w' := by
  have HS := Lib.hid hts
  have HX := Lib.hid hx0
  have HCX := Lib.hid hcx
  have HAW := Lib.hid (awake_any w)
  have hz1 : xs.length ≤ maxLen := by unfold maxLen; omega
  clear hts hx0 hcx
  go_enter Try.func9, Try.ntmps9
  go_wp2_with fail
  refine HAW.out.mono ?_
  rintro e' w1 ⟨rfl, hb1⟩
  have HB1 := Lib.hid hb1
  clear HAW hb1
  have HS1 := Lib.hid (HS.out.keep HB1.out)
  go_wp2_with fail
  refine (few_any w1 a0 cap0 xs HS1.out hz1 HX.out).mono ?_
  rintro e' w2 ⟨z, rfl, rfl, hz⟩
  cases z
  · clear hz
    go_wp2_with fail
    go_ret
    exact ⟨rfl, HB1.out⟩
  have HF := Lib.hid (hz rfl)
  clear hz HS1 HX hz0 hz1
  have SA := Lib.hid (sall_any w2 a0 cap0 xs (HS.out.keep HB1.out) HF.out.1 HF.out.2.1)
  have hfl : (tx xs).flatten.length ≤ 1500 := HF.out.2.1
  obtain ⟨x1, x2, x3, _⟩ := runs_new M (tx xs)
  have hFl := runs_len (stNew M) (tx xs)
  generalize (tx xs).flatten = t at *
  obtain ⟨hch, hen⟩ := full_chain M t t [] [] 0 0 (by simp) rfl (Nat.zero_le _)
  have CH := Lib.hid (chain_at M t _ 0 0 hch)
  have HEN := Lib.hid hen
  rw [← x1] at CH HEN
  have hen0 : errOf (runs (stNew M) (tx xs)).1 = 0 → fails M [] t = false := fun h => by
    unfold errOf at h
    rw [x2] at h
    cases hf : fails M [] t with
    | true => rw [hf] at h; simp at h
    | false => rfl
  have HE0 := Lib.hid hen0
  clear hch hen hen0 x1 x2 x3
  go_wp2_with fail
  refine SA.out.mono ?_
  rintro e' w3 ⟨a3, c3, rfl, ht3, hc3, hn3, hb3⟩
  have HT3 := Lib.hid ht3.bs
  have HB3 := Lib.hid (HB1.out.trans (hb3.mono HB1.out.size))
  clear ht3 hb3 SA
  have NW := Lib.hid (snew_any w w3 none (M : Int) M (by omega) HB3.out (.inl rfl) (fun k e => by cases e))
  go_wp2_with fail
  refine NW.out.mono ?_
  rintro e' w5 ⟨p, g, rfl, hp5, hg5, hS5, hb5⟩
  have HBX5 := Lib.hid (new_bx (mp := none) HT3.out hb5 hp5 hg5 (fun k e => by cases e))
  have RN := Lib.hid (run_any w w5 p _ g none (stNew M) hS5 0 (bd_new _) (by decide) xs a0 _ cap0 rfl (arg_cks HS.out HCX.out hS5.sbel (fun k hk => hS5.own0 hk)) (by have := HF.out.1; omega) (by have := HF.out.2.1; omega))
  clear NW hS5 hp5 hg5 hb5 HT3
  go_wp2_with fail
  refine RN.out.mono ?_
  rintro e' w6 ⟨v6, ys6, d6, rfl, hy6, hg6, hn6, hS6, hc6⟩
  have HBX6 := Lib.hid (HBX5.out.ch hc6 hn6)
  obtain ⟨a6, c6, rfl, hl6⟩ := own_lt hg6.1 (fun x hx => (hg6.2 x hx).1)
  have hyl : ys6.length = (runs (stNew M) (tx xs)).2.length := by rw [← hy6, List.length_map]
  have HY6 : Hid (∀ k (h : k < ys6.length) (h2 : k < (runs (stNew M) (tx xs)).2.length), ys6[k].sl = (runs (stNew M) (tx xs)).2[k]) := Lib.hid fun k h h2 => by
    have e := congrArg (fun l => l[k]?) hy6
    simpa [h, h2] using e
  generalize (runs (stNew M) (tx xs)).1 = s1 at *
  generalize (runs (stNew M) (tx xs)).2 = F at *
  have HS6 := Lib.hid hS6
  have HL6 := Lib.hid hl6
  clear RN hS6 hy6 hg6 hc6 hn6 hl6 HBX5
  go_wp2_with fail
  go_loopw [10, 11] (fun at_ i wr => ∃ k : Nat, k ≤ F.length ∧ i = .int .i64 (k : Int) ∧ at_ = .int .i64 ((endAt 0 (F.take k) : Nat) : Int) ∧ endAt 0 (F.take k) ≤ t.length + 1 ∧ Hid (∃ q, wr = w6.drewN q)) (fun _ i _ => F.length - (intOf i).toNat)
  case atStart => exact ⟨0, Nat.zero_le _, rfl, rfl, Nat.zero_le _, Lib.hid ⟨0, rfl⟩⟩
  case round =>
    obtain ⟨k, hk, rfl, rfl, hat, HQ⟩ := hrel
    have hbel : Below w6.heap.size w6 wr := by obtain ⟨q, e⟩ := HQ.out; rw [e]; exact below_drews (Below.refl _ _) _
    by_cases hlt : k < F.length
    · have hlt2 : k < ys6.length := by omega
      obtain ⟨f1, f2, f3, f4, f5, f6⟩ := CH.out k hlt
      have hse := endAt_take F 0 k hlt
      obtain ⟨ba, oa, rfl, hba, hca⟩ := (HL6.out.keep hbel).1 (by omega)
      have htx := (HL6.out.keep hbel).2 ys6[k] (List.getElem_mem hlt2)
      have hbt := (HBX6.out.keep hbel)
      obtain ⟨ca0, ca1, ca2⟩ := hca k hlt2
      rw [HY6.out k hlt2 hlt] at ca0 ca1 ca2 htx
      rw [f1] at ca0
      rw [f2] at ca1
      rw [Nat.zero_add] at ca0
      clear hca f1 f2
      generalize ys6[k].a = A1 at *
      generalize ys6[k].cap = C1 at *
      generalize F[k].text = L at *
      generalize hA : endAt 0 (F.take k) = A at *
      have HSE := Lib.hid hse
      clear hse hA
      have hkl : (k : Int) < (ys6.length : Int) := by omega
      have d1 : ((k : Int) != (k : Int)) = false := by simp
      have d2 : ((A : Int) != (A : Int)) = false := by simp
      have d3 : (L.length : Int) ≤ (M : Int) := by omega
      have d4 : (L.length : Int) ≤ (t.length : Int) - (A : Int) := by omega
      have d6 : IntKind.i64.wrap ((t.length : Int) - (A : Int)) = (t.length : Int) - (A : Int) := IntWalk.i64_in _ (by omega)
      have d7 : IntKind.i64.wrap ((A : Int) + (L.length : Int)) = (A : Int) + (L.length : Int) := IntWalk.i64_in _ (by omega)
      have d5 : IntKind.i64.wrap (M : Int) = (M : Int) := IntWalk.i64_in _ (by omega)
      have hmid : mid t A (A + L.length) = L := by
        have e : mid t A (A + L.length) = (t.drop A).take L.length := by unfold mid; rw [List.drop_take, Nat.add_sub_cancel_left]
        rw [e]; exact f5
      have hcut := hbt.cut c3 A (A + L.length) (by omega) (by omega) hc3
      rw [hmid] at hcut
      have s1' : 0 ≤ (A : Int) + (L.length : Int) := by omega
      have s2' : (A : Int) + (L.length : Int) ≤ (c3 : Int) := by omega
      have s3' : ((A : Int) + (L.length : Int)).toNat = A + L.length := by omega
      have s4' : A ≤ A + L.length := Nat.le_add_right _ _
      have hk1 : ∀ n, (convert 38 9 (.slice A1 L.length C1)).run Try.prog (wr.drewN n) = .ok (.string (str L)) (wr.drewN n) := fun n => str_of_bs (w := wr.drewN n) C1 htx
      have hk2 : ∀ n, (convert 38 9 (.slice (if c3 = A then a3 else a3.map (fun x => x.add A)) L.length (c3 - A))).run Try.prog (wr.drewN n) = .ok (.string (str L)) (wr.drewN n) := fun n => str_of_bs (w := wr.drewN n) (c3 - A) hcut.mem
      have HMEM := Lib.hid hbt.mem
      have HF6 := Lib.hid f6
      clear f5 f6 hmid hcut hbt htx
      by_cases hle : A + L.length + 1 ≤ t.length
      · have hlei : (A : Int) + ((L.length : Int) + 1) ≤ (t.length : Int) := by omega
        go_wp2_with fail
        go_quiet (fail)
        have h10 := HF6.out hle
        obtain ⟨hlt10, h10b⟩ := List.getElem?_eq_some_iff.1 h10
        obtain ⟨bk, off, rfl, _, hcs⟩ := HMEM.out (by omega)
        have hc10 := hcs (A + L.length) hlt10
        rw [h10b] at hc10
        have hi1 : (A : Int) + ((L.length : Int) + 1) - 1 = ((A + L.length : Nat) : Int) := by omega
        have hi2 : ((A + L.length : Nat) : Int) < (t.length : Int) := by omega
        clear h10 h10b hcs hle d6 d7 d3 d4 s1' s2' s3' s4' hk1 hk2 ca0 ca1 ca2
        go_wp2_with fail
        go_roundw
        case rel =>
          obtain ⟨q, e⟩ := HQ.out
          refine ⟨k + 1, hlt, by go_num, ?_, ?_, Lib.hid ⟨q + nq, by rw [e, World.drewN_drewN]⟩⟩
          · rw [HSE.out]; go_num
          · rw [HSE.out]; omega
        case measure => simp [intOf]; omega
      · have hlei : ¬ (A : Int) + ((L.length : Int) + 1) ≤ (t.length : Int) := by omega
        go_wp2_with fail
        go_quiet (fail)
        go_wp2_with fail
        go_roundw
        case rel =>
          obtain ⟨q, e⟩ := HQ.out
          refine ⟨k + 1, hlt, by go_num, ?_, ?_, Lib.hid ⟨q + nq, by rw [e, World.drewN_drewN]⟩⟩
          · rw [HSE.out]; go_num
          · rw [HSE.out]; omega
        case measure => simp [intOf]; omega
    · have hkF : k = F.length := by omega
      subst hkF
      rw [List.take_length] at *
      have HSw := Lib.hid (HS6.out.keep hbel)
      have ER := Lib.hid (serr_any w wr p _ g d6 s1 HSw.out)
      go_wp2_with fail
      refine ER.out.mono ?_
      rintro e' w9 ⟨rfl, q9, hq9⟩
      have HB9 : Hid (Below wr.heap.size wr w9) := Lib.hid (by rw [hq9]; exact below_drews (Below.refl _ _) _)
      clear hq9 ER
      by_cases hz : errOf s1 = 0
      · have hge : (t.length : Int) ≤ ((endAt 0 F : Nat) : Int) := by have := HEN.out (HE0.out hz); omega
        rw [hz]
        go_wp2_with fail
        go_ret
        exact ⟨ret_bool (by simp), HSw.out.sbel.trans (HB9.out.mono HSw.out.sbel.size)⟩
      · have hz2 : (errOf s1 != 0) = true := by simp [hz]
        have HZ := Lib.hid hz
        clear hz
        generalize errOf s1 = E at *
        go_wp2_with fail
        go_ret
        exact ⟨ret_bool (by simp), HSw.out.sbel.trans (HB9.out.mono HSw.out.sbel.size)⟩
end Go.Proofs.Ytcekifknbljbiaa.streamOffs
