/- The walk of TrieBack. -/
import Derived.Test.YtljnhkpcodecgaaTj
namespace Go.Proofs.Ytljnhkpcodecgaa.trieBack
open Go.Proofs.Ytljnhkpcodecgaa.Tri Go.RowKit Go.Maps

set_option maxRecDepth 100000 in
set_option maxHeartbeats 8000000 in
/-- Texts that are few and short. -/
theorem small (w : World) (xs : List TxV) (a0 : Option Addr) (cap0 : Nat) (hts : Ts w a0 xs) (h0 : xs.length ≤ 12) (hx : ∀ x ∈ xs, x.text.length ≤ 40) :
    Calls Try.prog 5 #[.slice a0 xs.length cap0] w fun e w' => e = .returned (.bool true) ∧ Below w.heap.size w w' := by
  have hx' : ∀ x ∈ xs, x.text.length ≤ maxLen := fun x h => Nat.le_trans (hx x h) (by unfold maxLen; omega)
  have htot := few_tot h0 hx
  have hps := few_len htot
  have hsh : ∀ p ∈ paths (xs.map TxV.text), p.length ≤ 40 := fun p hp => path_short (fun x h => by
    obtain ⟨y, hy, rfl⟩ := List.mem_map.1 h
    exact hx y hy) hp
  have HSH := Lib.hid hsh
  have HX := Lib.hid hx
  have HX' := Lib.hid hx'
  clear hx hx' hsh
  go_enter Try.func5, Try.ntmps5
  go_wp2_with fail
  refine (awake_any _).mono ?_
  rintro e' w1 ⟨rfl, hb2⟩
  have ts1 := hts.keep hb2
  go_wp2_with fail
  refine (ltexts_any xs a0 cap0 w1 ts1 (by omega) HX'.out).mono ?_
  rintro e' w2 ⟨hb3, hcase⟩
  rcases hcase with ⟨hbad, _⟩ | ⟨_, aL, cL, rfl, _⟩
  · exact absurd HX.out hbad
  rw [decide_eq_true h0]
  have ts2 := ts1.keep hb3
  have B2 := hb2.trans (hb3.mono hb2.size)
  clear hb2 hb3 ts1 hts
  go_wp2_with fail
  refine (build_any w2 xs a0 cap0 ts2 (by omega) (by omega)).mono ?_
  rintro e' W0 ⟨t, rfl, htr, hb4⟩
  generalize xs.map TxV.text = l at *
  generalize paths l = ps at *
  have HB := Lib.hid (B2.trans (hb4.mono B2.size))
  have HT : Hid (∀ X, Below W0.heap.size W0 X → Tr X w2.heap.size t ps l) := Lib.hid fun X hX => htr.keep hX
  have HW := Lib.hid htr.2.1
  have hpos := htr.2.1.pos
  clear ts2 B2 hb4 htr
  generalize w2.heap.size = s at *
  go_wp2
  go_loopw [7] (fun i wr => ∃ k : Nat, k ≤ ps.length ∧ i = .int .i64 k ∧ Below W0.heap.size W0 wr) (fun i _ => ps.length - (intOf i).toNat)
  case atStart => exact ⟨0, Nat.zero_le _, rfl, Below.refl _ _⟩
  case round =>
    obtain ⟨k, hk, rfl, hbel⟩ := hrel
    have HN := Lib.hid (nodes_any wr s t ps l (HT.out _ hbel))
    by_cases hlt : k < ps.length
    · have hkl : (k : Int) < (ps.length : Int) := by omega
      have hp40 := HSH.out _ (List.getElem_mem hlt)
      have HP := Lib.hid (path_any wr s t ps l (HT.out _ hbel) (k : Int) (by rw [pathD_at hlt]; omega))
      rw [pathD_at hlt] at HP
      have HF : Hid (∀ X, Below W0.heap.size W0 X → ∀ a cap, Bs X X.heap.size a ps[k] → Calls Try.prog 22 #[.pointer (some ⟨t, 0, none⟩), .slice a ps[k].length cap] X fun e w' => e = .returned (.int .i64 (k : Int)) ∧ X = w') := Lib.hid fun X hX a cap hb => by
        have := find_any X s t ps l (HT.out _ hX) ps[k] a cap _ hb (by omega)
        rwa [place_at HW.out.nodup hlt] at this
      have HD : Hid (∀ X, Below W0.heap.size W0 X → Calls Try.prog 16 #[.pointer (some ⟨t, 0, none⟩), .int .i64 (k : Int)] X fun e w' => e = .returned (.int .i64 (ps[k].length : Int)) ∧ Below X.heap.size X w') := Lib.hid fun X hX => by
        have := depth_any X s t ps l (HT.out _ hX) (k : Int)
        rwa [pathD_at hlt] at this
      have HBE := Lib.hid hbel
      clear hbel
      by_cases hk0 : k = 0
      · have hn := (HW.out.nil_iff hlt).2 hk0
        have hd1 : ((k : Int) == 0) = true := by simp [hk0]
        have hd2 : ((ps[k].length : Int) == 0) = true := by simp [hn]
        have hd3 : ¬ (0 : Int) < (k : Int) := by omega
        clear hk0 hn
        generalize ps[k] = p at *
        go_wp2_with (first
          | (go_at_call 13; (with_reducible refine HN.out.mono ?_); rintro e w1 ⟨rfl, rfl⟩)
          | (go_at_call 15; (with_reducible refine HP.out.mono ?_); rintro e w3 ⟨ap, cp, rfl, htp, _, _, hb3⟩; have HB3 := Lib.hid (HBE.out.trans (hb3.mono HBE.out.size)); have HBS := Lib.hid htp.bs; clear htp hb3)
          | (go_at_call 22; (with_reducible refine (HF.out _ HB3.out _ _ HBS.out).mono ?_); rintro e w4 ⟨rfl, rfl⟩)
          | (go_at_call 16; (with_reducible refine (HD.out _ HB3.out).mono ?_); rintro e w5 ⟨rfl, hb5⟩; have HB5 := Lib.hid (HB3.out.trans (hb5.mono HB3.out.size)); clear hb5))
        exact ⟨⟨k + 1, by omega, by go_num, HB5.out⟩, by simp [intOf]; omega⟩
      · obtain ⟨j, hj, eu, ej, hn0, h1, es⟩ := back_up HW.out hlt (by omega)
        have HU : Hid (∀ X, Below W0.heap.size W0 X → Calls Try.prog 17 #[.pointer (some ⟨t, 0, none⟩), .int .i64 (k : Int)] X fun e w' => e = .returned (.int .i64 (j : Int)) ∧ Below X.heap.size X w') := Lib.hid fun X hX => by
          have := parent_any X s t ps l (HT.out _ hX) (k : Int)
          rwa [eu] at this
        have hjl : j < ps.length := by omega
        have ejl : (ps[j].length : Int) = (ps[k].length : Int) - 1 := by rw [ej, List.length_dropLast]; omega
        have HDJ : Hid (∀ X, Below W0.heap.size W0 X → Calls Try.prog 16 #[.pointer (some ⟨t, 0, none⟩), .int .i64 (j : Int)] X fun e w' => e = .returned (.int .i64 ((ps[k].length : Int) - 1)) ∧ Below X.heap.size X w') := Lib.hid fun X hX => by
          have := depth_any X s t ps l (HT.out _ hX) (j : Int)
          rwa [pathD_at hjl, ejl] at this
        have HST : Hid (∀ X, Below W0.heap.size W0 X → Calls Try.prog 21 #[.pointer (some ⟨t, 0, none⟩), .int .i64 (j : Int), .int .u8 (ps[k][ps[k].length - 1].toNat : Int)] X fun e w' => e = .returned (.int .i64 (k : Int)) ∧ X = w') := Lib.hid fun X hX => by
          have := step_any X s t ps l (HT.out _ hX) (j : Int) (wf_nat (by omega) (by omega)) (ps[k][ps[k].length - 1])
          rwa [es] at this
        have hd1 : ((k : Int) == 0) = false := beq_eq_false_iff_ne.2 (by omega)
        have hd2 : ((ps[k].length : Int) == 0) = false := beq_eq_false_iff_ne.2 (by omega)
        have hd3 : (0 : Int) < (k : Int) := by omega
        have hd4 : ¬ (j : Int) < 0 := by omega
        have hd5 : ¬ (k : Int) ≤ (j : Int) := by omega
        clear eu ej ejl es hk0
        generalize ps[k] = p at *
        obtain ⟨n, hn⟩ : ∃ n, p.length = n + 1 := ⟨p.length - 1, by omega⟩
        have HLAST : Hid (∀ X a, Bs X X.heap.size a p → ∃ b off, a = some ⟨b, off, none⟩ ∧ b < X.heap.size ∧ X.cell? ⟨b, off + n, none⟩ = some (.int .u8 (p[p.length - 1].toNat : Int))) := Lib.hid fun X a hb => by
          obtain ⟨b, off, e, hbl, hc⟩ := hb (by omega)
          refine ⟨b, off, e, hbl, ?_⟩
          have := hc (p.length - 1) (by omega)
          rw [← this]
          congr 2
          omega
        generalize p[p.length - 1] = c at *
        rw [hn] at HF HD HDJ hd2 hp40
        have hcast : (((n + 1 : Nat) : Int) - 1) = (n : Int) := by omega
        rw [hcast] at HDJ
        have HPN := Lib.hid hn
        clear hn h1 hn0 hcast
        go_wp2_with (first
          | (go_at_call 13; (with_reducible refine HN.out.mono ?_); rintro e w1 ⟨rfl, rfl⟩)
          | (go_at_call 15; (with_reducible refine HP.out.mono ?_); rintro e w3 ⟨ap, cp, rfl, htp, _, _, hb3⟩; rw [HPN.out]; obtain ⟨b3, o3, rfl, hbl3, hc3⟩ := HLAST.out w3 ap htp.bs; have HB3 := Lib.hid (HBE.out.trans (hb3.mono HBE.out.size)); have HBS := Lib.hid htp.bs; clear htp hb3)
          | (go_at_call 22; (with_reducible refine (HF.out _ HB3.out _ _ HBS.out).mono ?_); rintro e w4 ⟨rfl, rfl⟩)
          | (go_at_call 16; (with_reducible refine (HD.out _ HB3.out).mono ?_); rintro e w5 ⟨rfl, hb5⟩; have HB5 := Lib.hid (HB3.out.trans (hb5.mono HB3.out.size)); have hc5 := (hb5.cell (p := ⟨b3, o3 + n, none⟩) hbl3).trans hc3; have hl5 := Nat.lt_of_lt_of_le hbl3 hb5.size; clear hb5)
          | (go_at_call 17; (with_reducible refine (HU.out _ HB5.out).mono ?_); rintro e w6 ⟨rfl, hb6⟩; have HB6 := Lib.hid (HB5.out.trans (hb6.mono HB5.out.size)); have hc6 := (hb6.cell (p := ⟨b3, o3 + n, none⟩) hl5).trans hc5; have hl6 := Nat.lt_of_lt_of_le hl5 hb6.size; clear hb6 hc5)
          | (go_at_call 16; (with_reducible refine (HDJ.out _ HB6.out).mono ?_); rintro e w7 ⟨rfl, hb7⟩; have HB7 := Lib.hid (HB6.out.trans (hb7.mono HB6.out.size)); have hc7 := (hb7.cell (p := ⟨b3, o3 + n, none⟩) hl6).trans hc6; have hl7 := Nat.lt_of_lt_of_le hl6 hb7.size; clear hb7 hc6)
          | (go_at_call 21; (with_reducible refine (HST.out _ HB7.out).mono ?_); rintro e w8 ⟨rfl, rfl⟩))
        exact ⟨⟨k + 1, by omega, by go_num, HB7.out⟩, by simp [intOf]; omega⟩
    · obtain rfl : k = ps.length := by omega
      have HBE := Lib.hid hbel
      clear hbel
      go_wp2_with (go_at_call 13; (with_reducible refine HN.out.mono ?_); rintro e w1 ⟨rfl, rfl⟩)
      go_ret
      exact ⟨rfl, HB.out.trans (HBE.out.mono HB.out.size)⟩
theorem walk (w : World) (xs : List TxV) (a0 : Option Addr) (cap0 : Nat) (hz0 : xs.length ≤ 6000000000000) (hx0 : ∀ x ∈ xs, x.text.length ≤ maxLen) (hts : Ts w a0 xs) :
    Calls Try.prog 5 #[.slice a0 xs.length cap0] w fun e w' => e = .returned (.bool true) ∧ Below w.heap.size w w' := by
  by_cases hall : xs.length ≤ 12 ∧ (∀ x ∈ xs, x.text.length ≤ 40)
  · exact small w xs a0 cap0 hts hall.1 hall.2
  · have HALL := Lib.hid hall
    have HX := Lib.hid hx0
    clear hall hx0
    go_enter Try.func5, Try.ntmps5
    go_wp2_with fail
    refine (awake_any _).mono ?_
    rintro e' w1 ⟨rfl, hb2⟩
    have ts1 := hts.keep hb2
    go_wp2_with fail
    refine (ltexts_any xs a0 cap0 w1 ts1 hz0 HX.out).mono ?_
    rintro e' w2 ⟨hb3, hcase⟩
    have B2 := hb2.trans (hb3.mono hb2.size)
    rcases hcase with ⟨_, rfl⟩ | ⟨hok, aL, cL, rfl, _⟩
    · go_wp2
      go_ret
      exact ⟨rfl, B2⟩
    · have h12 : ¬ xs.length ≤ 12 := fun h => HALL.out ⟨h, hok⟩
      rw [decide_eq_false h12]
      clear HALL hok
      go_wp2
      go_ret
      exact ⟨rfl, B2⟩
end Go.Proofs.Ytljnhkpcodecgaa.trieBack
