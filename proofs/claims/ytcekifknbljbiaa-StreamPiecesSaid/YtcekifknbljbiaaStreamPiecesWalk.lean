/- The walk of StreamPieces. -/
import Derived.Test.YtcekifknbljbiaaStrC5
namespace Go.Proofs.Ytcekifknbljbiaa.streamPieces
open Go.Proofs.Ytcekifknbljbiaa.Stm Go.Proofs.Ytcekifknbljbiaa.Str Go.Proofs.Ytcekifknbljbiaa.Reg Go.RowKit Go.Maps
set_option maxRecDepth 100000
set_option linter.unusedVariables false

attribute [local go_sem ↓] Met.eql_counts
set_option maxHeartbeats 8000000 in
theorem walk (w : World) (xs : List TxV) (a0 : Option Addr) (cap0 : Nat) (hz0 : xs.length ≤ 6000000000000) (hx0 : ∀ x ∈ xs, x.text.length ≤ maxLen) (hts : Ts w a0 xs) (hcx : ∀ x ∈ xs, x.text.length ≤ x.cap) (most : Int) (hw0 : (Lit.int .i64 most).wf = true) :
    Calls Try.prog 4 #[.slice a0 xs.length cap0, .int .i64 most] w fun e w' => e = .returned (.bool true) ∧ Below w.heap.size w w' := by
  have HS := Lib.hid hts
  have HX := Lib.hid hx0
  have HCX := Lib.hid hcx
  have HAW := Lib.hid (awake_any w)
  have hz1 : xs.length ≤ maxLen := by unfold maxLen; omega
  clear hts hx0 hcx
  obtain ⟨M, hM⟩ := max_nat most
  clear hw0
  go_enter Try.func4, Try.ntmps4
  go_wp2_with fail
  refine HAW.out.mono ?_
  rintro e' w1 ⟨rfl, hb1⟩
  have HB1 := Lib.hid hb1
  clear HAW hb1
  have HS1 := Lib.hid (HS.out.keep HB1.out)
  go_wp2_with fail
  refine (few_any w1 a0 cap0 xs HS1.out hz1 HX.out).mono ?_
  rintro e' w2 ⟨z, rfl, rfl, hz⟩
  cases z
  · clear hz
    go_wp2_with fail
    go_ret
    exact ⟨rfl, HB1.out⟩
  have HF := Lib.hid (hz rfl)
  clear hz HS1 HX hz0 hz1
  have SA0 := Lib.hid (fun W (h : Below w.heap.size w W) => sall_any W a0 cap0 xs (HS.out.keep h) HF.out.1 HF.out.2.1)
  have hfl : (tx xs).flatten.length ≤ 1500 := HF.out.2.1
  obtain ⟨x1, x2, x3, x4⟩ := runs_new M (tx xs)
  obtain ⟨y1, y2, y3, y4⟩ := runs_new M [(tx xs).flatten]
  have hff : [(tx xs).flatten].flatten = (tx xs).flatten := by simp
  rw [hff] at y1 y2 y3 y4
  generalize (tx xs).flatten = t at *
  have hE : errOf (runs (stNew M) (tx xs)).1 = errOf (runs (stNew M) [t]).1 := by unfold errOf; rw [x2, y2]
  have hN : badNum (runs (stNew M) (tx xs)).1 = badNum (runs (stNew M) [t]).1 := by
    unfold badNum
    rw [x2, y2]
    split
    · rename_i h; rw [x4 h, y4 h]
    · rfl
  have hL : (runs (stNew M) (tx xs)).2 = (runs (stNew M) [t]).2 := by rw [x1, y1]
  have hH : (runs (stNew M) (tx xs)).1.hunt ≤ t.length := by rw [x3]; exact reads_le M t []
  have hH2 : errOf (runs (stNew M) (tx xs)).1 = 0 → (runs (stNew M) (tx xs)).1.hunt = t.length := fun h => by
    rw [x3]
    refine reads_all M t [] ?_
    unfold errOf at h
    rw [x2] at h
    cases hf : fails M [] t with
    | true => rw [hf] at h; simp at h
    | false => rfl
  have HE := Lib.hid hE
  have HN := Lib.hid hN
  have HL := Lib.hid hL
  have HH := Lib.hid hH
  have HH2 := Lib.hid hH2
  clear hE hN hL hH hH2 x1 x2 x3 x4 y1 y2 y3 y4 hff
  have hsz := HB1.out.size
  go_wp2_with fail
  refine (Met.new_mt w2).mono ?_
  rintro e' w3 ⟨rfl, hMt, hb3⟩
  have hb13 := HB1.out.trans (hb3.mono hsz)
  have NW := Lib.hid (snew_any w w3 (some ⟨w2.heap.size, 0, none⟩) most M hM hb13 hMt (fun k hk => by cases hk; exact hsz))
  have hgm3 := hMt.lt (k := w2.heap.size) rfl
  clear hMt hb3
  generalize w2.heap.size = gm at *
  go_wp2_with fail
  refine NW.out.mono ?_
  rintro e' w4 ⟨p, g, rfl, hp4, hg4, hS4, hb4⟩
  have HS4 := Lib.hid hS4
  have NT := Lib.hid (snew_any w w4 none most M hM hS4.sbel (.inl rfl) (fun k e => by cases e))
  clear NW hS4 hb13
  go_wp2_with fail
  refine NT.out.mono ?_
  rintro e' w5 ⟨pt, gt, rfl, hpt5, hgt5, hT5, hb5⟩
  have HS5 := Lib.hid (HS4.out.keep hb5)
  have HT5 := Lib.hid hT5
  have hlt4 : ∀ k, Str.Own p g none (some ⟨gm, 0, none⟩) k → k < w4.heap.size := fun k h => HS4.out.ownl h
  have HDIS : Hid (∀ k, Str.Own pt gt none none k → ¬ Str.Own p g none (some ⟨gm, 0, none⟩) k) := Lib.hid fun k h1 h2 => by
    have := hlt4 k h2
    rcases own_two h1 with e | e <;> omega
  clear NT hT5 hlt4
  have SA := Lib.hid (SA0.out w5 HT5.out.sbel)
  go_wp2_with fail
  refine SA.out.mono ?_
  rintro e' w6 ⟨a6, c6, rfl, ht6, hc6, hn6, hb6⟩
  have HS6 := Lib.hid (HS5.out.keep hb6)
  have HT6 := Lib.hid (HT5.out.keep hb6)
  have hB6 : Bx w6 p g none (some ⟨gm, 0, none⟩) a6 t := ⟨ht6.bs, ap_new ht6 (fun k hk => HS5.out.ownl hk)⟩
  have hA6 : ∀ ad : Addr, 0 < t.length → a6 = some ad → w5.heap.size ≤ ad.block := fun ad h0 e => by
    obtain ⟨k, cs, e2, hk, _⟩ := ht6 h0
    rw [e2] at e; cases e; exact hk
  have HB6 := Lib.hid hB6
  have HA6 := Lib.hid hA6
  have hptl := HT5.out.sblk.lt
  have hgtl := HT5.out.sgl
  have hws6 := hb6.size
  have RN := Lib.hid (run_any w w6 p _ g none (stNew M) HS6.out 0 (bd_new M) (by decide) xs a0 _ cap0 rfl (arg_cks HS.out HCX.out HS6.out.sbel (fun k hk => HS6.out.own0 hk)) (by have := HF.out.1; omega) (by have := HF.out.2.1; omega))
  clear ht6 hB6 hA6 SA SA0 HS5 HT5 HS4 hb5 hb6 hp4 hg4 hpt5 hgt5
  go_wp2_with fail
  refine RN.out.mono ?_
  rintro e' w7 ⟨v7, ys7, d7, rfl, hy7, hg7, hn7, hS7, hch7⟩
  obtain ⟨a7, c7, rfl, hl7, hr7, hq7⟩ := own_lt2 hg7.1 (fun x hx => (hg7.2 x hx).1)
  have HS7 := Lib.hid hS7
  have HT7 := Lib.hid (HT6.out.ch hch7 (fun k hk => ⟨HS6.out.own0 hk, fun h => HDIS.out k h hk⟩))
  have HB7 := Lib.hid (HB6.out.ch hch7 hn7)
  have HL7 := Lib.hid hl7
  have HR7 := Lib.hid hr7
  have HQ7 := Lib.hid hq7
  have HY7 := Lib.hid hy7
  have HDS : Hid (∀ k, Str.Own pt gt none none k → ¬ Str.Own p g d7 (some ⟨gm, 0, none⟩) k) := Lib.hid fun k h1 h2 => by
    rcases own_two h1 with e | e
    · exact HDIS.out k h1 (hn7.own (by omega) h2)
    · exact HDIS.out k h1 (hn7.own (by omega) h2)
  have hws7 := hch7.csize
  clear RN hy7 hg7 hn7 hS7 hch7 hl7 hr7 hq7 HS6 HT6 HB6 HDIS
  have hal : Below w7.heap.size w7 (w7.alloc (.cells #[.slice a6 t.length c6] 38)) := Met.below_new _ _
  have HT8 := Lib.hid (HT7.out.keep hal)
  have HS8 := Lib.hid (HS7.out.keep hal)
  have HL8 := Lib.hid (HL7.out.keep hal)
  have hck : Cks (w7.alloc (.cells #[.slice a6 t.length c6] 38)) pt gt none none (some ⟨w7.heap.size, 0, none⟩) [⟨t, a6, c6, hn6⟩] := by
    refine ⟨⟨fun _ => ⟨w7.heap.size, 0, rfl, by simp, fun i hi => ?_⟩, fun x hx => ?_⟩, fun _ ad e ho => ?_, fun x hx h0 ad e ho => ?_, fun x hx => ?_⟩
    · have hi0 : i = 0 := by simpa using hi
      subst hi0
      rw [cell_of_row _ w7.heap.size _ _ 38 (0, 0) (heap_alloc_new w7 _)]
      rfl
    · rw [List.mem_singleton.1 hx]
      exact (HB7.out.mem.keep hal).more hal.size
    · cases e
      rcases own_two ho with h | h <;> (simp only at h; omega)
    · rw [List.mem_singleton.1 hx] at h0 e
      have := HA6.out ad h0 e
      rcases own_two ho with h | h <;> omega
    · rw [List.mem_singleton.1 hx]; exact hc6
  have RT := Lib.hid (run_any w _ pt none gt none (stNew M) HT8.out 0 (bd_new M) (by decide) [⟨t, a6, c6, hn6⟩] (some ⟨w7.heap.size, 0, none⟩) 1 1 rfl hck (by simp) (by show ([t].flatten).length ≤ _; simp; omega))
  rw [show tx [⟨t, a6, c6, hn6⟩] = [t] from rfl] at RT
  clear hal hck HT7 HS7 HL7 HB7
  go_wp2_with fail
  generalize w7.alloc (.cells #[.slice a6 t.length c6] 38) = w8 at *
  refine RT.out.mono ?_
  rintro e' w9 ⟨v9, ys9, d9, rfl, hy9, hg9, hn9, hT9, hch9⟩
  obtain ⟨a9, c9, rfl, hl9, _, _⟩ := own_lt2 hg9.1 (fun x hx => (hg9.2 x hx).1)
  have HT9 := Lib.hid hT9
  have HS9 := Lib.hid (HS8.out.ch hch9 (fun k hk => ⟨HT8.out.own0 hk, HDS.out k hk⟩))
  have HL9 := Lib.hid (HL8.out.ch hch9 (fun _ ad e ho => by have := HR7.out ad e; rcases own_two ho with h | h <;> omega) (fun x hx h0 ad e ho => by have := HQ7.out x hx h0 ad e; rcases own_two ho with h | h <;> omega))
  have HM9 := Lib.hid hl9
  have hyy : ys7.map SlV.sl = ys9.map SlV.sl := by rw [HY7.out, hy9, HL.out]
  have hyl : ys7.length ≤ 1000000 := by
    have h1 := congrArg List.length HY7.out
    rw [List.length_map] at h1
    have h2 := feeds_told_len (tx xs) (stNew M)
    have h3 := fin_told_len ((stNew M).feeds (tx xs)).1
    have h4 : (tx xs).flatten.length ≤ 1500 := HF.out.2.1
    unfold runs at h1
    rw [List.length_append] at h1
    omega
  have HYY := Lib.hid hyy
  clear RT hy9 hg9 hn9 hT9 hch9 hl9 hyy HS8 HT8 HL8 HR7 HQ7 HY7 HDS HL HA6
  generalize (runs (stNew M) (tx xs)).1 = s1 at *
  generalize (runs (stNew M) [t]).1 = s2 at *
  go_wp2_with fail
  refine (serr_any w w9 p _ g d7 s1 HS9.out).mono ?_
  rintro e' w10 ⟨rfl, q, hq⟩
  have hb10 : Below w9.heap.size w9 w10 := by rw [hq]; exact below_drews (Below.refl _ _) _
  have HSa := Lib.hid (HS9.out.keep hb10)
  have HTa := Lib.hid (HT9.out.keep hb10)
  have HLa := Lib.hid (HL9.out.keep hb10)
  have HMa := Lib.hid (HM9.out.keep hb10)
  clear hq hb10 HS9 HT9 HL9 HM9
  have ET := Lib.hid (serr_any w w10 pt none gt d9 s2 HTa.out)
  rw [← HE.out, ← HN.out] at ET
  go_wp2_with fail
  refine ET.out.mono ?_
  rintro e' w11 ⟨rfl, q, hq⟩
  have hb11 : Below w10.heap.size w10 w11 := by rw [hq]; exact below_drews (Below.refl _ _) _
  have HSb := Lib.hid (HSa.out.keep hb11)
  have SM := Lib.hid (same_any ys7 ys9 _ _ a7 a9 c7 c9 w11 rfl rfl HYY.out (HLa.out.keep hb11) (HMa.out.keep hb11) hyl)
  clear hq hb11 HSa HTa HLa HMa ET HE HN hyl HYY
  have n1 : (errOf s1 == errOf s1) = true := beq_self_eq_true _
  have n2 : (badNum s1 == badNum s1) = true := beq_self_eq_true _
  have hhi : (s1.hunt : Int) ≤ (t.length : Int) := by have := HH.out; omega
  have fh := field_hu 0 0 (s1.hunt : Int) (s1.w.move : Int)
  by_cases hz : errOf s1 = 0
  · have hhe : (s1.hunt : Int) = (t.length : Int) := by have := HH2.out hz; omega
    have hhe2 : ((s1.hunt : Int) == (t.length : Int)) = true := beq_iff_eq.2 hhe
    have hz2 : (errOf s1 != 0) = false := by rw [hz]; rfl
    have HZ := Lib.hid hz
    clear hz hhe
    generalize errOf s1 = E at *
    generalize badNum s1 = NN at *
    go_wp2_with (first
      | (go_at_call 23; (with_reducible refine SM.out.mono ?_); rintro e wc ⟨rfl, q, hq⟩; have hbc : Below w11.heap.size w11 wc := (by rw [hq]; exact below_drews (Below.refl _ _) _); have HSc := Lib.hid (HSb.out.keep hbc); clear hq hbc SM HSb)
      | (go_at_call 19; (with_reducible refine (Met.counts_mt wc gm 0 0 _ _ HSc.out.smt).mono ?_); rintro e wd ⟨rfl, hbd⟩; have HSd := Lib.hid (HSc.out.keep hbd); clear hbd HSc)
      | (go_at_call 19; (with_reducible refine (Met.counts_mt wd gm 0 0 _ _ HSd.out.smt).mono ?_); rintro e we ⟨rfl, hbe⟩; have HSe := Lib.hid (HSd.out.keep hbe); clear hbe HSd))
    go_ret
    exact ⟨ret_bool (by simp), HSe.out.sbel⟩
  · have hz2 : (errOf s1 != 0) = true := by simp [hz]
    have HZ := Lib.hid hz
    clear hz
    generalize errOf s1 = E at *
    generalize badNum s1 = NN at *
    go_wp2_with (first
      | (go_at_call 23; (with_reducible refine SM.out.mono ?_); rintro e wc ⟨rfl, q, hq⟩; have hbc : Below w11.heap.size w11 wc := (by rw [hq]; exact below_drews (Below.refl _ _) _); have HSc := Lib.hid (HSb.out.keep hbc); clear hq hbc SM HSb)
      | (go_at_call 19; (with_reducible refine (Met.counts_mt wc gm 0 0 _ _ HSc.out.smt).mono ?_); rintro e wd ⟨rfl, hbd⟩; have HSd := Lib.hid (HSc.out.keep hbd); clear hbd HSc))
    go_ret
    exact ⟨ret_bool (by simp), HSd.out.sbel⟩
end Go.Proofs.Ytcekifknbljbiaa.streamPieces
