/- The walk of StreamMoves. -/
import Derived.Test.YtcekifknbljbiaaStrC5
namespace Go.Proofs.Ytcekifknbljbiaa.streamMoves
open Go.Proofs.Ytcekifknbljbiaa.Stm Go.Proofs.Ytcekifknbljbiaa.Str Go.Proofs.Ytcekifknbljbiaa.Reg Go.RowKit Go.Maps
set_option maxRecDepth 100000
set_option linter.unusedVariables false

theorem own_from {W : World} {N p g : Nat} {mp : Option Addr} {d : Option Nat} (hp : N ≤ p) (hg : N ≤ g) (hm : ∀ k, Met.blk mp = some k → N ≤ k) (hd : Nd W none d) (hW : N ≤ W.heap.size) : ∀ k, Str.Own p g d mp k → N ≤ k := by
  rintro k (h | h | h | h)
  · omega
  · omega
  · rcases hd with rfl | ⟨j, rfl, hj⟩
    · cases h
    · cases h; omega
  · exact hm k h
attribute [local go_sem ↓] Met.eql_counts
set_option maxHeartbeats 8000000 in
theorem walk (w : World) (xs : List TxV) (a0 : Option Addr) (cap0 : Nat) (hz0 : xs.length ≤ 6000000000000) (hx0 : ∀ x ∈ xs, x.text.length ≤ maxLen) (hts : Ts w a0 xs) (hcx : ∀ x ∈ xs, x.text.length ≤ x.cap) (most : Int) (hw0 : (Lit.int .i64 most).wf = true) :
    Calls Try.prog 7 #[.slice a0 xs.length cap0, .int .i64 most] w fun e w' => e = .returned (.bool true) ∧ Below w.heap.size w w' := by
  have HS := Lib.hid hts
  have HX := Lib.hid hx0
  have HCX := Lib.hid hcx
  have HAW := Lib.hid (awake_any w)
  have hz1 : xs.length ≤ maxLen := by unfold maxLen; omega
  clear hts hx0 hcx
  obtain ⟨M, hM⟩ := max_nat most
  clear hw0
  go_enter Try.func7, Try.ntmps7
  go_wp2_with fail
  refine HAW.out.mono ?_
  rintro e' w1 ⟨rfl, hb1⟩
  have HB1 := Lib.hid hb1
  clear HAW hb1
  have HS1 := Lib.hid (HS.out.keep HB1.out)
  go_wp2_with fail
  refine (few_any w1 a0 cap0 xs HS1.out hz1 HX.out).mono ?_
  rintro e' w2 ⟨z, rfl, rfl, hz⟩
  cases z
  · clear hz
    go_wp2_with fail
    go_ret
    exact ⟨rfl, HB1.out⟩
  have HF := Lib.hid (hz rfl)
  clear hz HS1 HX hz0 hz1
  have SA0 := Lib.hid (fun W (h : Below w.heap.size w W) => sall_any W a0 cap0 xs (HS.out.keep h) HF.out.1 HF.out.2.1)
  have hfl : (tx xs).flatten.length ≤ 1500 := HF.out.2.1
  have hmv := runs_moves M (tx xs)
  generalize (tx xs).flatten = t at *
  have hsz := HB1.out.size
  go_wp2_with fail
  refine (Met.new_mt w2).mono ?_
  rintro e' w3 ⟨rfl, hMt, hb3⟩
  have hb13 := HB1.out.trans (hb3.mono hsz)
  have NW := Lib.hid (snew_any w w3 (some ⟨w2.heap.size, 0, none⟩) most M hM hb13 hMt (fun k hk => by cases hk; exact hsz))
  clear hMt hb3 hb13
  generalize w2.heap.size = gm at *
  go_wp2_with fail
  refine NW.out.mono ?_
  rintro e' w4 ⟨p, g, rfl, _, _, hS4, _⟩
  have RN := Lib.hid (run_any w w4 p _ g none (stNew M) hS4 0 (bd_new M) (by decide) xs a0 _ cap0 rfl (arg_cks HS.out HCX.out hS4.sbel (fun k hk => hS4.own0 hk)) (by have := HF.out.1; omega) (by have := HF.out.2.1; omega))
  clear NW hS4
  go_wp2_with fail
  refine RN.out.mono ?_
  rintro e' w5 ⟨v5, ys5, d5, rfl, _, _, _, hS5, _⟩
  generalize (runs (stNew M) (tx xs)).1 = s1 at *
  have HO5 : Hid (∀ k, Str.Own p g d5 (some ⟨gm, 0, none⟩) k → k < w5.heap.size) := Lib.hid fun k hk => hS5.ownl hk
  have HS5 := Lib.hid hS5
  have SA := Lib.hid (SA0.out w5 hS5.sbel)
  have hw5 := hS5.sbel.size
  clear RN hS5 SA0
  go_wp2_with fail
  refine SA.out.mono ?_
  rintro e' w6 ⟨a6, c6, rfl, ht6, hc6, hn6, hb6⟩
  have HT6 := Lib.hid ht6.bs
  have HS6 := Lib.hid (HS5.out.keep hb6)
  have hw6 := hb6.size
  clear SA ht6 hb6 HS5
  go_wp2_with fail
  refine (Met.new_mt w6).mono ?_
  rintro e' w7 ⟨rfl, hMt, hb7⟩
  have HS7 := Lib.hid (HS6.out.keep hb7)
  have HB67 := Lib.hid hb7
  have hmx : max ((t.length : Nat) : Int) 0 = (t.length : Int) := by omega
  have NW := Lib.hid (snew_any w w7 (some ⟨w6.heap.size, 0, none⟩) _ _ hmx HS7.out.sbel hMt (fun k hk => by cases hk; show w.heap.size ≤ w6.heap.size; omega))
  clear hMt hb7 HS6
  generalize hg2 : w6.heap.size = gn at *
  go_wp2_with fail
  refine NW.out.mono ?_
  rintro e' w8 ⟨pn, gnw, rfl, hpn, hgn, hN8, hb8⟩
  have HN8 := Lib.hid hN8
  have HS8 := Lib.hid (HS7.out.keep hb8)
  have hgn7 := HB67.out.size
  have HON : Hid (∀ k, Str.Own pn gnw none (some ⟨gn, 0, none⟩) k → gn ≤ k) := Lib.hid fun k hk => by
    rcases own_none hk with e | e | e
    · omega
    · omega
    · cases e; exact Nat.le_refl _
  have hw8 := hb8.size
  have HBT8 := Lib.hid ((HT6.out.keep (HB67.out.trans (hb8.mono (by omega)))).more (by omega : gn ≤ w8.heap.size))
  have HOT : Hid (∀ ad : Addr, 0 < t.length → a6 = some ad → ad.block < gn) := Lib.hid fun ad h0 e => by have := bs_at HT6.out h0 e; omega
  clear NW hN8 hb8 HS7 HT6 HB67 hpn hgn
  go_wp2_with (first
    | (at_builtin; refine app_bs rfl (.tmp 38) (.tmp 39) rfl w8.heap.size (.slice none 0 0) 0 [] rfl (World.ownsRow_nil _ _ _ _) a6 t c6 w8.heap.size rfl HBT8.out hn6 (by omega) (Nat.le_refl _) ?_; intro v9 w9 hown9 hg9; have hb9 : Below w8.heap.size w8 w9 := app_below (Below.refl _ _) (World.ownsRow_nil _ _ _ _) hg9 (Nat.le_refl _) (Nat.le_refl _); have HW9 := Lib.hid hown9; have HB9 := Lib.hid hb9; clear hown9 hg9 hb9)
    | (at_builtin; refine app_bs rfl (.tmp 41) (.tmp 42) rfl w8.heap.size v9 (0 + t.length) ([] ++ vals t) rfl (HW9.out.alloc _) (some ⟨w9.heap.size, 0, none⟩) [10] 1 (w9.alloc (.cells #[.int .u8 10] 5)).heap.size rfl (bs_lit w9 [10] (0, 0) _ rfl) (fun e => by cases e) (by simp; omega) (by have := HB9.out.size; simp; omega) ?_; intro v10 w10 hown10 hg10))
  have hown11 : w10.ownsRow w8.heap.size 5 1 v10 (t.length + 1) (vals (t ++ [10])) := by
    have e1 : vals (t ++ [10]) = ([] ++ vals t) ++ vals [10] := by simp [vals]
    have e2 : t.length + 1 = (0 + t.length) + [(10 : UInt8)].length := by simp
    rw [e1, e2]
    exact hown10
  have hb10 : Below w8.heap.size w8 w10 := (HB9.out.trans ((Met.below_new w9 (.cells #[.int .u8 10] 5)).mono HB9.out.size)).grown hg10 (by have := HB9.out.size; simp; omega) (fun k hk => own_ge HW9.out hk)
  have htl : (t ++ [(10 : UInt8)]).length = t.length + 1 := by simp
  rw [← htl] at hown11
  obtain ⟨ac, cc, e10, htc, hcc, hnc⟩ := own_txt hown11
  subst e10
  have HN10 := Lib.hid (HN8.out.keep hb10)
  have HS10 := Lib.hid (HS8.out.keep hb10)
  have hw10 := hb10.size
  obtain ⟨hwh, hwm⟩ := whole_new t
  have hBc : Bx w10 pn gnw none (some ⟨gn, 0, none⟩) ac (t ++ [10]) := ⟨htc.bs, ap_new htc (fun k hk => HN8.out.ownl hk)⟩
  have FW := Lib.hid (sfeed_all w w10 pn _ gnw none (stNew t.length) HN10.out 0 (bd_new _) (by decide) (t ++ [10]) ac _ cc rfl hBc (by rw [htl]; omega) hcc hnc)
  have HBT10 := Lib.hid ((HBT8.out.keep hb10).more hw10)
  rw [htl] at FW
  rw [htl]
  clear hown10 hown11 hg10 hb10 HW9 HB9 HN8 HS8 HBT8 hBc htc
  go_wp2_with fail
  refine FW.out.mono ?_
  rintro e' w11 ⟨v11, ys11, d11, rfl, _, _, _, hN11, hc11⟩
  generalize (stNew t.length).feed (t ++ [10]) = fw at *
  have HN11 := Lib.hid hN11
  have hw11 := hc11.csize
  have HS11 := Lib.hid (Sm.newer HS10.out hc11 gn (fun k hk => by have := HO5.out k hk; omega) HON.out (by omega))
  have hbt11 : Bs w11 gn a6 t := hc11.bs (B := gn) (fun h0 => by
    obtain ⟨kk, off, e, hlt, hcs⟩ := HBT10.out h0
    exact ⟨kk, off, e, HOT.out _ h0 e, hcs⟩) (by omega) (fun h0 ad e ho => by have h1 := HOT.out ad h0 e; have h2 := HON.out _ ho; omega)
  have HBT11 := Lib.hid hbt11
  clear FW hN11 hc11 hbt11 HN10 HS10 HBT10 HON HOT
  go_wp2_with fail
  refine (Met.new_mt w11).mono ?_
  rintro e' w12 ⟨rfl, hMt, hb12⟩
  have HS12 := Lib.hid (HS11.out.keep hb12)
  have HN12 := Lib.hid (HN11.out.keep hb12)
  have HO11 : Hid (∀ k, Str.Own pn gnw d11 (some ⟨gn, 0, none⟩) k → k < w11.heap.size) := Lib.hid fun k hk => HN11.out.ownl hk
  have hmx2 : max ((t.length : Nat) : Int) 0 = (t.length : Int) := by omega
  have NK := Lib.hid (snew_any w w12 (some ⟨w11.heap.size, 0, none⟩) _ _ hmx2 HS12.out.sbel hMt (fun k hk => by cases hk; show w.heap.size ≤ w11.heap.size; omega))
  have HBT12 := Lib.hid (HBT11.out.keep (hb12.mono (by omega)))
  have hw12 := hb12.size
  clear hMt hb12 HS11 HN11 HBT11 hmx hmx2
  generalize w11.heap.size = gk at *
  go_wp2_with fail
  refine NK.out.mono ?_
  rintro e' w13 ⟨ps, gs, rfl, hps, hgs, hK13, hb13⟩
  have HK13 := Lib.hid hK13
  have HS13 := Lib.hid (HS12.out.keep hb13)
  have HN13 := Lib.hid (HN12.out.keep hb13)
  have HBT13 := Lib.hid (HBT12.out.keep (hb13.mono (by omega)))
  have hw13 := hb13.size
  have HO5' : Hid (∀ k, Str.Own p g d5 (some ⟨gm, 0, none⟩) k → k < gk) := Lib.hid fun k hk => by have := HO5.out k hk; omega
  have HFR : Hid (∀ d, Nd w13 none d → ∀ k, Str.Own ps gs d (some ⟨gk, 0, none⟩) k → gk ≤ k) := Lib.hid fun d hd => own_from (by omega) (by omega) (fun k hk => by cases hk; exact Nat.le_refl _) hd (by omega)
  have hgg : gn ≤ gk := by omega
  have hg13 : gk ≤ w13.heap.size := by omega
  have hwk : w.heap.size ≤ gk := by omega
  clear NK hK13 hb13 HS12 HN12 HBT12 HO5 hps hgs hw5 hw6 hw8 hw10 hw11 hw12 hg2 hgn7 hsz
  go_wp2_with fail
  go_loopw [15, 16] (fun bv i wr => ∃ (k : Nat) (d : Option Nat) (q : St), k ≤ t.length ∧ i = .int .i64 (k : Int) ∧ bv = .int .i64 ((bareTo t k : Nat) : Int) ∧ Hid (Sm w wr ps (some ⟨gk, 0, none⟩) gs d q) ∧ q.over = false ∧ q.most = t.length ∧ q.hunt = k ∧ Hid (WInv (bareTo t k) q.w) ∧ Hid (Bd k q) ∧ Hid (Nd w13 none d) ∧ w13.heap.size ≤ wr.heap.size ∧
    Hid (Sm w wr p (some ⟨gm, 0, none⟩) g d5 s1) ∧ Hid (Sm w wr pn (some ⟨gn, 0, none⟩) gnw d11 fw.1) ∧ Hid (Bs wr gn a6 t)) (fun _ i _ => t.length - (intOf i).toNat)
  case atStart => exact ⟨0, none, stNew t.length, Nat.zero_le _, rfl, rfl, HK13, rfl, rfl, rfl, Lib.hid winv_new, Lib.hid (bd_new _), Lib.hid (.inl rfl), Nat.le_refl _, HS13, HN13, HBT13⟩
  case round =>
    clear HK13 HS13 HN13 HBT13
    obtain ⟨k, d, q, hk, rfl, rfl, HK, ho, hmo, hhu, HW, HBD, HND, hwr, HS, HN, HBT⟩ := hrel
    have hbl := bare_le t k
    by_cases hlt : k < t.length
    · have hbs := bare_succ t k hlt
      have hfr := HFR.out d HND.out
      have hbx : Bx wr ps gs d (some ⟨gk, 0, none⟩) a6 t := ⟨HBT.out.more (by omega), fun h0 ad e ho' => by have h1 := bs_at HBT.out h0 e; have h2 := hfr _ ho'; omega⟩
      have hcut := hbx.cut c6 k (k + 1) (by omega) (by omega) hc6
      have hmid : mid t k (k + 1) = [t[k]] := by
        unfold mid
        rw [List.take_succ_eq_append_getElem hlt, List.drop_append_of_le_length (by simp; omega)]
        simp
      rw [hmid] at hcut
      obtain ⟨A, hA⟩ : ∃ A, A = (if c6 = k then a6 else a6.map (fun x => x.add k)) := ⟨_, rfl⟩
      have hsl : (Instr.slice 38 (.slice a6 t.length c6) (some (.int .i64 (k : Int))) (some (.int .i64 ((k : Int) + 1))) none).run Try.prog wr = .ok (.slice A 1 (c6 - k)) wr := by
        have := slice_mid a6 t.length c6 k (k + 1) (by omega) (by omega) hc6 hn6 wr
        rw [Int.natCast_add, Nat.add_sub_cancel_left, ← hA] at this
        exact this
      have hAn : A = none → c6 - k = 0 := fun e => by
        rw [hA, if_neg (by omega)] at e
        have := hn6 (by simpa using e)
        omega
      rw [← hA] at hcut
      have hheld : q.w.held.length + 1 ≤ q.most := by have := HW.out.came; omega
      obtain ⟨b1, b2, b3, b4⟩ := byte_feed HW.out ho t[k] hheld
      rw [← hbs] at b1
      have F1 := Lib.hid (sfeed_all w wr ps _ gs d q HK.out k HBD.out (by omega) [t[k]] A 1 (c6 - k) rfl hcut (by simp) (by simp; omega) hAn)
      have hbd2 := (HBD.out.feed [t[k]]).more (show k + [t[k]].length ≤ k + 1 by simp)
      have HBX := Lib.hid hbx
      have HB1 := Lib.hid b1
      have HBD2 := Lib.hid hbd2
      clear hbx hcut hmid hA hheld b1 hbd2 HW HBD
      go_wp2_with fail
      refine F1.out.mono ?_
      rintro e' w14 ⟨v14, ys14, d14, rfl, _, _, hn14, hK14, hc14⟩
      generalize (q.feed [t[k]]).1 = q2 at *
      have hx14 := HBX.out.ch hc14 hn14
      have HND14 := Lib.hid (HND.out.trans hn14 hwr)
      have HS14 := Lib.hid (Sm.newer HS.out hc14 gk HO5'.out hfr hwk)
      have HN14 := Lib.hid (Sm.newer HN.out hc14 gk HO11.out hfr hwk)
      have F2 := Lib.hid (sfeed_all w w14 ps _ gs d14 q2 hK14 (k + 1) HBD2.out (by omega) [] none 0 0 rfl ⟨bs_nil _ _ _, fun h0 => absurd h0 (Nat.lt_irrefl _)⟩ (by simp) (Nat.le_refl _) (fun _ => rfl))
      have hw14 := hc14.csize
      have hfr14 := HFR.out d14 HND14.out
      have HBX14 := Lib.hid hx14
      have hbt14 : Bs w14 gn a6 t := hc14.bs HBT.out (by omega) (fun h0 ad e ho' => by have h1 := bs_at HBT.out h0 e; have h2 := hfr _ ho'; omega)
      have HBT14 := Lib.hid hbt14
      clear F1 hn14 hK14 hc14 hx14 hbt14 HK HS HN HBX HBT HND hfr hsl hAn
      go_wp2_with fail
      refine F2.out.mono ?_
      rintro e' w15 ⟨v15, ys15, d15, rfl, _, _, hn15, hK15, hc15⟩
      rw [feed_nil] at hK15
      have HND15 := Lib.hid (HND14.out.trans hn15 (by omega))
      have HS15 := Lib.hid (Sm.newer HS14.out hc15 gk HO5'.out hfr14 hwk)
      have HN15 := Lib.hid (Sm.newer HN14.out hc15 gk HO11.out hfr14 hwk)
      have HK15 := Lib.hid hK15
      have hw15 := hc15.csize
      have hbt15 : Bs w15 gn a6 t := hc15.bs HBT14.out (by omega) (fun h0 ad e ho' => by have h1 := bs_at HBT14.out h0 e; have h2 := hfr14 _ ho'; omega)
      have HBT15 := Lib.hid hbt15
      obtain ⟨bk, off, rfl, _, hcs⟩ := hbt15 (by omega)
      have hck := hcs k hlt
      have hkl : (k : Int) < (t.length : Int) := by omega
      clear F2 hn15 hK15 hc15 hbt15 hcs HS14 HN14 HBX14 HBT14 HND14 hfr14
      by_cases h10 : t[k] = 10
      · have htt : ((t[k].toNat : Int) != 10) = false := by rw [u8_ne_ten]; simp [h10]
        rw [if_pos h10] at hbs
        have HBS := Lib.hid hbs
        clear h10 hbs
        go_wp2_with fail
        go_roundw
        case rel => exact ⟨k + 1, d15, q2, hlt, by go_num, by rw [HBS.out]; go_num, HK15, b2, by omega, by omega, HB1, HBD2, HND15, by omega, HS15, HN15, HBT15⟩
        case measure => simp [intOf]; omega
      · have htt : ((t[k].toNat : Int) != 10) = true := by rw [u8_ne_ten]; simp [h10]
        rw [if_neg h10] at hbs
        have HBS := Lib.hid hbs
        clear h10 hbs
        go_wp2_with fail
        go_roundw
        case rel => exact ⟨k + 1, d15, q2, hlt, by go_num, by rw [HBS.out]; go_num, HK15, b2, by omega, by omega, HB1, HBD2, HND15, by omega, HS15, HN15, HBT15⟩
        case measure => simp [intOf]; omega
    · obtain rfl : k = t.length := by omega
      have hle := HW.out.least
      have hmo3 := HW.out.most
      generalize bareTo t t.length = bare at *
      have e1 : (s1.w.move : Int) ≤ 3 * (t.length : Int) := by omega
      have e2 : ((bare : Nat) : Int) ≤ (q.w.move : Int) := by omega
      have e3 : (q.w.move : Int) ≤ 3 * (bare : Int) := by omega
      have e4 : ((t.length : Int) == (t.length : Int)) = true := by simp
      have e5 := Met.eql_counts 0 0 ((t.length + 1 : Nat) : Int) 0 0 0 ((t.length + 1 : Nat) : Int) 0
      have f1 := field_mo 0 0 (s1.hunt : Int) (s1.w.move : Int)
      have f2 := field_mo 0 0 (t.length : Int) (q.w.move : Int)
      have f3 := field_hu 0 0 (t.length : Int) (q.w.move : Int)
      have HNC := Lib.hid (HN.out.smt)
      rw [hwh, hwm] at HNC
      clear hwh hwm HW HBD HND HBT hle hmo3
      go_wp2_with (first
        | (go_at_call 19; (with_reducible refine (Met.counts_mt wr gm 0 0 _ _ HS.out.smt).mono ?_); rintro e x1 ⟨rfl, hb1⟩; have HX1 := Lib.hid hb1; clear hb1)
        | (go_at_call 19; (with_reducible refine (Met.counts_mt x1 gn 0 0 _ _ (HNC.out.keep HX1.out)).mono ?_); rintro e x2 ⟨rfl, hb2⟩; have HX2 := Lib.hid (HX1.out.trans (hb2.mono HX1.out.size)); clear hb2)
        | (go_at_call 19; (with_reducible refine (Met.counts_mt x2 gk 0 0 _ _ (HK.out.keep HX2.out).smt).mono ?_); rintro e x3 ⟨rfl, hb3⟩; have HX3 := Lib.hid (HX2.out.trans (hb3.mono HX2.out.size)); clear hb3)
        | (go_at_call 19; (with_reducible refine (Met.counts_mt x3 gk 0 0 _ _ (HK.out.keep HX3.out).smt).mono ?_); rintro e x4 ⟨rfl, hb4⟩; have HX4 := Lib.hid (HX3.out.trans (hb4.mono HX3.out.size)); clear hb4)
        | (go_at_call 19; (with_reducible refine (Met.counts_mt x4 gk 0 0 _ _ (HK.out.keep HX4.out).smt).mono ?_); rintro e x5 ⟨rfl, hb5⟩; have HX5 := Lib.hid (HX4.out.trans (hb5.mono HX4.out.size)); clear hb5))
      go_ret
      exact ⟨ret_bool (by simp), HK.out.sbel.trans (HX5.out.mono HK.out.sbel.size)⟩
end Go.Proofs.Ytcekifknbljbiaa.streamMoves
