/- The walk of ShiftsSafe. -/
import Derived.Test.YtgdpelpepgpegaaHc
namespace Go.Proofs.Ytgdpelpepgpegaa.shiftsSafe
open Go.Proofs.Ytgdpelpepgpegaa.Tri Go.Proofs.Ytgdpelpepgpegaa.Cwl Go.Proofs.Ytgdpelpepgpegaa.Bck Go.Proofs.Ytgdpelpepgpegaa.Shf Go.Proofs.Ytgdpelpepgpegaa.Lit Go.Proofs.Ytgdpelpepgpegaa.Reg Go.RowKit Go.Maps
set_option maxRecDepth 100000
set_option linter.unusedVariables false
theorem fits_iff {p line : Tx} : True := trivial
/-- One byte more fits, just where fewer than fit have been gone through. -/
theorem fits_next {p : List Tx} {line : Tx} {e n : Nat} (hn : n < e) (hf : n ≤ fits p line e) : backN line e (n + 1) ∈ p ↔ n < fits p line e := by
  constructor
  · intro h
    rcases Nat.lt_or_ge n (fits p line e) with h1 | h1
    · exact h1
    · have e1 : n = fits p line e := by omega
      have := fits_stop p line e (by omega)
      rw [← e1] at this
      exact absurd h this
  · intro h
    exact fits_in p line e (n + 1) (by omega) (by omega)
theorem backN_zero (line : Tx) (e : Nat) : backN line e 0 = [] := by
  unfold backN
  rw [Nat.sub_zero, List.drop_of_length_le (by rw [List.length_take]; omega)]
  rfl

set_option maxHeartbeats 8000000 in
theorem small (w : World) (xs : List TxV) (a0 : Option Addr) (cap0 : Nat) (hts : Ts w a0 xs) (h0 : xs.length ≤ 12) (hx : ∀ x ∈ xs, x.text.length ≤ 40) (line : Tx) (aline : Option Addr) (cline : Nat) (hmline : line.length ≤ maxLen) (hbline : Bs w w.heap.size aline line) (hnline : aline = none → cline = 0) (hcline : line.length ≤ cline) (at' : UInt8) :
    Calls Try.prog 6 #[.slice a0 xs.length cap0, .slice aline line.length cline, .int .u8 (at'.toNat : Int)] w fun e w' => e = .returned (.bool true) ∧ Below w.heap.size w w' := by
  have KL : Hid (Ln w aline line cline) := Lib.hid ⟨hbline, hcline, hnline⟩
  clear hbline hcline hnline hmline
  have hx' : ∀ x ∈ xs, x.text.length ≤ maxLen := fun x h => Nat.le_trans (hx x h) (by unfold maxLen; omega)
  have htot := Spa.few_tot h0 hx
  have HX := Lib.hid hx
  have HX' := Lib.hid hx'
  have HAW := Lib.hid (Shf.awake_any w)
  clear hx hx'
  go_enter Try.func6, Try.ntmps6
  go_wp2_with fail
  refine HAW.out.mono ?_
  rintro e' w1 ⟨rfl, hb2⟩
  have ts1 := hts.keep hb2
  go_wp2_with fail
  refine (ltexts_any xs a0 cap0 w1 ts1 (by omega) HX'.out).mono ?_
  rintro e' w2 ⟨hb3, hcase⟩
  rcases hcase with ⟨hbad, _⟩ | ⟨_, aL, cL, rfl, hsL⟩
  · exact absurd HX.out hbad
  rw [decide_eq_true h0]
  have HTS := Lib.hid (ts1.keep hb3)
  have HB := Lib.hid (hb2.trans (hb3.mono hb2.size))
  have hszw := HB.out.size
  obtain ⟨l, hl⟩ : ∃ l, l = xs.map TxV.text := ⟨_, rfl⟩
  have HBU : Hid (∀ X, Below w2.heap.size w2 X → Calls Try.prog 11 #[.slice a0 xs.length cap0] X (GivesBk X l)) := Lib.hid fun X hX => by
    have := bbuild_any X xs a0 cap0 (HTS.out.keep hX) (by omega) (fun x h => Nat.le_trans (HX.out x h) (by omega))
    rwa [← hl] at this
  have HLN : Hid (xs.length = l.length) := Lib.hid (by rw [hl]; simp)
  have HLL := Lib.hid hl
  have HL40 : Hid (∀ x ∈ l, x.length ≤ 40) := Lib.hid fun x h => by
    rw [hl] at h
    obtain ⟨y, hy, rfl⟩ := List.mem_map.1 h
    exact HX.out y hy
  rw [← hl] at hsL htot
  have HSL := Lib.hid hsL
  have HTD : Hid (∀ X, Below w2.heap.size w2 X → Calls Try.prog 12 #[.slice aL xs.length cL] X (GivesSs X (turned l))) := Lib.hid fun X hX => by
    have := rturned_any X l aL cL (HSL.out.keep hX) (by rw [← HLN.out]; omega) (fun x h => Nat.le_trans (HL40.out x h) (by omega))
    rwa [← HLN.out] at this
  have HT40 : Hid (∀ x ∈ turned l, x.length ≤ 40) := Lib.hid fun x h => by
    have := HL40.out _ ((mem_turned l x).1 h).2
    rwa [List.length_reverse] at this
  have htl : (turned l).length ≤ 12 := by have := turned_len l; have := HLN.out; omega
  have htt := turned_tot l
  have LL : Hid (∀ X, Below w2.heap.size w2 X → Ln X aline line cline) := Lib.hid fun X hX => (KL.out.keep HB.out).keep hX
  clear HAW KL hb2 hb3 ts1 hsL hts hl HX'
  by_cases hll : line.length ≤ 100
  · have hlli : ¬ (100 : Int) < (line.length : Int) := by omega
    go_wp2_with fail
    refine (HBU.out w2 (Below.refl _ _)).mono ?_
    rintro e w3 ⟨x, rfl, hk, hb3⟩
    have HB3 := Lib.hid hb3
    have HK := Lib.hid hk
    clear hb3 hk
    go_wp2_with fail
    refine (sbuild_any w3 x l HK.out (by omega)).mono ?_
    rintro e w4 ⟨sp, rfl, hsh, hb4⟩
    have HB4 := Lib.hid (HB3.out.trans (hb4.mono HB3.out.size))
    have HK4 := Lib.hid (HK.out.keep hb4)
    have HS4 := Lib.hid hsh
    clear hb4 hsh HK
    obtain ⟨e, he⟩ : ∃ e, e = at'.toNat % (line.length + 1) := ⟨_, rfl⟩
    have hel : e ≤ line.length := by rw [he]; exact Nat.le_of_lt_succ (Nat.mod_lt _ (Nat.succ_pos _))
    have htm : (at'.toNat : Int).tmod ((line.length : Int) + 1) = (e : Int) := by rw [he]; exact (Int.ofNat_tmod at'.toNat (line.length + 1)).symm
    have hwi : IntKind.i64.wrap (at'.toNat : Int) = (at'.toNat : Int) := IntWalk.i64_in _ (by have := at'.toNat_lt; omega)
    have hz1 : ((line.length : Int) + 1 == 0) = false := by rw [beq_eq_false_iff_ne]; omega
    have hz2 : ¬ (line.length : Int) + 1 = 0 := by omega
    have hps : (paths (turned l)).length ≤ 481 := by have := paths_len (turned l); omega
    have HF2 := Lib.hid (fun i h => @sndN_at l i h)
    have HF3 := Lib.hid (fun i h => @farN_at l i h)
    have HPW := Lib.hid (paths_wf (turned l))
    have HMV : Hid (∀ a b, e < b → b ≤ line.length → a < b → (line.take b).drop a ∈ l → e + moveOf l line e ≤ b) := Lib.hid fun a b h1 h2 h3 h4 => move_safe h1 h2 h3 h4
    have HMO : Hid (moveOf l line e = (match line[e - 1 - (backN line e (fits (paths (turned l)) line e)).length]? with | some c => if (backN line e (fits (paths (turned l)) line e)).length < e then farOf (turned l) (paths (turned l)) (backN line e (fits (paths (turned l)) line e)) c else secondOf (turned l) (backN line e (fits (paths (turned l)) line e)) | none => secondOf (turned l) (backN line e (fits (paths (turned l)) line e)))) := Lib.hid rfl
    obtain ⟨t, hc4, htr⟩ := HK4.out.tree
    have HTR := Lib.hid htr
    have HX0 : Hid (∀ X, Below w4.heap.size w4 X → X.cell? ⟨x, 0, none⟩ = some (.pointer (some ⟨t, 0, none⟩))) := Lib.hid fun X hX => (hX.cell (p := ⟨x, 0, none⟩) (World.block_lt_of_cell? w4 _ hc4)).trans hc4
    have LL4 := Lib.hid (LL.out w4 HB4.out)
    clear he htr hc4 HK4 LL htt
    generalize hp : paths (turned l) = p at *
    generalize hq : turned l = q at *
    clear hp hq
    go_wp2
    have hfe := fits_le p line e
    go_loopw [13, 14] (fun vv vn wr => ∃ V n d : Nat, ∃ hV : V < p.length, n ≤ e ∧ vv = .int .i64 (V : Int) ∧ vn = .int .i64 (n : Int) ∧ p[V] = backN line e n ∧ n ≤ fits p line e ∧ wr = w4.drewN d) (fun _ vn _ => e - (intOf vn).toNat)
    case atStart => exact ⟨0, 0, 0, HPW.out.pos, Nat.zero_le _, rfl, rfl, by rw [HPW.out.at0, backN_zero], Nat.zero_le _, rfl⟩
    case round =>
      obtain ⟨V, n, d, hV, hn, rfl, rfl, hpV, hnf, rfl⟩ := hrel
      have HBD : Hid (Below w4.heap.size w4 (w4.drewN d)) := Lib.hid (below_drews (Below.refl _ _) d)
      have HPV := Lib.hid hpV
      have HNF := Lib.hid hnf
      have hvw : (Lit.int .i64 (V : Int)).wf = true := wf_nat (by omega) (by omega)
      clear hpV hnf
      by_cases hne : n < e
      · have hnei : (n : Int) < (e : Int) := by omega
        obtain ⟨I1, hI1⟩ : ∃ I1, I1 = e - 1 := ⟨_, rfl⟩
        obtain ⟨I, hI⟩ : ∃ I, I = I1 - n := ⟨_, rfl⟩
        have hw1 : IntKind.i64.wrap ((e : Int) - 1) = (I1 : Int) := by rw [IntWalk.i64_in _ (by omega)]; omega
        have hw2 : IntKind.i64.wrap ((I1 : Int) - (n : Int)) = (I : Int) := by rw [IntWalk.i64_in _ (by omega)]; omega
        have hIl : I < line.length := by omega
        have hIi : (I : Int) < (line.length : Int) := by omega
        obtain ⟨bl, ol, rfl, hbl, hcs⟩ := LL4.out.1 (by omega)
        have hyc := hcs I hIl
        have HSU : Hid (backN line e (n + 1) = backN line e n ++ [line[I]]) := Lib.hid (by
          rw [backN_succ hel hne]
          simp only [hI, hI1])
        obtain ⟨y, hy⟩ : ∃ y, y = line[I] := ⟨_, rfl⟩
        rw [← hy] at hyc HSU
        have hgy : line[I]? = some y := by rw [hy]; exact List.getElem?_eq_getElem hIl
        have HGY := Lib.hid hgy
        have HI := Lib.hid (And.intro hI hI1)
        have HST : Hid (∀ X, Below w4.heap.size w4 X → Calls Try.prog 23 #[.pointer (some ⟨t, 0, none⟩), .int .i64 (V : Int), .int .u8 (y.toNat : Int)] X fun e' w' => e' = .returned (.int .i64 (place p (backN line e (n + 1)))) ∧ X = w') := Lib.hid fun X hX => by
          have := step_any X _ t p q (HTR.out.keep hX) (V : Int) hvw y
          rwa [stepOf_at hV, HPV.out, ← HSU.out] at this
        have hcx : w4.cell? ⟨x, 0, none⟩ = some (.pointer (some ⟨t, 0, none⟩)) := HX0.out w4 (Below.refl _ _)
        have hyc2 : (w4.drewN d).cell? ⟨bl, ol + I, none⟩ = some (.int .u8 (y.toNat : Int)) := hyc
        have hcx2 : (w4.drewN d).cell? ⟨x, 0, none⟩ = some (.pointer (some ⟨t, 0, none⟩)) := hcx
        clear hcs hy hgy hI hI1 hvw
        by_cases hin : backN line e (n + 1) ∈ p
        · have hpl : place p (backN line e (n + 1)) = ((p.idxOf (backN line e (n + 1)) : Nat) : Int) := by rw [place, if_pos hin]
          obtain ⟨U, hU⟩ : ∃ U, U = p.idxOf (backN line e (n + 1)) := ⟨_, rfl⟩
          have hUl : U < p.length := by rw [hU]; exact List.idxOf_lt_length_iff.2 hin
          have HUP : Hid (p[U] = backN line e (n + 1)) := Lib.hid (by simp only [hU]; exact List.getElem_idxOf _)
          have HNF2 := Lib.hid ((fits_next hne HNF.out).1 hin)
          rw [hpl, ← hU] at HST
          clear hpl hU hin
          go_wp2_with fail
          go_quiet (exact (HST.out _ (below_drews (Below.refl _ _) _)).mono fun _ _ ⟨he, hm⟩ => ⟨he, _, hm.symm⟩)
          go_wp2
          exact ⟨⟨U, n + 1, d + nq, hUl, by omega, rfl, by go_num, HUP.out, HNF2.out, rfl⟩, by simp [intOf]; omega⟩
        · have hpl : place p (backN line e (n + 1)) = -1 := place_not hin
          rw [hpl] at HST
          have HNF2 : Hid (n = fits p line e) := Lib.hid (by
            have h1 : ¬ n < fits p line e := fun h => hin ((fits_next hne HNF.out).2 h)
            have := HNF.out
            omega)
          clear hpl hin
          go_wp2_with fail
          go_quiet (exact (HST.out _ (below_drews (Below.refl _ _) _)).mono fun _ _ ⟨he, hm⟩ => ⟨he, _, hm.symm⟩)
          go_wp2_with fail
          have HSE : Hid (∀ X, Below w4.heap.size w4 X → Calls Try.prog 16 #[.pointer sp, .int .i64 (V : Int)] X fun e' w' => e' = .returned (.int .i64 (secondOf q p[V] : Int)) ∧ Below X.heap.size X w') := Lib.hid fun X hX => by
            have := ssecond_any X sp l (HS4.out.keep hX) (V : Int) (wf_nat (by omega) (by omega))
            rwa [HF2.out V hV] at this
          refine (HSE.out _ (below_drews (Below.refl _ _) (d + nq))).mono ?_
          rintro e' v1 ⟨rfl, hv1⟩
          have D1 : Hid (Below w4.heap.size w4 v1) := Lib.hid (((below_drews (Below.refl _ _) (d + nq)) : Below w4.heap.size w4 _).trans (hv1.mono ((below_drews (Below.refl _ _) (d + nq)) : Below w4.heap.size w4 _).size))
          clear hv1
          have HFA : Hid (∀ X, Below w4.heap.size w4 X → Calls Try.prog 18 #[.pointer sp, .int .i64 (V : Int), .int .u8 (y.toNat : Int)] X fun e' w' => e' = .returned (.int .i64 (farOf q p p[V] y : Int)) ∧ Below X.heap.size X w') := Lib.hid fun X hX => by
            have := sfar_any X sp l (HS4.out.keep hX) (V : Int) (wf_nat (by omega) (by omega)) y
            rwa [HF3.out V hV y] at this
          have hyc3 : v1.cell? ⟨bl, ol + I, none⟩ = some (.int .u8 (y.toNat : Int)) := (D1.out.cell (p := ⟨bl, ol + I, none⟩) hbl).trans hyc
          obtain ⟨FV, hFV⟩ : ∃ FV, FV = farOf q p p[V] y := ⟨_, rfl⟩
          have HFM : Hid (moveOf l line e = FV) := Lib.hid (by
            have hnl : (backN line e n).length = n := backN_len hel hn
            have hIe : e - 1 - n = I := by have := HI.out; omega
            rw [HMO.out, ← HNF2.out, hnl, hIe, HGY.out]
            show (if n < e then _ else _) = _
            rw [if_pos hne, hFV, HPV.out])
          rw [← hFV] at HFA
          clear hFV
          go_wp2_with fail
          refine (HFA.out _ D1.out).mono ?_
          rintro e' v2 ⟨rfl, hv2⟩
          have D2 : Hid (Below w4.heap.size w4 v2) := Lib.hid (D1.out.trans (hv2.mono D1.out.size))
          clear hv2
          have hcv := str_of_bs cline (LL4.out.keep D2.out).1
          have HOC : Hid (Calls Try.prog 24 #[.string (str line), .slice aL xs.length cL] v2 (Prs.Gives v2 (Spa.occTo l line line.length))) := Lib.hid (by
            have := Spa.rocc_any v2 line l aL cL (HSL.out.keep (HB4.out.trans (D2.out.mono HB4.out.size))) (by have := HLN.out; omega) (fun z h => Nat.le_trans (HL40.out z h) (by omega)) (by omega)
            rwa [← HLN.out] at this)
          go_wp2_with fail
          refine HOC.out.mono ?_
          rintro e' u2 ⟨aO, cO, rfl, _, _, hpo, hb2⟩
          have HB2 := Lib.hid (HB.out.trans ((HB4.out.trans ((D2.out.trans (hb2.mono D2.out.size)).mono HB4.out.size)).mono HB.out.size))
          have HPO := Lib.hid hpo
          have HMEM : Hid (∀ r ∈ Spa.occTo l line line.length, ∃ a b : Nat, r.s = (a : Int) ∧ r.e = (b : Int) ∧ b ≤ line.length ∧ (e < b → e + FV ≤ b)) := Lib.hid fun r hr => by
            obtain ⟨a, b, _, h2, h3, h4, rfl⟩ := (Spa.mem_occ l line r line.length (Nat.le_refl _)).1 hr
            exact ⟨a, b, rfl, rfl, h3, fun h => by have := HMV.out a b h h3 h2 h4; rwa [HFM.out] at this⟩
          clear hpo hb2 hcv HOC
          have hol : (Spa.occTo l line line.length).length ≤ 10000 := by have h1 := Spa.occTo_len l line line.length; have h2 := Nat.mul_le_mul hll hll; omega
          generalize Spa.occTo l line line.length = O at *
          go_wp2
          go_loopw [18] (fun v wr => ∃ i d2 : Nat, i ≤ O.length ∧ v = .int .i64 (i : Int) ∧ wr = u2.drewN d2) (fun v _ => O.length - (intOf v).toNat)
          case atStart => exact ⟨0, 0, Nat.zero_le _, rfl, rfl⟩
          case round =>
            obtain ⟨i, d2, hi, rfl, rfl⟩ := hrel
            by_cases hlt : i < O.length
            · have hil : (i : Int) < (O.length : Int) := by omega
              obtain ⟨bO, oO, rfl, _, hcO⟩ := HPO.out (by omega)
              obtain ⟨hc1, hc2⟩ := hcO i hlt
              obtain ⟨ra, rb, hra, hrb, hrl, hrf⟩ := HMEM.out _ (List.getElem_mem hlt)
              rw [hrb] at hc2
              have hc3 : (u2.drewN d2).cell? ⟨bO, oO + i * 2 + 1, none⟩ = some (.int .i64 (rb : Int)) := hc2
              have HRF := Lib.hid hrf
              clear hcO hc1 hra hrb hrf
              by_cases hgt : e < rb
              · have hgti : (e : Int) < (rb : Int) := by omega
                have hle := HRF.out hgt
                obtain ⟨df, hdf⟩ : ∃ df, df = rb - e := ⟨_, rfl⟩
                have hwd : IntKind.i64.wrap ((rb : Int) - (e : Int)) = (df : Int) := by rw [IntWalk.i64_in _ (by omega)]; omega
                have hnl : ¬ (df : Int) < (FV : Int) := by omega
                clear hdf hle
                go_wp2
                exact ⟨⟨i + 1, d2, by omega, by go_num, rfl⟩, by simp [intOf]; omega⟩
              · have hgti : ¬ (e : Int) < (rb : Int) := by omega
                go_wp2
                exact ⟨⟨i + 1, d2, by omega, by go_num, rfl⟩, by simp [intOf]; omega⟩
            · have hil : ¬ (i : Int) < (O.length : Int) := by omega
              go_wp2
              go_ret
              exact ⟨rfl, below_drews HB2.out d2⟩
      · have hnei : ¬ (n : Int) < (e : Int) := by omega
        obtain rfl : n = e := by omega
        go_wp2_with fail
        have HSE : Hid (∀ X, Below w4.heap.size w4 X → Calls Try.prog 16 #[.pointer sp, .int .i64 (V : Int)] X fun e' w' => e' = .returned (.int .i64 (secondOf q p[V] : Int)) ∧ Below X.heap.size X w') := Lib.hid fun X hX => by
          have := ssecond_any X sp l (HS4.out.keep hX) (V : Int) (wf_nat (by omega) (by omega))
          rwa [HF2.out V hV] at this
        refine (HSE.out _ HBD.out).mono ?_
        rintro e' v1 ⟨rfl, hv1⟩
        have D1 : Hid (Below w4.heap.size w4 v1) := Lib.hid ((HBD.out : Below w4.heap.size w4 _).trans (hv1.mono (HBD.out : Below w4.heap.size w4 _).size))
        clear hv1
        obtain ⟨FV, hFV⟩ : ∃ FV, FV = secondOf q p[V] := ⟨_, rfl⟩
        have HFM : Hid (moveOf l line n = FV) := Lib.hid (by
          have hff : fits p line n = n := by have := HNF.out; omega
          have hnl : (backN line n n).length = n := backN_len hel hn
          rw [HMO.out, hff, hnl]
          rw [hFV, HPV.out]
          split
          · exact if_neg (Nat.lt_irrefl _)
          · rfl)
        rw [← hFV]
        clear hFV
        have hcv := str_of_bs cline (LL4.out.keep D1.out).1
        have HOC : Hid (Calls Try.prog 24 #[.string (str line), .slice aL xs.length cL] v1 (Prs.Gives v1 (Spa.occTo l line line.length))) := Lib.hid (by
          have := Spa.rocc_any v1 line l aL cL (HSL.out.keep (HB4.out.trans (D1.out.mono HB4.out.size))) (by have := HLN.out; omega) (fun z h => Nat.le_trans (HL40.out z h) (by omega)) (by omega)
          rwa [← HLN.out] at this)
        go_wp2_with fail
        refine HOC.out.mono ?_
        rintro e' u2 ⟨aO, cO, rfl, _, _, hpo, hb2⟩
        have HB2 := Lib.hid (HB.out.trans ((HB4.out.trans ((D1.out.trans (hb2.mono D1.out.size)).mono HB4.out.size)).mono HB.out.size))
        have HPO := Lib.hid hpo
        have HMEM : Hid (∀ r ∈ Spa.occTo l line line.length, ∃ a b : Nat, r.s = (a : Int) ∧ r.e = (b : Int) ∧ b ≤ line.length ∧ (n < b → n + FV ≤ b)) := Lib.hid fun r hr => by
          obtain ⟨a, b, _, h2, h3, h4, rfl⟩ := (Spa.mem_occ l line r line.length (Nat.le_refl _)).1 hr
          exact ⟨a, b, rfl, rfl, h3, fun h => by have := HMV.out a b h h3 h2 h4; rwa [HFM.out] at this⟩
        clear hpo hb2 hcv HOC
        have hol : (Spa.occTo l line line.length).length ≤ 10000 := by have h1 := Spa.occTo_len l line line.length; have h2 := Nat.mul_le_mul hll hll; omega
        generalize Spa.occTo l line line.length = O at *
        go_wp2
        go_loopw [18] (fun v wr => ∃ i d2 : Nat, i ≤ O.length ∧ v = .int .i64 (i : Int) ∧ wr = u2.drewN d2) (fun v _ => O.length - (intOf v).toNat)
        case atStart => exact ⟨0, 0, Nat.zero_le _, rfl, rfl⟩
        case round =>
          obtain ⟨i, d2, hi, rfl, rfl⟩ := hrel
          by_cases hlt : i < O.length
          · have hil : (i : Int) < (O.length : Int) := by omega
            obtain ⟨bO, oO, rfl, _, hcO⟩ := HPO.out (by omega)
            obtain ⟨hc1, hc2⟩ := hcO i hlt
            obtain ⟨ra, rb, hra, hrb, hrl, hrf⟩ := HMEM.out _ (List.getElem_mem hlt)
            rw [hrb] at hc2
            have hc3 : (u2.drewN d2).cell? ⟨bO, oO + i * 2 + 1, none⟩ = some (.int .i64 (rb : Int)) := hc2
            have HRF := Lib.hid hrf
            clear hcO hc1 hra hrb hrf
            by_cases hgt : n < rb
            · have hgti : (n : Int) < (rb : Int) := by omega
              have hle := HRF.out hgt
              obtain ⟨df, hdf⟩ : ∃ df, df = rb - n := ⟨_, rfl⟩
              have hwd : IntKind.i64.wrap ((rb : Int) - (n : Int)) = (df : Int) := by rw [IntWalk.i64_in _ (by omega)]; omega
              have hnl : ¬ (df : Int) < (FV : Int) := by omega
              clear hdf hle
              go_wp2
              exact ⟨⟨i + 1, d2, by omega, by go_num, rfl⟩, by simp [intOf]; omega⟩
            · have hgti : ¬ (n : Int) < (rb : Int) := by omega
              go_wp2
              exact ⟨⟨i + 1, d2, by omega, by go_num, rfl⟩, by simp [intOf]; omega⟩
          · have hil : ¬ (i : Int) < (O.length : Int) := by omega
            go_wp2
            go_ret
            exact ⟨rfl, below_drews HB2.out d2⟩
  · have hlli : (100 : Int) < (line.length : Int) := by omega
    go_wp2
    go_ret
    exact ⟨rfl, HB.out⟩
theorem walk (w : World) (xs : List TxV) (a0 : Option Addr) (cap0 : Nat) (hz0 : xs.length ≤ 6000000000000) (hx0 : ∀ x ∈ xs, x.text.length ≤ maxLen) (hts : Ts w a0 xs) (line : Tx) (aline : Option Addr) (cline : Nat) (hmline : line.length ≤ maxLen) (hbline : Bs w w.heap.size aline line) (hnline : aline = none → cline = 0) (hcline : line.length ≤ cline) (at' : UInt8) :
    Calls Try.prog 6 #[.slice a0 xs.length cap0, .slice aline line.length cline, .int .u8 (at'.toNat : Int)] w fun e w' => e = .returned (.bool true) ∧ Below w.heap.size w w' := by
  by_cases hall : xs.length ≤ 12 ∧ (∀ x ∈ xs, x.text.length ≤ 40)
  · exact small w xs a0 cap0 hts hall.1 hall.2 line aline cline hmline hbline hnline hcline at'
  · clear hmline hbline hnline hcline
    have HALL := Lib.hid hall
    have HX := Lib.hid hx0
    clear hall hx0
    go_enter Try.func6, Try.ntmps6
    go_wp2_with fail
    refine (Shf.awake_any _).mono ?_
    rintro e' w1 ⟨rfl, hb2⟩
    have ts1 := hts.keep hb2
    go_wp2_with fail
    refine (ltexts_any xs a0 cap0 w1 ts1 hz0 HX.out).mono ?_
    rintro e' w2 ⟨hb3, hcase⟩
    have B2 := hb2.trans (hb3.mono hb2.size)
    rcases hcase with ⟨_, rfl⟩ | ⟨hok, aL, cL, rfl, _⟩
    · go_wp2
      go_ret
      exact ⟨rfl, B2⟩
    · have h12 : ¬ xs.length ≤ 12 := fun h => HALL.out ⟨h, hok⟩
      rw [decide_eq_false h12]
      clear HALL hok
      go_wp2
      go_ret
      exact ⟨rfl, B2⟩
end Go.Proofs.Ytgdpelpepgpegaa.shiftsSafe
