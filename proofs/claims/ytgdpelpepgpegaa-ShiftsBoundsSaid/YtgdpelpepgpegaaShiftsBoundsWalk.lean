/- The walk of ShiftsBounds. -/
import Derived.Test.YtgdpelpepgpegaaHc
namespace Go.Proofs.Ytgdpelpepgpegaa.shiftsBounds
open Go.Proofs.Ytgdpelpepgpegaa.Tri Go.Proofs.Ytgdpelpepgpegaa.Cwl Go.Proofs.Ytgdpelpepgpegaa.Bck Go.Proofs.Ytgdpelpepgpegaa.Shf Go.Proofs.Ytgdpelpepgpegaa.Lit Go.Proofs.Ytgdpelpepgpegaa.Reg Go.RowKit Go.Maps
set_option maxRecDepth 100000
set_option linter.unusedVariables false
theorem least_nil {q : List Tx} (h0 : ∀ z ∈ q, 0 < z.length) : Cwl.leastOf q = 0 ↔ q = [] := by
  constructor
  · intro h
    by_cases e : q = []
    · exact e
    · have := least_pos h0 e
      omega
  · rintro rfl; rfl
theorem bounds_zero {q p : List Tx} (h0 : ∀ z ∈ q, 0 < z.length) (hn : Cwl.leastOf q = 0) (s : Tx) (c : UInt8) : firstOf q p s = 0 ∧ secondOf q s = 0 ∧ farOf q p s c = 0 := by
  have h1 := first_le q p s
  have h2 := second_le q s
  have h3 := far_le q p s c
  omega
theorem bounds_pos {q p : List Tx} (h0 : ∀ z ∈ q, 0 < z.length) (hn : Cwl.leastOf q ≠ 0) (s : Tx) (c : UInt8) : (1 ≤ firstOf q p s ∧ firstOf q p s ≤ Cwl.leastOf q) ∧ (1 ≤ secondOf q s ∧ secondOf q s ≤ Cwl.leastOf q) ∧ 1 ≤ farOf q p s c ∧ farOf q p s c ≤ secondOf q s := by
  have hq : q ≠ [] := fun e => hn ((least_nil h0).2 e)
  have h1 := first_le q p s
  have h2 := second_le q s
  have h3 := far_le q p s c
  have h4 := far_pos (p := p) h0 hq s c
  have h5 : 0 < secondOf q s := min_pos (by omega) _
  have h6 : 0 < firstOf q p s := min_pos (by omega) _
  omega
theorem up_le {q p : List Tx} (hw : Wf p) {i : Nat} (hi : i < p.length) (h0 : 0 < i) : ∃ u, ∃ hu : u < p.length, upOf p (i : Int) = (u : Int) ∧ secondOf q p[i] ≤ secondOf q p[u] := by
  have hn : p[i] ≠ [] := fun e => by have := (hw.nil_iff hi).1 e; omega
  have hm := hw.closed_drop (List.getElem_mem hi) hn
  refine ⟨p.idxOf p[i].dropLast, List.idxOf_lt_length_iff.2 hm, ?_, ?_⟩
  · rw [upOf_at hi, if_neg hn, place, if_pos hm]
  · have e : p[p.idxOf p[i].dropLast]'(List.idxOf_lt_length_iff.2 hm) = p[i].dropLast := List.getElem_idxOf _
    rw [e, List.dropLast_eq_take]
    exact second_way q p[i] _ (by omega)

set_option maxHeartbeats 8000000 in
theorem small (w : World) (xs : List TxV) (a0 : Option Addr) (cap0 : Nat) (hts : Ts w a0 xs) (h0 : xs.length ≤ 12) (hx : ∀ x ∈ xs, x.text.length ≤ 40) (c : UInt8) :
    Calls Try.prog 5 #[.slice a0 xs.length cap0, .int .u8 (c.toNat : Int)] w fun e w' => e = .returned (.bool true) ∧ Below w.heap.size w w' := by
  have hx' : ∀ x ∈ xs, x.text.length ≤ maxLen := fun x h => Nat.le_trans (hx x h) (by unfold maxLen; omega)
  have htot := Spa.few_tot h0 hx
  have HX := Lib.hid hx
  have HX' := Lib.hid hx'
  have HAW := Lib.hid (Shf.awake_any w)
  clear hx hx'
  go_enter Try.func5, Try.ntmps5
  go_wp2_with fail
  refine HAW.out.mono ?_
  rintro e' w1 ⟨rfl, hb2⟩
  have ts1 := hts.keep hb2
  go_wp2_with fail
  refine (ltexts_any xs a0 cap0 w1 ts1 (by omega) HX'.out).mono ?_
  rintro e' w2 ⟨hb3, hcase⟩
  rcases hcase with ⟨hbad, _⟩ | ⟨_, aL, cL, rfl, hsL⟩
  · exact absurd HX.out hbad
  rw [decide_eq_true h0]
  have HTS := Lib.hid (ts1.keep hb3)
  have HB := Lib.hid (hb2.trans (hb3.mono hb2.size))
  have hszw := HB.out.size
  obtain ⟨l, hl⟩ : ∃ l, l = xs.map TxV.text := ⟨_, rfl⟩
  have HBU : Hid (∀ X, Below w2.heap.size w2 X → Calls Try.prog 11 #[.slice a0 xs.length cap0] X (GivesBk X l)) := Lib.hid fun X hX => by
    have := bbuild_any X xs a0 cap0 (HTS.out.keep hX) (by omega) (fun x h => Nat.le_trans (HX.out x h) (by omega))
    rwa [← hl] at this
  have HLN : Hid (xs.length = l.length) := Lib.hid (by rw [hl]; simp)
  have HLL := Lib.hid hl
  have HL40 : Hid (∀ x ∈ l, x.length ≤ 40) := Lib.hid fun x h => by
    rw [hl] at h
    obtain ⟨y, hy, rfl⟩ := List.mem_map.1 h
    exact HX.out y hy
  rw [← hl] at hsL htot
  have HSL := Lib.hid hsL
  have HTD : Hid (∀ X, Below w2.heap.size w2 X → Calls Try.prog 12 #[.slice aL xs.length cL] X (GivesSs X (turned l))) := Lib.hid fun X hX => by
    have := rturned_any X l aL cL (HSL.out.keep hX) (by rw [← HLN.out]; omega) (fun x h => Nat.le_trans (HL40.out x h) (by omega))
    rwa [← HLN.out] at this
  have HT40 : Hid (∀ x ∈ turned l, x.length ≤ 40) := Lib.hid fun x h => by
    have := HL40.out _ ((mem_turned l x).1 h).2
    rwa [List.length_reverse] at this
  have htl : (turned l).length ≤ 12 := by have := turned_len l; have := HLN.out; omega
  have htt := turned_tot l
  clear HAW hb2 hb3 ts1 hsL hts hl HX'
  go_wp2_with fail
  refine (HBU.out w2 (Below.refl _ _)).mono ?_
  rintro e w3 ⟨x, rfl, hk, hb3⟩
  have HB3 := Lib.hid hb3
  have HK := Lib.hid hk
  clear hb3 hk
  go_wp2_with fail
  refine (sbuild_any w3 x l HK.out (by omega)).mono ?_
  rintro e w4 ⟨sp, rfl, hsh, hb4⟩
  have HB4 := Lib.hid (HB3.out.trans (hb4.mono HB3.out.size))
  have HK4 := Lib.hid (HK.out.keep hb4)
  have HS4 := Lib.hid hsh
  clear hb4 hsh HK
  have hps : (paths (turned l)).length ≤ 481 := by have := paths_len (turned l); omega
  have hq0 : ∀ z ∈ turned l, 0 < z.length := fun z h => turned_ne h
  have HF1 := Lib.hid (fun i h => @fstN_at l i h)
  have HF2 := Lib.hid (fun i h => @sndN_at l i h)
  have HF3 := Lib.hid (fun i h => @farN_at l i h)
  have HPW := Lib.hid (paths_wf (turned l))
  go_wp2_with fail
  refine (bleast_any w4 x l HK4.out).mono ?_
  rintro e w5 ⟨rfl, hb5⟩
  have HB5 := Lib.hid (HB4.out.trans (hb5.mono HB4.out.size))
  have HS5 := Lib.hid (HS4.out.keep hb5)
  obtain ⟨t, hc5, htr⟩ := (HK4.out.keep hb5).tree
  have HTR := Lib.hid htr
  have HX0 : Hid (∀ X, Below w5.heap.size w5 X → X.cell? ⟨x, 0, none⟩ = some (.pointer (some ⟨t, 0, none⟩))) := Lib.hid fun X hX => (hX.cell (p := ⟨x, 0, none⟩) (World.block_lt_of_cell? w5 _ hc5)).trans hc5
  clear hb5 htr HK4 HS4 hc5 htt
  generalize hp : paths (turned l) = p at *
  generalize hq : turned l = q at *
  have HQ0 := Lib.hid hq0
  clear hp hq hq0
  have HNO := Lib.hid (fun X (hX : Below w5.heap.size w5 X) => nodes_any X _ t p q (HTR.out.keep hX))
  go_wp2
  obtain ⟨n, hn⟩ : ∃ n, n = Cwl.leastOf q := ⟨_, rfl⟩
  rw [← hn]
  have HN := Lib.hid hn
  clear hn
  go_loopw [11] (fun v wr => ∃ k : Nat, k ≤ p.length ∧ v = .int .i64 (k : Int) ∧ Below w5.heap.size w5 wr) (fun v _ => p.length - (intOf v).toNat)
  case atStart => exact ⟨0, Nat.zero_le _, rfl, Below.refl _ _⟩
  case round =>
    obtain ⟨k, hk, rfl, hbel⟩ := hrel
    have HBE := Lib.hid hbel
    have hcx := HX0.out wr hbel
    clear hbel
    go_wp2_with fail
    refine (HNO.out wr HBE.out).mono ?_
    rintro e wr' ⟨rfl, rfl⟩
    by_cases hlt : k < p.length
    · have hkl : (k : Int) < (p.length : Int) := by omega
      have hkw : (Lit.int .i64 (k : Int)).wf = true := wf_nat (by omega) (by omega)
      have HC1 : Hid (∀ X, Below w5.heap.size w5 X → Calls Try.prog 14 #[.pointer sp, .int .i64 (k : Int)] X fun e w' => e = .returned (.int .i64 (firstOf q p p[k] : Int)) ∧ Below X.heap.size X w') := Lib.hid fun X hX => by
        have := sfirst_any X sp l (HS5.out.keep hX) (k : Int) hkw
        rwa [HF1.out k hlt] at this
      have HC2 : Hid (∀ X, Below w5.heap.size w5 X → Calls Try.prog 16 #[.pointer sp, .int .i64 (k : Int)] X fun e w' => e = .returned (.int .i64 (secondOf q p[k] : Int)) ∧ Below X.heap.size X w') := Lib.hid fun X hX => by
        have := ssecond_any X sp l (HS5.out.keep hX) (k : Int) hkw
        rwa [HF2.out k hlt] at this
      have HC3 : Hid (∀ X, Below w5.heap.size w5 X → Calls Try.prog 18 #[.pointer sp, .int .i64 (k : Int), .int .u8 (c.toNat : Int)] X fun e w' => e = .returned (.int .i64 (farOf q p p[k] c : Int)) ∧ Below X.heap.size X w') := Lib.hid fun X hX => by
        have := sfar_any X sp l (HS5.out.keep hX) (k : Int) hkw c
        rwa [HF3.out k hlt c] at this
      have HZ : Hid (n = 0 → firstOf q p p[k] = 0 ∧ secondOf q p[k] = 0 ∧ farOf q p p[k] c = 0) := Lib.hid fun h => bounds_zero HQ0.out (HN.out.symm.trans h) p[k] c
      have HPO : Hid (n ≠ 0 → (1 ≤ firstOf q p p[k] ∧ firstOf q p p[k] ≤ n) ∧ (1 ≤ secondOf q p[k] ∧ secondOf q p[k] ≤ n) ∧ 1 ≤ farOf q p p[k] c ∧ farOf q p p[k] c ≤ secondOf q p[k]) := Lib.hid fun h => by
        have := bounds_pos (p := p) HQ0.out (fun e => h (HN.out.trans e)) p[k] c
        rwa [← HN.out] at this
      have HUP : Hid (0 < k → ∃ u, ∃ hu : u < p.length, upOf p (k : Int) = (u : Int) ∧ secondOf q p[k] ≤ secondOf q p[u]) := Lib.hid fun h => up_le HPW.out hlt h
      have HPAR := Lib.hid (fun X (hX : Below w5.heap.size w5 X) => parent_any X _ t p q (HTR.out.keep hX) (k : Int))
      clear hkw
      generalize firstOf q p p[k] = fv at *
      generalize farOf q p p[k] c = av at *
      generalize secondOf q p[k] = sv at *
      go_wp2_with fail
      refine (HC1.out _ HBE.out).mono ?_
      rintro e v1 ⟨rfl, hv1⟩
      have D1 := Lib.hid (HBE.out.trans (hv1.mono HBE.out.size))
      clear hv1
      go_wp2_with fail
      refine (HC2.out _ D1.out).mono ?_
      rintro e v2 ⟨rfl, hv2⟩
      have D2 := Lib.hid (D1.out.trans (hv2.mono D1.out.size))
      clear hv2
      go_wp2_with fail
      refine (HC3.out _ D2.out).mono ?_
      rintro e v3 ⟨rfl, hv3⟩
      have D3 := Lib.hid (D2.out.trans (hv3.mono D2.out.size))
      clear hv3 HC1 HC2 HC3 D1 D2
      by_cases hn0 : n = 0
      · obtain ⟨z1, z2, z3⟩ := HZ.out hn0
        have hnb : ((n : Int) == 0) = true := by simp [hn0]
        subst z1 z2 z3
        clear hn0
        go_wp2
        exact ⟨⟨k + 1, by omega, by go_num, D3.out⟩, by simp [intOf]; omega⟩
      · have hnb : ((n : Int) == 0) = false := by simp [hn0]
        obtain ⟨⟨b1, b2⟩, ⟨b3, b4⟩, b5, b6⟩ := HPO.out hn0
        have i1 : ¬ (fv : Int) < 1 := by omega
        have i2 : ¬ (n : Int) < (fv : Int) := by omega
        have i3 : ¬ (sv : Int) < 1 := by omega
        have i4 : ¬ (n : Int) < (sv : Int) := by omega
        have i5 : ¬ (av : Int) < 1 := by omega
        have i6 : ¬ (sv : Int) < (av : Int) := by omega
        clear hn0 b1 b2 b3 b4 b5 b6
        by_cases hk0 : 0 < k
        · have hki : (0 : Int) < (k : Int) := by omega
          obtain ⟨u, hu, hup, hle⟩ := HUP.out hk0
          have hcx3 := HX0.out v3 D3.out
          have HSU : Hid (∀ X, Below w5.heap.size w5 X → Calls Try.prog 16 #[.pointer sp, .int .i64 (u : Int)] X fun e w' => e = .returned (.int .i64 (secondOf q p[u] : Int)) ∧ Below X.heap.size X w') := Lib.hid fun X hX => by
            have := ssecond_any X sp l (HS5.out.keep hX) (u : Int) (wf_nat (by omega) (by omega))
            rwa [HF2.out u hu] at this
          rw [hup] at HPAR
          have i7 : ¬ (secondOf q p[u] : Int) < (sv : Int) := by omega
          generalize secondOf q p[u] = tv at *
          clear hle hup hcx
          go_wp2_with fail
          refine (HPAR.out _ D3.out).mono ?_
          rintro e v4 ⟨rfl, hv4⟩
          have D4 := Lib.hid (D3.out.trans (hv4.mono D3.out.size))
          clear hv4
          go_wp2_with fail
          refine (HSU.out _ D4.out).mono ?_
          rintro e v5 ⟨rfl, hv5⟩
          have D5 := Lib.hid (D4.out.trans (hv5.mono D4.out.size))
          clear hv5
          go_wp2
          exact ⟨⟨k + 1, by omega, by go_num, D5.out⟩, by simp [intOf]; omega⟩
        · obtain rfl : k = 0 := by omega
          clear hk0 hcx
          go_wp2
          exact ⟨⟨1, by omega, rfl, D3.out⟩, by simp [intOf]; omega⟩
    · have hkl : ¬ (k : Int) < (p.length : Int) := by omega
      go_wp2
      go_ret
      exact ⟨rfl, HB.out.trans ((HB5.out.trans (HBE.out.mono HB5.out.size)).mono HB.out.size)⟩
theorem walk (w : World) (xs : List TxV) (a0 : Option Addr) (cap0 : Nat) (hz0 : xs.length ≤ 6000000000000) (hx0 : ∀ x ∈ xs, x.text.length ≤ maxLen) (hts : Ts w a0 xs) (c : UInt8) :
    Calls Try.prog 5 #[.slice a0 xs.length cap0, .int .u8 (c.toNat : Int)] w fun e w' => e = .returned (.bool true) ∧ Below w.heap.size w w' := by
  by_cases hall : xs.length ≤ 12 ∧ (∀ x ∈ xs, x.text.length ≤ 40)
  · exact small w xs a0 cap0 hts hall.1 hall.2 c
  · have HALL := Lib.hid hall
    have HX := Lib.hid hx0
    clear hall hx0
    go_enter Try.func5, Try.ntmps5
    go_wp2_with fail
    refine (Shf.awake_any _).mono ?_
    rintro e' w1 ⟨rfl, hb2⟩
    have ts1 := hts.keep hb2
    go_wp2_with fail
    refine (ltexts_any xs a0 cap0 w1 ts1 hz0 HX.out).mono ?_
    rintro e' w2 ⟨hb3, hcase⟩
    have B2 := hb2.trans (hb3.mono hb2.size)
    rcases hcase with ⟨_, rfl⟩ | ⟨hok, aL, cL, rfl, _⟩
    · go_wp2
      go_ret
      exact ⟨rfl, B2⟩
    · have h12 : ¬ xs.length ≤ 12 := fun h => HALL.out ⟨h, hok⟩
      rw [decide_eq_false h12]
      clear HALL hok
      go_wp2
      go_ret
      exact ⟨rfl, B2⟩
end Go.Proofs.Ytgdpelpepgpegaa.shiftsBounds
