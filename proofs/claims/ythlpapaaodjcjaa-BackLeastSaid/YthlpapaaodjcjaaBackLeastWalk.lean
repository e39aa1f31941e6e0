/- The walk of BackLeast. -/
import Derived.Test.YthlpapaaodjcjaaBc
namespace Go.Proofs.Ythlpapaaodjcjaa.backLeast
open Go.Proofs.Ythlpapaaodjcjaa.Tri Go.Proofs.Ythlpapaaodjcjaa.Cwl Go.Proofs.Ythlpapaaodjcjaa.Bck Go.Proofs.Ythlpapaaodjcjaa.Reg Go.RowKit Go.Maps
set_option maxRecDepth 100000
set_option linter.unusedVariables false
/-- Has one of the first i texts so many bytes? -/
def isB (l : List Tx) (n i : Nat) : Bool := decide (n = 0 ∨ ∃ x ∈ l.take i, x ≠ [] ∧ x.length = n)
theorem isB_zero (l : List Tx) (n : Nat) : isB l n 0 = decide (n = 0) := by simp [isB]
theorem isB_step {l : List Tx} {n i : Nat} (h : i < l.length) : isB l n (i + 1) = (isB l n i || decide (l[i] ≠ [] ∧ l[i].length = n)) := by
  unfold isB
  rw [List.take_succ_eq_append_getElem h, Bool.eq_iff_iff]
  simp only [decide_eq_true_eq, Bool.or_eq_true, List.mem_append, List.mem_singleton]
  constructor
  · rintro (h0 | ⟨x, hx | rfl, hp⟩)
    · exact .inl (.inl h0)
    · exact .inl (.inr ⟨x, hx, hp⟩)
    · exact .inr hp
  · rintro ((h0 | ⟨x, hx, hp⟩) | hp)
    · exact .inl h0
    · exact .inr ⟨x, .inl hx, hp⟩
    · exact .inr ⟨_, .inr rfl, hp⟩
/-- Does the byte stand so near the end of one of the first i texts? -/
def thB (l : List Tx) (c : UInt8) (k i : Nat) : Bool := decide (k = 0 ∨ ∃ x ∈ l.take i, k ≤ x.length ∧ x[x.length - k]? = some c)
def rowB (x : Tx) (c : UInt8) (k j : Nat) : Bool := decide (1 ≤ k ∧ k < j ∧ x[x.length - k]? = some c)
theorem thB_zero (l : List Tx) (c : UInt8) (k : Nat) : thB l c k 0 = decide (k = 0) := by simp [thB]
theorem thB_step {l : List Tx} {c : UInt8} {k i : Nat} (h : i < l.length) : thB l c k (i + 1) = (thB l c k i || rowB l[i] c k (l[i].length + 1)) := by
  unfold thB rowB
  rw [List.take_succ_eq_append_getElem h, Bool.eq_iff_iff]
  simp only [decide_eq_true_eq, Bool.or_eq_true, List.mem_append, List.mem_singleton]
  constructor
  · rintro (h0 | ⟨x, hx | rfl, hp1, hp2⟩)
    · exact .inl (.inl h0)
    · exact .inl (.inr ⟨x, hx, hp1, hp2⟩)
    · by_cases h1 : k = 0
      · exact .inl (.inl h1)
      · exact .inr ⟨by omega, by omega, hp2⟩
  · rintro ((h0 | ⟨x, hx, hp⟩) | ⟨h1, h2, h3⟩)
    · exact .inl h0
    · exact .inr ⟨x, .inl hx, hp⟩
    · exact .inr ⟨_, .inr rfl, by omega, h3⟩
theorem rowB_step {x : Tx} {c : UInt8} {k j : Nat} (h : 1 ≤ j) (hj : j ≤ x.length) : rowB x c k (j + 1) = (rowB x c k j || (decide (j = k) && (x[x.length - j]'(by omega) == c))) := by
  unfold rowB
  rw [Bool.eq_iff_iff]
  simp only [decide_eq_true_eq, Bool.or_eq_true, Bool.and_eq_true, beq_iff_eq]
  constructor
  · rintro ⟨h1, h2, h3⟩
    by_cases e : j = k
    · subst e
      rw [List.getElem?_eq_getElem (by omega)] at h3
      exact .inr ⟨rfl, Option.some.inj h3⟩
    · exact .inl ⟨h1, by omega, h3⟩
  · rintro (⟨h1, h2, h3⟩ | ⟨rfl, h3⟩)
    · exact ⟨h1, by omega, h3⟩
    · exact ⟨h, by omega, by rw [List.getElem?_eq_getElem (by omega), h3]⟩
theorem rowB_one (x : Tx) (c : UInt8) (k : Nat) : rowB x c k 1 = false := by
  unfold rowB
  rw [decide_eq_false]
  rintro ⟨h1, h2, _⟩
  omega
theorem least_facts (l : List Tx) : (∀ s ∈ l, s ≠ [] → Cwl.leastOf (turned l) ≤ s.length ∧ Cwl.leastOf (turned l) ≠ 0) ∧ isB l (Cwl.leastOf (turned l)) l.length = true := by
  have hl : ∀ x ∈ turned l, 0 < x.length := fun x h => List.length_pos_iff.2 ((mem_turned l x).1 h).1
  constructor
  · intro s hs h0
    have hm : s.reverse ∈ turned l := (mem_turned l _).2 ⟨by simpa using h0, by simpa using hs⟩
    have h1 := Cwl.least_le hl hm
    rw [List.length_reverse] at h1
    refine ⟨h1, fun e => ?_⟩
    have hne : turned l ≠ [] := fun e => by rw [e] at hm; cases hm
    obtain ⟨y, hy, e2⟩ := Cwl.least_is hne
    have := hl y hy
    omega
  · unfold isB
    rw [List.take_length, decide_eq_true_eq]
    by_cases hne : turned l = []
    · exact .inl (by rw [hne]; rfl)
    · obtain ⟨y, hy, e2⟩ := Cwl.least_is hne
      have hm := (mem_turned l y).1 hy
      exact .inr ⟨y.reverse, hm.2, by simpa using hm.1, by rw [List.length_reverse]; exact e2.symm⟩
theorem near_facts (l : List Tx) (c : UInt8) : (∀ s ∈ l, ∀ j, 1 ≤ j → j ≤ s.length → s[s.length - j]? = some c → nearOf (turned l) c ≤ j ∧ nearOf (turned l) c ≠ 0) ∧ thB l c (nearOf (turned l) c) l.length = true := by
  rcases near_texts (nearOf_near (turned l) c) with ⟨h0, h1⟩ | ⟨h0, ⟨s, hs, h2, h3⟩, h4⟩
  · exact ⟨fun s hs j hj1 hj2 e => absurd e (h1 s hs j hj1 hj2), by unfold thB; rw [decide_eq_true_eq]; exact .inl h0⟩
  · refine ⟨fun s hs j hj1 hj2 e => ⟨h4 s hs j hj1 hj2 e, by omega⟩, ?_⟩
    unfold thB
    rw [List.take_length, decide_eq_true_eq]
    exact .inr ⟨s, hs, h2, h3⟩

set_option maxHeartbeats 8000000 in
theorem small (w : World) (xs : List TxV) (a0 : Option Addr) (cap0 : Nat) (hts : Ts w a0 xs) (h0 : xs.length ≤ 12) (hx : ∀ x ∈ xs, x.text.length ≤ 40) (c : UInt8) :
    Calls Try.prog 7 #[.slice a0 xs.length cap0, .int .u8 (c.toNat : Int)] w fun e w' => e = .returned (.bool true) ∧ Below w.heap.size w w' := by
  have hx' : ∀ x ∈ xs, x.text.length ≤ maxLen := fun x h => Nat.le_trans (hx x h) (by unfold maxLen; omega)
  have htot := Spa.few_tot h0 hx
  have HX := Lib.hid hx
  have HX' := Lib.hid hx'
  have HAW := Lib.hid (Bck.awake_any w)
  clear hx hx'
  go_enter Try.func7, Try.ntmps7
  go_wp2_with fail
  refine HAW.out.mono ?_
  rintro e' w1 ⟨rfl, hb2⟩
  have ts1 := hts.keep hb2
  go_wp2_with fail
  refine (ltexts_any xs a0 cap0 w1 ts1 (by omega) HX'.out).mono ?_
  rintro e' w2 ⟨hb3, hcase⟩
  rcases hcase with ⟨hbad, _⟩ | ⟨_, aL, cL, rfl, hsL⟩
  · exact absurd HX.out hbad
  rw [decide_eq_true h0]
  have HTS := Lib.hid (ts1.keep hb3)
  have HB := Lib.hid (hb2.trans (hb3.mono hb2.size))
  have hszw := HB.out.size
  obtain ⟨l, hl⟩ : ∃ l, l = xs.map TxV.text := ⟨_, rfl⟩
  have HBU : Hid (∀ X, Below w2.heap.size w2 X → Calls Try.prog 10 #[.slice a0 xs.length cap0] X (GivesBk X l)) := Lib.hid fun X hX => by
    have := bbuild_any X xs a0 cap0 (HTS.out.keep hX) (by omega) (fun x h => Nat.le_trans (HX.out x h) (by omega))
    rwa [← hl] at this
  have HLN : Hid (xs.length = l.length) := Lib.hid (by rw [hl]; simp)
  have HLL := Lib.hid hl
  have HL40 : Hid (∀ x ∈ l, x.length ≤ 40) := Lib.hid fun x h => by
    rw [hl] at h
    obtain ⟨y, hy, rfl⟩ := List.mem_map.1 h
    exact HX.out y hy
  rw [← hl] at hsL htot
  have HSL := Lib.hid hsL
  have HTD : Hid (∀ X, Below w2.heap.size w2 X → Calls Try.prog 11 #[.slice aL xs.length cL] X (GivesSs X (turned l))) := Lib.hid fun X hX => by
    have := rturned_any X l aL cL (HSL.out.keep hX) (by rw [← HLN.out]; omega) (fun x h => Nat.le_trans (HL40.out x h) (by omega))
    rwa [← HLN.out] at this
  have HT40 : Hid (∀ x ∈ turned l, x.length ≤ 40) := Lib.hid fun x h => by
    have := HL40.out _ ((mem_turned l x).1 h).2
    rwa [List.length_reverse] at this
  have htl : (turned l).length ≤ 12 := by have := turned_len l; have := HLN.out; omega
  have htt := turned_tot l
  clear HAW hb2 hb3 ts1 hsL hts hl HX'
  go_wp2_with fail
  refine (HBU.out w2 (Below.refl _ _)).mono ?_
  rintro e w3 ⟨x, rfl, hk, hb3⟩
  have HB3 := Lib.hid hb3
  have HK := Lib.hid hk
  clear hb3 hk
  have hlf := least_facts l
  have hnf := near_facts l c
  go_wp2_with fail
  refine (bleast_any w3 x l HK.out).mono ?_
  rintro e w4 ⟨rfl, hb4⟩
  have HB4 := Lib.hid (HB3.out.trans (hb4.mono HB3.out.size))
  have HK4 := Lib.hid (HK.out.keep hb4)
  clear hb4
  generalize Cwl.leastOf (turned l) = n at *
  go_wp2_with fail
  refine (bnear_any w4 x l HK4.out c).mono ?_
  rintro e w5 ⟨rfl, hb5⟩
  have HB5 := Lib.hid (HB4.out.trans (hb5.mono HB4.out.size))
  clear hb5
  generalize nearOf (turned l) c = k at *
  have HLF := Lib.hid hlf
  have HNF := Lib.hid hnf
  have HS5 := Lib.hid (HSL.out.keep HB5.out)
  have hn0 : ((n : Int) == 0) = decide (n = 0) := by rw [Bool.eq_iff_iff]; simp
  have hk0 : ((k : Int) == 0) = decide (k = 0) := by rw [Bool.eq_iff_iff]; simp
  clear hlf hnf
  go_wp2
  go_loop [11, 12, 13] (fun vi vt v => ∃ i : Nat, i ≤ l.length ∧ vi = .bool (isB l n i) ∧ vt = .bool (thB l c k i) ∧ v = .int .i64 (i : Int)) (fun _ _ v => l.length - (intOf v).toNat)
  case atStart => exact ⟨0, Nat.zero_le _, by rw [isB_zero], by rw [thB_zero], rfl⟩
  case round =>
    obtain ⟨i, hi, rfl, rfl, rfl⟩ := hrel
    by_cases hlt : i < l.length
    · have hlx : (i : Int) < (xs.length : Int) := by have := HLN.out; omega
      obtain ⟨bs, os, rfl, hbl, hc⟩ := HS5.out (by omega)
      have hck := hc i hlt
      have hmem := List.getElem_mem hlt
      have hx40 := HL40.out _ hmem
      have HI : Hid (isB l n (i + 1) = (isB l n i || decide (l[i] ≠ [] ∧ l[i].length = n))) := Lib.hid (isB_step hlt)
      have HTH : Hid (thB l c k (i + 1) = (thB l c k i || rowB l[i] c k (l[i].length + 1))) := Lib.hid (thB_step hlt)
      have HF1 := Lib.hid (HLF.out.1 _ hmem)
      have HF2 := Lib.hid (HNF.out.1 _ hmem)
      have hz := str_size l[i]
      have hze := str_emp0 l[i]
      clear hc hmem
      generalize l[i] = y at *
      generalize isB l n i = bi at *
      generalize thB l c k i = bt at *
      by_cases hy0 : y = []
      · have HIi : Hid (isB l n (i + 1) = bi) := Lib.hid (by rw [HI.out]; simp [hy0])
        have HTi : Hid (thB l c k (i + 1) = bt) := Lib.hid (by
          rw [HTH.out, hy0]
          have : rowB [] c k ([] : Tx).length = false := by unfold rowB; simp
          have : rowB [] c k (([] : Tx).length + 1) = false := rowB_one [] c k
          rw [this]; simp)
        rw [decide_eq_true hy0] at hze
        clear hy0
        go_wp2
        exact ⟨⟨i + 1, by omega, by rw [HIi.out], by rw [HTi.out], by go_num⟩, by simp [intOf]; omega⟩
      · obtain ⟨hny, hn1⟩ := HF1.out hy0
        have hnb : ((n : Int) == 0) = false := by simpa using hn1
        have hny2 : ¬ (y.length : Int) < (n : Int) := by omega
        have hyp := List.length_pos_iff.2 hy0
        have HIi : Hid (isB l n (i + 1) = (bi || decide (y.length = n))) := Lib.hid (by rw [HI.out]; simp [hy0])
        have hyn : ((y.length : Int) == n) = decide (y.length = n) := by rw [Bool.eq_iff_iff]; simp; omega
        rw [decide_eq_false hy0] at hze
        have HY0 := Lib.hid hy0
        clear hy0 hn0
        generalize hbn : decide (y.length = n) = bn at *
        clear hbn
        cases bi
        · go_wp2
          go_loop [12, 15] (fun vt v => ∃ j : Nat, 1 ≤ j ∧ j ≤ y.length + 1 ∧ vt = .bool (bt || rowB y c k j) ∧ v = .int .i64 (j : Int)) (fun _ v => y.length + 1 - (intOf v).toNat)
          case atStart => exact ⟨1, Nat.le_refl _, by omega, by rw [rowB_one]; simp, rfl⟩
          case round =>
            obtain ⟨j, hj1, hj2, rfl, rfl⟩ := hrel
            by_cases hjl : j ≤ y.length
            · have hjli : (j : Int) ≤ (y.length : Int) := by omega
              obtain ⟨p, hp⟩ : ∃ p, p = y.length - j := ⟨_, rfl⟩
              have hpl : p < y.length := by omega
              have hpli : (p : Int) < (y.length : Int) := by omega
              have hwp : IntKind.i64.wrap ((y.length : Int) - (j : Int)) = (p : Int) := by rw [IntWalk.i64_in _ (by omega)]; omega
              have hya := str_at y p hpl
              have HR : Hid ((bt || rowB y c k (j + 1)) = ((bt || rowB y c k j) || (decide (j = k) && (y[p] == c)))) := Lib.hid (by
                rw [rowB_step hj1 hjl, Bool.or_assoc]
                simp only [hp])
              have HQ : Hid ((y[p] == c) = true → k ≤ j ∧ k ≠ 0) := Lib.hid fun h => by
                have e := HF2.out j hj1 hjl
                rw [← hp, List.getElem?_eq_getElem hpl] at e
                exact e (by simpa using h)
              have hd := u8_beq0 y[p] c
              generalize (bt || rowB y c k j) = bb at *
              generalize y[p] = z at *
              clear hp
              cases hzc : (z == c)
              · rw [hzc] at hd HR
                clear hzc HQ
                have HRR : Hid ((bt || rowB y c k (j + 1)) = bb) := Lib.hid (by rw [HR.out]; simp)
                go_wp2
                exact ⟨⟨j + 1, by omega, by omega, by rw [HRR.out], by go_num⟩, by simp [intOf]; omega⟩
              · obtain ⟨hkj, hk1⟩ := HQ.out hzc
                rw [hzc] at hd HR
                have hkj2 : ¬ (j : Int) < (k : Int) := by omega
                have hkb : ((k : Int) == 0) = false := by simpa using hk1
                have hjk : ((j : Int) == k) = decide (j = k) := by rw [Bool.eq_iff_iff]; simp; omega
                have HRR : Hid ((bt || rowB y c k (j + 1)) = (bb || decide (j = k))) := Lib.hid (by rw [HR.out]; simp)
                clear hzc HQ hk0
                cases bb
                · go_wp2
                  exact ⟨⟨j + 1, by omega, by omega, by rw [HRR.out]; simp, by go_num⟩, by simp [intOf]; omega⟩
                · go_wp2
                  exact ⟨⟨j + 1, by omega, by omega, by rw [HRR.out]; simp, by go_num⟩, by simp [intOf]; omega⟩
            · have hjli : ¬ (j : Int) ≤ (y.length : Int) := by omega
              obtain rfl : j = y.length + 1 := by omega
              go_wp2
              exact ⟨⟨_, _, _, _, ⟨i + 1, by omega, rfl, rfl, rfl⟩, rfl, by rw [HIi.out]; simp, by rw [HTH.out], by go_num⟩, by simp [intOf]; omega⟩
        · go_wp2
          go_loop [12, 15] (fun vt v => ∃ j : Nat, 1 ≤ j ∧ j ≤ y.length + 1 ∧ vt = .bool (bt || rowB y c k j) ∧ v = .int .i64 (j : Int)) (fun _ v => y.length + 1 - (intOf v).toNat)
          case atStart => exact ⟨1, Nat.le_refl _, by omega, by rw [rowB_one]; simp, rfl⟩
          case round =>
            obtain ⟨j, hj1, hj2, rfl, rfl⟩ := hrel
            by_cases hjl : j ≤ y.length
            · have hjli : (j : Int) ≤ (y.length : Int) := by omega
              obtain ⟨p, hp⟩ : ∃ p, p = y.length - j := ⟨_, rfl⟩
              have hpl : p < y.length := by omega
              have hpli : (p : Int) < (y.length : Int) := by omega
              have hwp : IntKind.i64.wrap ((y.length : Int) - (j : Int)) = (p : Int) := by rw [IntWalk.i64_in _ (by omega)]; omega
              have hya := str_at y p hpl
              have HR : Hid ((bt || rowB y c k (j + 1)) = ((bt || rowB y c k j) || (decide (j = k) && (y[p] == c)))) := Lib.hid (by
                rw [rowB_step hj1 hjl, Bool.or_assoc]
                simp only [hp])
              have HQ : Hid ((y[p] == c) = true → k ≤ j ∧ k ≠ 0) := Lib.hid fun h => by
                have e := HF2.out j hj1 hjl
                rw [← hp, List.getElem?_eq_getElem hpl] at e
                exact e (by simpa using h)
              have hd := u8_beq0 y[p] c
              generalize (bt || rowB y c k j) = bb at *
              generalize y[p] = z at *
              clear hp
              cases hzc : (z == c)
              · rw [hzc] at hd HR
                clear hzc HQ
                have HRR : Hid ((bt || rowB y c k (j + 1)) = bb) := Lib.hid (by rw [HR.out]; simp)
                go_wp2
                exact ⟨⟨j + 1, by omega, by omega, by rw [HRR.out], by go_num⟩, by simp [intOf]; omega⟩
              · obtain ⟨hkj, hk1⟩ := HQ.out hzc
                rw [hzc] at hd HR
                have hkj2 : ¬ (j : Int) < (k : Int) := by omega
                have hkb : ((k : Int) == 0) = false := by simpa using hk1
                have hjk : ((j : Int) == k) = decide (j = k) := by rw [Bool.eq_iff_iff]; simp; omega
                have HRR : Hid ((bt || rowB y c k (j + 1)) = (bb || decide (j = k))) := Lib.hid (by rw [HR.out]; simp)
                clear hzc HQ hk0
                cases bb
                · go_wp2
                  exact ⟨⟨j + 1, by omega, by omega, by rw [HRR.out]; simp, by go_num⟩, by simp [intOf]; omega⟩
                · go_wp2
                  exact ⟨⟨j + 1, by omega, by omega, by rw [HRR.out]; simp, by go_num⟩, by simp [intOf]; omega⟩
            · have hjli : ¬ (j : Int) ≤ (y.length : Int) := by omega
              obtain rfl : j = y.length + 1 := by omega
              go_wp2
              exact ⟨⟨_, _, _, _, ⟨i + 1, by omega, rfl, rfl, rfl⟩, rfl, by rw [HIi.out]; simp, by rw [HTH.out], by go_num⟩, by simp [intOf]; omega⟩
    · have hlx : ¬ (i : Int) < (xs.length : Int) := by have := HLN.out; omega
      obtain rfl : i = l.length := by omega
      rw [HLF.out.2, HNF.out.2]
      go_wp2
      go_ret
      exact ⟨rfl, HB.out.trans (HB5.out.mono HB.out.size)⟩
theorem walk (w : World) (xs : List TxV) (a0 : Option Addr) (cap0 : Nat) (hz0 : xs.length ≤ 6000000000000) (hx0 : ∀ x ∈ xs, x.text.length ≤ maxLen) (hts : Ts w a0 xs) (c : UInt8) :
    Calls Try.prog 7 #[.slice a0 xs.length cap0, .int .u8 (c.toNat : Int)] w fun e w' => e = .returned (.bool true) ∧ Below w.heap.size w w' := by
  by_cases hall : xs.length ≤ 12 ∧ (∀ x ∈ xs, x.text.length ≤ 40)
  · exact small w xs a0 cap0 hts hall.1 hall.2 c
  · have HALL := Lib.hid hall
    have HX := Lib.hid hx0
    clear hall hx0
    go_enter Try.func7, Try.ntmps7
    go_wp2_with fail
    refine (Bck.awake_any _).mono ?_
    rintro e' w1 ⟨rfl, hb2⟩
    have ts1 := hts.keep hb2
    go_wp2_with fail
    refine (ltexts_any xs a0 cap0 w1 ts1 hz0 HX.out).mono ?_
    rintro e' w2 ⟨hb3, hcase⟩
    have B2 := hb2.trans (hb3.mono hb2.size)
    rcases hcase with ⟨_, rfl⟩ | ⟨hok, aL, cL, rfl, _⟩
    · go_wp2
      go_ret
      exact ⟨rfl, B2⟩
    · have h12 : ¬ xs.length ≤ 12 := fun h => HALL.out ⟨h, hok⟩
      rw [decide_eq_false h12]
      clear HALL hok
      go_wp2
      go_ret
      exact ⟨rfl, B2⟩
end Go.Proofs.Ythlpapaaodjcjaa.backLeast
