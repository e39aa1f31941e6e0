/- The walk of TrieWords. -/
import Derived.Test.YtljnhkpcodecgaaTk
namespace Go.Proofs.Ytljnhkpcodecgaa.trieWords
open Go.Proofs.Ytljnhkpcodecgaa.Tri Go.RowKit Go.Maps

set_option maxRecDepth 100000 in
set_option maxHeartbeats 8000000 in
/-- Texts that are few and short. -/
theorem small (w : World) (xs : List TxV) (a0 : Option Addr) (cap0 : Nat) (hts : Ts w a0 xs) (h0 : xs.length ≤ 12) (hx : ∀ x ∈ xs, x.text.length ≤ 40) :
    Calls Try.prog 6 #[.slice a0 xs.length cap0] w fun e w' => e = .returned (.bool true) ∧ Below w.heap.size w w' := by
  have hx' : ∀ x ∈ xs, x.text.length ≤ maxLen := fun x h => Nat.le_trans (hx x h) (by unfold maxLen; omega)
  have htot := few_tot h0 hx
  have hps := few_len htot
  have hsh : ∀ p ∈ paths (xs.map TxV.text), p.length ≤ 40 := fun p hp => path_short (fun x h => by
    obtain ⟨y, hy, rfl⟩ := List.mem_map.1 h
    exact hx y hy) hp
  have HSH := Lib.hid hsh
  have HX := Lib.hid hx
  have HX' := Lib.hid hx'
  clear hx hx' hsh
  go_enter Try.func6, Try.ntmps6
  go_wp2_with fail
  refine (awake_any _).mono ?_
  rintro e' w1 ⟨rfl, hb2⟩
  have ts1 := hts.keep hb2
  go_wp2_with fail
  refine (ltexts_any xs a0 cap0 w1 ts1 (by omega) HX'.out).mono ?_
  rintro e' w2 ⟨hb3, hcase⟩
  rcases hcase with ⟨hbad, _⟩ | ⟨_, aL, cL, rfl, hsL⟩
  · exact absurd HX.out hbad
  rw [decide_eq_true h0]
  have ts2 := ts1.keep hb3
  have B2 := hb2.trans (hb3.mono hb2.size)
  clear hb2 hb3 ts1 hts
  go_wp2_with fail
  refine (build_any w2 xs a0 cap0 ts2 (by omega) (by omega)).mono ?_
  rintro e' W0 ⟨t, rfl, htr, hb4⟩
  obtain ⟨l, hl⟩ : ∃ l, l = xs.map TxV.text := ⟨_, rfl⟩
  have HLT : Hid (∀ i (h : i < xs.length) (h' : i < l.length), xs[i].text = l[i]) := Lib.hid (by subst hl; intro i h h'; simp)
  have HLN : Hid (xs.length = l.length) := Lib.hid (by rw [hl]; simp)
  have HLX : Hid (∀ x ∈ l, x.length ≤ 40) := Lib.hid (fun x h => by rw [hl] at h; obtain ⟨y, hy, rfl⟩ := List.mem_map.1 h; exact HX.out y hy)
  rw [← hl] at htr hps HSH hsL
  clear hl htot
  have HP := Lib.hid (paths_sub l)
  generalize hpp : paths l = ps at *
  clear hpp
  have HB := Lib.hid (B2.trans (hb4.mono B2.size))
  have HT : Hid (∀ X, Below W0.heap.size W0 X → Tr X w2.heap.size t ps l) := Lib.hid fun X hX => htr.keep hX
  have HW := Lib.hid htr.2.1
  have HTS := Lib.hid (ts2.keep hb4)
  have HSL : Hid (∀ X, Below W0.heap.size W0 X → Ss X aL l) := Lib.hid fun X hX => (hsL.keep hb4).keep hX
  clear ts2 B2 hb4 htr hsL
  generalize w2.heap.size = s at *
  obtain ⟨n, hn⟩ : ∃ n, n = xs.length := ⟨_, rfl⟩
  have HN : Hid (n = xs.length) := Lib.hid hn
  rw [← hn] at h0 ⊢
  clear hn
  go_wp2
  go_loopw [7, 8] (fun u i wr => ∃ k : Nat, k ≤ n ∧ i = .int .i64 k ∧ u = .int .i64 ((dd (l.take k)).length : Int) ∧ Below W0.heap.size W0 wr) (fun _ i _ => n - (intOf i).toNat)
  case atStart => exact ⟨0, Nat.zero_le _, rfl, rfl, Below.refl _ _⟩
  case round =>
    obtain ⟨k, hk, rfl, rfl, hbel⟩ := hrel
    have hul : (dd (l.take k)).length ≤ k := Nat.le_trans (dd_len _) (List.length_take_le _ _)
    by_cases hlt : k < n
    · have hkx : k < xs.length := by rw [← HN.out]; exact hlt
      have hkl : k < l.length := by rw [← HLN.out]; exact hkx
      obtain ⟨b1, o1, rfl, hbl1, hc1⟩ : ∃ b off, a0 = some ⟨b, off, none⟩ ∧ b < W0.heap.size ∧ ∀ i (h : i < xs.length), W0.cell? ⟨b, off + i, none⟩ = some (.slice xs[i].a xs[i].text.length xs[i].cap) := HTS.out.1 (by omega)
      have hd1 := (hbel.cell (p := ⟨b1, o1 + k, none⟩) hbl1).trans (hc1 k hkx)
      obtain ⟨b2, o2, rfl, hbl2, hc2⟩ := HSL.out wr hbel (by omega)
      have hd2 := hc2 k hkl
      have hbs := ((HTS.out.2 _ (List.getElem_mem hkx)).keep hbel).more hbel.size
      rw [HLT.out k hkx hkl] at hd1 hbs
      have h40 := HLX.out _ (List.getElem_mem hkl)
      have hmem := HP.out _ (List.getElem_mem hkl)
      obtain ⟨j, hj, ej, ej2, _⟩ := place_mem hmem
      have HF := Lib.hid (find_any wr s t ps l (HT.out _ hbel) l[k] xs[k].a xs[k].cap _ hbs (by omega))
      rw [ej] at HF
      have HPL := Lib.hid (place_any wr l (some ⟨b2, o2, none⟩) cL (HSL.out wr hbel) (by rw [← HLN.out, ← HN.out]; omega) l[k])
      rw [← HLN.out, ← HN.out] at HPL
      have HWD := Lib.hid (word_any wr s t ps l (HT.out _ hbel) (j : Int))
      rw [wordOf_at l hj, ej2] at HWD
      have HNEW := Lib.hid (dd_new hkl)
      have HOLD := Lib.hid (dd_old hkl)
      have hj0 : ¬ (j : Int) < 0 := by omega
      have hkn : (k : Int) < (n : Int) := by omega
      have HBE := Lib.hid hbel
      have hbl1' : b1 < wr.heap.size := Nat.lt_of_lt_of_le hbl1 hbel.size
      clear hc1 hc2 hbs hmem ej ej2 hbel
      generalize hz : place l l[k] = z at *
      clear hz
      generalize l[k] = x at *
      generalize xs[k].a = ax at *
      generalize xs[k].cap = cx at *
      by_cases hzk : z = (k : Int)
      · have hd3 : (z == (k : Int)) = true := by simp [hzk]
        have HE := Lib.hid (HNEW.out hzk)
        clear hzk
        go_wp2_with (first
          | (go_at_call 22; (with_reducible refine HF.out.mono ?_); rintro e w1 ⟨rfl, rfl⟩)
          | (go_at_call 14; (with_reducible refine HPL.out.mono ?_); rintro e w1 ⟨rfl, rfl⟩)
          | (go_at_call 18; (with_reducible refine HWD.out.mono ?_); rintro e w5 ⟨rfl, hb5⟩; have HB5 := Lib.hid (HBE.out.trans (hb5.mono HBE.out.size)); clear hb5))
        exact ⟨⟨k + 1, by omega, by go_num, by rw [HE.out]; go_num, HB5.out⟩, by simp [intOf]; omega⟩
      · have hd3 : (z == (k : Int)) = false := beq_eq_false_iff_ne.2 hzk
        have HE := Lib.hid (HOLD.out hzk)
        clear hzk
        go_wp2_with (first
          | (go_at_call 22; (with_reducible refine HF.out.mono ?_); rintro e w1 ⟨rfl, rfl⟩)
          | (go_at_call 14; (with_reducible refine HPL.out.mono ?_); rintro e w1 ⟨rfl, rfl⟩)
          | (go_at_call 18; (with_reducible refine HWD.out.mono ?_); rintro e w5 ⟨rfl, hb5⟩; have HB5 := Lib.hid (HBE.out.trans (hb5.mono HBE.out.size)); clear hb5))
        exact ⟨⟨k + 1, by omega, by go_num, by rw [HE.out], HB5.out⟩, by simp [intOf]; omega⟩
    · have et : l.take k = l := List.take_of_length_le (by rw [← HLN.out, ← HN.out]; omega)
      rw [et] at hul ⊢
      have HALL := Lib.hid (hav_all HW.out.nodup HP.out)
      have HBE := Lib.hid hbel
      clear hbel et
      generalize (dd l).length = d at *
      go_wp2
      go_loopw [11, 12] (fun h i wr2 => ∃ q : Nat, q ≤ ps.length ∧ i = .int .i64 q ∧ h = .int .i64 (hav ps l q : Int) ∧ Below W0.heap.size W0 wr2) (fun _ i _ => ps.length - (intOf i).toNat)
      case atStart => exact ⟨0, Nat.zero_le _, rfl, rfl, HBE.out⟩
      case round =>
        obtain ⟨q, hq, rfl, rfl, hbel2⟩ := hrel
        have HND := Lib.hid (nodes_any _ s t ps l (HT.out _ hbel2))
        have HWD := Lib.hid (word_any _ s t ps l (HT.out _ hbel2) (q : Int))
        have hle := hav_le ps l q
        have HB2 := Lib.hid hbel2
        clear hbel2
        by_cases hqp : q < ps.length
        · have hql : (q : Int) < (ps.length : Int) := by omega
          have HYES := Lib.hid (hav_yes (l := l) hqp)
          have HNO := Lib.hid (hav_no (l := l) hqp)
          generalize wordOf ps l (q : Int) = z at *
          generalize hav ps l q = h at *
          by_cases hz : 0 ≤ z
          · have HE := Lib.hid (HYES.out hz)
            go_wp2_with (first
              | (go_at_call 13; (with_reducible refine HND.out.mono ?_); rintro e w1 ⟨rfl, rfl⟩)
              | (go_at_call 18; (with_reducible refine HWD.out.mono ?_); rintro e w5 ⟨rfl, hb5⟩; have HB5 := Lib.hid (HB2.out.trans (hb5.mono HB2.out.size)); clear hb5))
            exact ⟨⟨q + 1, by omega, by go_num, by rw [HE.out]; go_num, HB5.out⟩, by simp [intOf]; omega⟩
          · have HE := Lib.hid (HNO.out hz)
            go_wp2_with (first
              | (go_at_call 13; (with_reducible refine HND.out.mono ?_); rintro e w1 ⟨rfl, rfl⟩)
              | (go_at_call 18; (with_reducible refine HWD.out.mono ?_); rintro e w5 ⟨rfl, hb5⟩; have HB5 := Lib.hid (HB2.out.trans (hb5.mono HB2.out.size)); clear hb5))
            exact ⟨⟨q + 1, by omega, by go_num, by rw [HE.out], HB5.out⟩, by simp [intOf]; omega⟩
        · obtain rfl : q = ps.length := by omega
          rw [HALL.out]
          clear HWD hle
          go_wp2_with (go_at_call 13; (with_reducible refine HND.out.mono ?_); rintro e w1 ⟨rfl, rfl⟩)
          go_ret
          exact ⟨rfl, HB.out.trans (HB2.out.mono HB.out.size)⟩
theorem walk (w : World) (xs : List TxV) (a0 : Option Addr) (cap0 : Nat) (hz0 : xs.length ≤ 6000000000000) (hx0 : ∀ x ∈ xs, x.text.length ≤ maxLen) (hts : Ts w a0 xs) :
    Calls Try.prog 6 #[.slice a0 xs.length cap0] w fun e w' => e = .returned (.bool true) ∧ Below w.heap.size w w' := by
  by_cases hall : xs.length ≤ 12 ∧ (∀ x ∈ xs, x.text.length ≤ 40)
  · exact small w xs a0 cap0 hts hall.1 hall.2
  · have HALL := Lib.hid hall
    have HX := Lib.hid hx0
    clear hall hx0
    go_enter Try.func6, Try.ntmps6
    go_wp2_with fail
    refine (awake_any _).mono ?_
    rintro e' w1 ⟨rfl, hb2⟩
    have ts1 := hts.keep hb2
    go_wp2_with fail
    refine (ltexts_any xs a0 cap0 w1 ts1 hz0 HX.out).mono ?_
    rintro e' w2 ⟨hb3, hcase⟩
    have B2 := hb2.trans (hb3.mono hb2.size)
    rcases hcase with ⟨_, rfl⟩ | ⟨hok, aL, cL, rfl, _⟩
    · go_wp2
      go_ret
      exact ⟨rfl, B2⟩
    · have h12 : ¬ xs.length ≤ 12 := fun h => HALL.out ⟨h, hok⟩
      rw [decide_eq_false h12]
      clear HALL hok
      go_wp2
      go_ret
      exact ⟨rfl, B2⟩
end Go.Proofs.Ytljnhkpcodecgaa.trieWords
