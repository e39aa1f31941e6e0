/- The walk of MeterBytes: whatever bytes are read and copied, the call returns true, and what was there is as it was. -/
import Derived.Test.YteadlgmajakomaaMh
namespace Go.Proofs.Yteadlgmajakomaa.meterBytes
open Go.RowKit Go.Maps

theorem over_front (l t : List UInt8) (i : Nat) (hi : i < t.length) (hl : i < l.length) : (over l t)[i]'(by rw [over_length]; exact hi) = l[i] := by
  have h : i < (l.take t.length).length := by simp; omega
  simp only [over, List.getElem_append_left h]
  simp
theorem over_back (l t : List UInt8) (i : Nat) (hi : i < t.length) (hl : l.length ≤ i) : (over l t)[i]'(by rw [over_length]; exact hi) = t[i] := by
  have e4 : (l.take t.length).length = l.length := by rw [List.length_take]; omega
  simp only [over, List.getElem_append_right (by omega : (l.take t.length).length ≤ i), List.getElem_drop]
  have e5 : l.length + (i - (l.take t.length).length) = i := by omega
  simp only [e5]
theorem bs_cell {w : World} {B : Nat} {a : Option Addr} {l : List UInt8} (h : Bs w B a l) {i : Nat} (hi : i < l.length) : ∃ b off, a = some ⟨b, off, none⟩ ∧ b < B ∧ w.cell? ⟨b, off + i, none⟩ = some (.int .u8 (l[i].toNat : Int)) := by
  obtain ⟨b, off, e, hlt, hc⟩ := h (by omega)
  exact ⟨b, off, e, hlt, hc i hi⟩
set_option maxRecDepth 100000 in
set_option maxHeartbeats 4000000 in
theorem walk (W : World) (b : List UInt8) (a : Option Addr) (cap : Nat) (hm : b.length ≤ maxLen) (hb : Bs W W.heap.size a b) (l : List Int) (al : Option Addr) (capl : Nat) (hl : l.length ≤ maxLen) (hL : Is W W.heap.size al l)
    (t : List UInt8) (at' : Option Addr) (capt : Nat) (ht : t.length ≤ maxLen) (hT : Bs W W.heap.size at' t) (hn : at' = none → capt = 0) :
    Calls Try.prog 6 #[.slice a b.length cap, .slice al l.length capl, .slice at' t.length capt] W fun e w' => e = .returned (.bool true) ∧ Below W.heap.size W w' := by
  unfold maxLen at hm hl ht
  have HB := Lib.hid hb
  have HN := Lib.hid hn
  have HL := Lib.hid hL
  have HT := Lib.hid hT
  clear hb hn hL hT
  by_cases h3 : 300 < b.length
  · go_enter Try.func6, Try.ntmps6
    go_wp2_with (go_at_call 8; (with_reducible refine (awake_any W).mono ?_); rintro e w0 ⟨rfl, hb0⟩)
    go_ret
    exact ⟨rfl, hb0⟩
  by_cases h1 : 60 < l.length
  · go_enter Try.func6, Try.ntmps6
    go_wp2_with (go_at_call 8; (with_reducible refine (awake_any W).mono ?_); rintro e w0 ⟨rfl, hb0⟩)
    go_ret
    exact ⟨rfl, hb0⟩
  by_cases h2 : 300 < t.length
  · go_enter Try.func6, Try.ntmps6
    go_wp2_with (go_at_call 8; (with_reducible refine (awake_any W).mono ?_); rintro e w0 ⟨rfl, hb0⟩)
    go_ret
    exact ⟨rfl, hb0⟩
  have q1 : decide ((300 : Int) < (b.length : Int)) = false := by simp; omega
  have q2 : decide ((60 : Int) < (l.length : Int)) = false := by simp; omega
  have q3 : decide ((300 : Int) < (t.length : Int)) = false := by simp; omega
  go_enter Try.func6, Try.ntmps6
  go_wp2_with fail
  refine (awake_any W).mono ?_
  rintro e w0 ⟨rfl, hb0⟩
  have s0 := hb0.size
  go_wp2_with fail
  refine (new_mt w0).mono ?_
  rintro e w1 ⟨rfl, hM1, hb1⟩
  have G1 := Lib.hid (hb0.trans (hb1.mono s0))
  have G2 := Lib.hid hM1
  generalize hP : w0.heap.size = P at *
  clear hP hb1 hb0 hM1 q1 q2 q3
  go_wp2
  go_loopw [9, 10] (fun n i wr2 => ∃ (j c : Nat), j ≤ l.length ∧ c ≤ j ∧ i = .int .i64 j ∧ n = .int .i64 c ∧ Below W.heap.size W wr2 ∧ Mt wr2 (some ⟨P, 0, none⟩) 0 0 c 0) (fun _ i _ => l.length - (intOf i).toNat)
  case atStart => exact ⟨0, 0, Nat.zero_le _, Nat.le_refl _, rfl, rfl, G1.out, G2.out⟩
  case round =>
    obtain ⟨j, c, hj, hcj, rfl, rfl, g1, g2⟩ := hrel
    clear G1 G2
    have G1 := Lib.hid g1
    have G2 := Lib.hid g2
    clear g1 g2
    by_cases hlt : j < l.length
    · have hjl : (j : Int) < (l.length : Int) := by omega
      obtain ⟨bl, ol, rfl, hbl, hcl⟩ := HL.out (by omega)
      have HC := Lib.hid (hcl j hlt)
      clear hcl
      have e0 := (G1.out.cell (p := ⟨bl, ol + j, none⟩) hbl).trans HC.out
      generalize l[j] = x at *
      by_cases hx : 0 ≤ x ∧ x < (b.length : Int)
      · obtain ⟨hx0, hx1⟩ := hx
        obtain ⟨i, rfl⟩ : ∃ i : Nat, x = i := ⟨x.toNat, by omega⟩
        have hib : i < b.length := by omega
        have A1 := Lib.hid (read_in wr (some ⟨P, 0, none⟩) b a cap ((HB.out.keep G1.out).more G1.out.size) i hib (by omega) _ _ _ _ G2.out (by omega) (by omega) (by omega) (by omega))
        obtain ⟨bb, ob, rfl, hbb, e1⟩ := bs_cell HB.out hib
        have HE1 := Lib.hid e1
        clear e1
        generalize b[i] = y at *
        go_wp2_with (go_at_call 19; (with_reducible refine A1.out.mono ?_); rintro e w4 ⟨rfl, hM4, hg4⟩; have hB4 := below_adds G1.out hg4 s0 (Nat.le_refl _); have e5 := (hB4.cell (p := ⟨bl, ol + j, none⟩) hbl).trans HC.out; have e6 := (hB4.cell (p := ⟨bb, ob + i, none⟩) hbb).trans HE1.out; have HM4 := Lib.hid hM4; have HB4 := Lib.hid hB4; clear hM4 hg4 hB4)
        go_roundw
        case rel => exact ⟨j + 1, c + 1, by omega, by omega, by go_num, by go_num, HB4.out, by simpa using HM4.out⟩
        case measure => simp [intOf]; omega
      · have A1 := Lib.hid (read_out wr (some ⟨P, 0, none⟩) b a cap x (by omega))
        by_cases hx0 : 0 ≤ x
        · have hx1 : (b.length : Int) ≤ x := by omega
          clear hx
          go_wp2_with (go_at_call 19; (with_reducible refine A1.out.mono ?_); rintro e w4 ⟨rfl, rfl⟩)
          go_roundw
          case rel => exact ⟨j + 1, c, by omega, by omega, by go_num, rfl, G1.out, G2.out⟩
          case measure => simp [intOf]; omega
        · have hx1 : x < 0 := by omega
          clear hx
          go_wp2_with (go_at_call 19; (with_reducible refine A1.out.mono ?_); rintro e w4 ⟨rfl, rfl⟩)
          go_roundw
          case rel => exact ⟨j + 1, c, by omega, by omega, by go_num, rfl, G1.out, G2.out⟩
          case measure => simp [intOf]; omega
    · have sr := G1.out.size
      have T1 := Lib.hid ((HT.out.keep G1.out).more sr)
      go_wp2_with (at_builtin; (with_reducible refine app_bs rfl _ _ rfl wr.heap.size (.slice none 0 0) 0 [] rfl ?q1 at' t capt _ rfl T1.out HN.out (by omega) (Nat.le_refl _) ?_))
      case q1 => exact ⟨rfl, Or.inl ⟨rfl, rfl⟩⟩
      intro v' w2 ho2 hg2
      obtain ⟨A, cc, rfl, hT2, _, _⟩ := own_txt (l := t) ho2
      have hM2 : Mt w2 (some ⟨P, 0, none⟩) 0 0 c 0 := G2.out.same fun k hk => hg2.block k (G2.out.lt hk) (fun e => by cases e)
      have hB2 : Below W.heap.size W w2 := G1.out.grown hg2 sr (fun k hk => by cases hk)
      have s2 := hB2.size
      clear ho2 hg2 G1 G2 T1
      go_wp2_with fail
      refine (copy_any w2 (some ⟨P, 0, none⟩) A t cc wr.heap.size hT2 a b cap W.heap.size (HB.out.keep hB2) (by omega) _ _ _ _ hM2 (by omega) (by omega) (by omega) (by omega)).mono ?_
      rintro e w3 ⟨rfl, hT3, hM3, w3', r, hr, hg3, hg3'⟩
      have hB3 : Below W.heap.size W w3 := below_adds (hB2.grown hg3 s2 (fun k hk => Nat.le_trans sr (hr k hk).1)) hg3' s0 (Nat.le_refl _)
      clear hr hg3 hg3' hM2 hB2 hT2
      have G1 := Lib.hid hB3
      have G2 := Lib.hid hM3
      have G3 := Lib.hid hT3
      clear hB3 hM3 hT3
      have hk1 : min b.length t.length ≤ b.length := Nat.min_le_left _ _
      have hk2 : min b.length t.length ≤ t.length := Nat.min_le_right _ _
      have HK : Hid (∀ j, j < t.length → ¬ j < min b.length t.length → b.length ≤ j) := Lib.hid (fun j h1 h2 => by omega)
      go_wp2
      generalize min b.length t.length = kk at *
      have hz : (0 : Int) + kk = kk := by omega
      rw [hz] at G2
      clear hz
      go_loopw [16] (fun i wr3 => ∃ j q : Nat, j ≤ t.length ∧ i = .int .i64 j ∧ wr3 = w3.drewN q) (fun i _ => t.length - (intOf i).toNat)
      case atStart => exact ⟨0, 0, Nat.zero_le _, rfl, rfl⟩
      case round =>
        obtain ⟨m, q, hm, rfl, rfl⟩ := hrel
        by_cases hlt : m < t.length
        · have hml : (m : Int) < (t.length : Int) := by omega
          have hmo : m < (over b t).length := by rw [over_length]; exact hlt
          obtain ⟨gd, cs, rfl, _, hh, hcs⟩ := G3.out (by omega)
          have ed : w3.cell? ⟨gd, m, none⟩ = some (.int .u8 ((over b t)[m].toNat : Int)) := (cell_of_row w3 gd m _ 5 (0, 0) hh).trans (hcs m hmo)
          clear hcs hh
          by_cases hmk : m < kk
          · have hmb : m < b.length := by omega
            have hmb' : (m : Int) < (b.length : Int) := by omega
            obtain ⟨bb, ob, rfl, hbb, e1⟩ := bs_cell HB.out hmb
            have eb := (G1.out.cell (p := ⟨bb, ob + m, none⟩) hbb).trans e1
            rw [over_front b t m hlt hmb] at ed
            generalize b[m] = y at *
            clear e1
            have d1 : decide (m < kk) = true := by simpa using hmk
            have d2 : decide (kk ≤ m) = false := by simpa using hmk
            go_wp2
            go_quiet (fail)
            go_wp2
            go_roundw
            case rel => exact ⟨m + 1, q + nq, by omega, by go_num, rfl⟩
            case measure => simp [intOf]; omega
          · have hmb : b.length ≤ m := HK.out m hlt hmk
            obtain ⟨bb, ob, rfl, hbb, e1⟩ := bs_cell HT.out hlt
            have eb := (G1.out.cell (p := ⟨bb, ob + m, none⟩) hbb).trans e1
            rw [over_back b t m hlt hmb] at ed
            generalize t[m] = y at *
            clear e1
            have d1 : decide (m < kk) = false := by simpa using hmk
            have d2 : decide (kk ≤ m) = true := by simpa using hmk
            go_wp2
            go_quiet (fail)
            go_wp2
            go_roundw
            case rel => exact ⟨m + 1, q + nq, by omega, by go_num, rfl⟩
            case measure => simp [intOf]; omega
        · have hM5 : Mt (w3.drewN q) (some ⟨P, 0, none⟩) 0 0 c kk := G2.out
          have C4 := Lib.hid (counts_mt _ _ _ _ _ _ hM5)
          have HB4 := Lib.hid (below_drews G1.out q)
          have hq := eql_counts
          clear hM5
          go_wp2_with (go_at_call 12; (with_reducible refine C4.out.mono ?_); rintro e w5 ⟨rfl, hb5⟩; have HB5 := Lib.hid (HB4.out.trans (hb5.mono HB4.out.size)); clear hb5)
          go_ret
          exact ⟨rfl, HB5.out⟩
end Go.Proofs.Yteadlgmajakomaa.meterBytes
