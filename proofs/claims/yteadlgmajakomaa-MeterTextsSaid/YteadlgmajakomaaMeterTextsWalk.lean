/- The walk of MeterTexts: whatever bytes of a text are asked for, the call returns true, and what was there is as it was. -/
import Derived.Test.YteadlgmajakomaaMh
namespace Go.Proofs.Yteadlgmajakomaa.meterTexts
open Go.RowKit Go.Maps

/-- What holds while the bytes that were handed in are changed. -/
def I1 (W : World) (P A : Option Addr) (s t base n : Nat) (b : List UInt8) (wr : World) : Prop :=
  Below W.heap.size W wr ∧ Mt wr P 0 0 0 0 ∧ Tx wr s t P b ∧ ∃ c : List UInt8, c.length = n ∧ Txt wr base A c
theorem I1.step {W : World} {P : Option Addr} {s t base g n : Nat} {b c : List UInt8} {wr : World} (h1 : Below W.heap.size W wr) (h2 : Mt wr P 0 0 0 0) (h3 : Tx wr s t P b) (h4 : Txt wr base (some ⟨g, 0, none⟩) c) (hn : c.length = n)
    (hc : 0 < c.length) (hB : W.heap.size ≤ base) (hg : g < s) (i : Nat) (x : UInt8) : I1 W P (some ⟨g, 0, none⟩) s t base n b (wr.setCell ⟨g, i, none⟩ (.int .u8 (x.toNat : Int))) := by
  obtain ⟨b', cs, e, hb, hh, _⟩ := h4 hc
  cases e
  have hgr := grown_set wr g i (.int .u8 (x.toNat : Int))
  exact ⟨h1.setCell (p := ⟨g, i, none⟩) (Nat.le_trans hB hb) _, h2.same (fun k hk => hgr.block k (h2.lt hk) (fun e => by cases e; exact h2.not hh (by decide) hk)), h3.under hgr hg, _, (by rw [List.length_set]; exact hn), h4.set x⟩
set_option maxRecDepth 100000 in
set_option maxHeartbeats 4000000 in
theorem walk (W : World) (b : List UInt8) (a : Option Addr) (cap : Nat) (hm : b.length ≤ maxLen) (hb : Bs W W.heap.size a b) (hn : a = none → cap = 0) (l : List Int) (al : Option Addr) (capl : Nat) (hl : l.length ≤ maxLen) (hL : Is W W.heap.size al l) :
    Calls Try.prog 3 #[.slice a b.length cap, .slice al l.length capl] W fun e w' => e = .returned (.bool true) ∧ Below W.heap.size W w' := by
  unfold maxLen at hm hl
  have HB := Lib.hid hb
  have HN := Lib.hid hn
  have HL := Lib.hid hL
  clear hb hn hL
  by_cases h3 : 300 < b.length
  · go_enter Try.func3, Try.ntmps3
    go_wp2_with (go_at_call 8; (with_reducible refine (awake_any W).mono ?_); rintro e w0 ⟨rfl, hb0⟩)
    go_ret
    exact ⟨rfl, hb0⟩
  by_cases h1 : 100 < l.length
  · go_enter Try.func3, Try.ntmps3
    go_wp2_with (go_at_call 8; (with_reducible refine (awake_any W).mono ?_); rintro e w0 ⟨rfl, hb0⟩)
    go_ret
    exact ⟨rfl, hb0⟩
  go_enter Try.func3, Try.ntmps3
  go_wp2_with fail
  refine (awake_any W).mono ?_
  rintro e w0 ⟨rfl, hb0⟩
  have s0 := hb0.size
  go_wp2_with fail
  refine (new_mt w0).mono ?_
  rintro e w1 ⟨rfl, hM1, hb1⟩
  have hB1 : Below W.heap.size W w1 := hb0.trans (hb1.mono s0)
  have s1 := hB1.size
  generalize hP : w0.heap.size = P at *
  clear hP hb1 hb0
  go_wp2_with (at_builtin; (with_reducible refine app_bs rfl _ _ rfl w1.heap.size (.slice none 0 0) 0 [] rfl ?q1 a b cap _ rfl (HB.out.keep hB1) HN.out (by omega) (Nat.le_refl _) ?_))
  case q1 => exact ⟨rfl, Or.inl ⟨rfl, rfl⟩⟩
  intro v' w2 ho2 hg2
  obtain ⟨A, cc, rfl, hT2, _, _⟩ := own_txt (l := b) ho2
  have hM2 : Mt w2 (some ⟨P, 0, none⟩) 0 0 0 0 := hM1.same fun k hk => hg2.block k (hM1.lt hk) (fun e => by cases e)
  have hB2 : Below W.heap.size W w2 := hB1.grown hg2 s1 (fun k hk => by cases hk)
  have s2 := hB2.size
  have HA : Hid (∀ g, A = some ⟨g, 0, none⟩ → 0 < b.length → g < w2.heap.size) := Lib.hid (fun g e h0 => by
    obtain ⟨b', cs, e', _, hh, _⟩ := hT2 h0
    rw [e] at e'
    cases e'
    exact txt_lt hh)
  clear ho2 hg2 hM1 hB1
  go_wp2_with fail
  refine (text_any w2 (some ⟨P, 0, none⟩) b A cc (by omega) hT2.bs).mono ?_
  rintro e w3 ⟨t, rfl, hX3, hb3⟩
  have HI : Hid (I1 W (some ⟨P, 0, none⟩) A w2.heap.size t w1.heap.size b.length b w3) := Lib.hid ⟨hB2.trans (hb3.mono s2), hM2.keep hb3, hX3, b, rfl, hT2.keep hb3⟩
  clear hT2 hM2 hB2 hX3 hb3
  go_wp2
  go_loopw [9] (fun i wr => ∃ k : Nat, k ≤ b.length ∧ i = .int .i64 k ∧ I1 W (some ⟨P, 0, none⟩) A w2.heap.size t w1.heap.size b.length b wr) (fun i _ => b.length - (intOf i).toNat)
  case atStart => exact ⟨0, Nat.zero_le _, rfl, HI.out⟩
  case round =>
    obtain ⟨k, hk, rfl, hI⟩ := hrel
    clear HI
    by_cases hlt : k < b.length
    · obtain ⟨g1, g2, g3, c, hcl, hT⟩ := hI
      have hkc : k < c.length := by omega
      obtain ⟨g, cs, rfl, hbg, hh, hcs⟩ := hT (by omega)
      have hcell : wr.cell? ⟨g, k, none⟩ = some (.int .u8 (c[k].toNat : Int)) := (cell_of_row wr g k _ 5 (0, 0) hh).trans (hcs k hkc)
      have hfz : wr.frozen? ⟨g, k, none⟩ = false := by simp [World.frozen?, hh]
      have HS0 := (I1.step g1 g2 g3 hT hcl (by omega) s1 (HA.out g rfl (by omega)) k (c[k] + 1))
      rw [u8_inc'] at HS0
      have HS := Lib.hid HS0
      clear HS0
      have hkl : (k : Int) < (b.length : Int) := by omega
      clear g1 g2 g3 hT hh hcs hcl
      generalize hx : c[k] = x at *
      clear hx
      go_wp2
      go_roundw
      case rel => exact ⟨k + 1, by omega, by go_num, HS.out⟩
      case measure => simp [intOf]; omega
    · obtain ⟨g1, g2, g3, _⟩ := hI
      have G1 := Lib.hid g1
      have G2 := Lib.hid g2
      have G3 := Lib.hid g3
      clear g1 g2 g3 HA
      go_wp2
      have hkb : ¬ k < b.length := hlt
      clear hk hlt
      go_loopw [11, 12] (fun n i wr2 => ∃ (j c : Nat), j ≤ l.length ∧ c ≤ j ∧ i = .int .i64 j ∧ n = .int .i64 c ∧ Below W.heap.size W wr2 ∧ Mt wr2 (some ⟨P, 0, none⟩) c 0 0 0 ∧ Tx wr2 w2.heap.size t (some ⟨P, 0, none⟩) b) (fun _ i _ => l.length - (intOf i).toNat)
      case atStart => exact ⟨0, 0, Nat.zero_le _, Nat.le_refl _, rfl, rfl, G1.out, G2.out, G3.out⟩
      case round =>
        obtain ⟨j, c, hj, hcj, rfl, rfl, g1, g2, g3⟩ := hrel
        clear G1 G2 G3
        have G1 := Lib.hid g1
        have G2 := Lib.hid g2
        have G3 := Lib.hid g3
        clear g1 g2 g3
        have hfs := field_scan
        by_cases hlt : j < l.length
        · have hjl : (j : Int) < (l.length : Int) := by omega
          obtain ⟨bl, ol, rfl, hbl, hcl⟩ := HL.out (by omega)
          have HC := Lib.hid (hcl j hlt)
          clear hcl
          have e0 := (G1.out.cell (p := ⟨bl, ol + j, none⟩) hbl).trans HC.out
          generalize l[j] = x at *
          have N1 : Hid (∀ w, Calls Try.prog 11 #[.pointer none, .int .i64 x] w fun e w' => e = .returned (.int .i64 (-1)) ∧ w = w') := Lib.hid (fun w => at_none w x)
          by_cases hx : 0 ≤ x ∧ x < (b.length : Int)
          · obtain ⟨hx0, hx1⟩ := hx
            obtain ⟨i, rfl⟩ : ∃ i : Nat, x = i := ⟨x.toNat, by omega⟩
            have hib : i < b.length := by omega
            obtain ⟨bb, ob, rfl, hbb, hcb⟩ := HB.out (by omega)
            have e1 := (G1.out.cell (p := ⟨bb, ob + i, none⟩) hbb).trans (hcb i hib)
            have hu : b[i].toNat < 256 := b[i].toNat_lt
            clear hcb
            have A1 := Lib.hid (at_in _ _ _ _ _ G3.out i hib (by omega) _ _ _ _ G2.out (by omega) (by omega) (by omega) (by omega))
            generalize b[i] = y at *
            go_wp2_with (first
              | (go_at_call 11; (with_reducible refine A1.out.mono ?_); rintro e w4 ⟨rfl, hM4, hg4⟩; have hB4 := below_adds G1.out hg4 s0 (Nat.le_refl _); have HX4 := Lib.hid (G3.out.adds hg4 G2.out); have C4 := Lib.hid (counts_mt _ _ _ _ _ _ hM4); have HM4 := Lib.hid hM4; have HB4 := Lib.hid hB4; clear hM4 hg4 hB4)
              | (go_at_call 12; (with_reducible refine C4.out.mono ?_); rintro e w5 ⟨rfl, hb5⟩; have hB5 := HB4.out.trans (hb5.mono HB4.out.size); have e5 := (hB5.cell (p := ⟨bl, ol + j, none⟩) hbl).trans HC.out; have HX5 := Lib.hid (HX4.out.keep hb5); have HM5 := Lib.hid (HM4.out.keep hb5); have HB5 := Lib.hid hB5; clear hB5 hb5)
              | (go_at_call 11; (with_reducible refine (N1.out _).mono ?_); rintro e w6 ⟨rfl, rfl⟩))
            go_roundw
            case rel => exact ⟨j + 1, c + 1, by omega, by omega, by go_num, by go_num, HB5.out, by simpa using HM5.out, HX5.out⟩
            case measure => simp [intOf]; omega
          · have A1 := Lib.hid (at_out _ _ _ _ _ G3.out x (by omega))
            have C4 := Lib.hid (counts_mt _ _ _ _ _ _ G2.out)
            by_cases hx0 : 0 ≤ x
            · have hx1 : (b.length : Int) ≤ x := by omega
              clear hx
              go_wp2_with (first
                | (go_at_call 11; (with_reducible refine A1.out.mono ?_); rintro e w4 ⟨rfl, rfl⟩)
                | (go_at_call 12; (with_reducible refine C4.out.mono ?_); rintro e w5 ⟨rfl, hb5⟩; have hB5 := G1.out.trans (hb5.mono G1.out.size); have e5 := (hB5.cell (p := ⟨bl, ol + j, none⟩) hbl).trans HC.out; have HX5 := Lib.hid (G3.out.keep hb5); have HM5 := Lib.hid (G2.out.keep hb5); have HB5 := Lib.hid hB5; clear hB5 hb5)
                | (go_at_call 11; (with_reducible refine (N1.out _).mono ?_); rintro e w6 ⟨rfl, rfl⟩))
              go_roundw
              case rel => exact ⟨j + 1, c, by omega, by omega, by go_num, rfl, HB5.out, HM5.out, HX5.out⟩
              case measure => simp [intOf]; omega
            · have hx1 : x < 0 := by omega
              clear hx
              go_wp2_with (first
                | (go_at_call 11; (with_reducible refine A1.out.mono ?_); rintro e w4 ⟨rfl, rfl⟩)
                | (go_at_call 12; (with_reducible refine C4.out.mono ?_); rintro e w5 ⟨rfl, hb5⟩; have hB5 := G1.out.trans (hb5.mono G1.out.size); have e5 := (hB5.cell (p := ⟨bl, ol + j, none⟩) hbl).trans HC.out; have HX5 := Lib.hid (G3.out.keep hb5); have HM5 := Lib.hid (G2.out.keep hb5); have HB5 := Lib.hid hB5; clear hB5 hb5)
                | (go_at_call 11; (with_reducible refine (N1.out _).mono ?_); rintro e w6 ⟨rfl, rfl⟩))
              go_roundw
              case rel => exact ⟨j + 1, c, by omega, by omega, by go_num, rfl, HB5.out, HM5.out, HX5.out⟩
              case measure => simp [intOf]; omega
        · have L1 := Lib.hid (len_some _ _ _ _ _ G3.out)
          have C4 := Lib.hid (counts_mt _ _ _ _ _ _ G2.out)
          have N1 := Lib.hid (len_none wr)
          have hq := eql_counts
          go_wp2_with (first
            | (go_at_call 13; (with_reducible refine L1.out.mono ?_); rintro e w4 ⟨rfl, rfl⟩)
            | (go_at_call 12; (with_reducible refine C4.out.mono ?_); rintro e w5 ⟨rfl, hb5⟩; have HB5 := Lib.hid (G1.out.trans (hb5.mono G1.out.size)); clear hb5)
            | (go_at_call 13; (with_reducible refine N1.out.mono ?_); rintro e w6 ⟨rfl, rfl⟩))
          go_ret
          exact ⟨rfl, HB5.out⟩
end Go.Proofs.Yteadlgmajakomaa.meterTexts
