/- The walk of CutsEach. -/
import Derived.Test.YtlpjghhmacobdaaCutD
namespace Go.Proofs.Ytlpjghhmacobdaa.cutsEach
open Go.Proofs.Ytlpjghhmacobdaa.Tri Go.Proofs.Ytlpjghhmacobdaa.Lnk Go.Proofs.Ytlpjghhmacobdaa.Cts Go.Proofs.Ytlpjghhmacobdaa.Reg Go.RowKit Go.Maps
set_option maxRecDepth 100000
set_option linter.unusedVariables false
theorem each_facts (t : List UInt8) (n : Int) : (∀ i (h : i < (each t n).length), 0 < (each t n)[i].length ∧ (1 ≤ n → ((each t n)[i].length : Int) ≤ n ∧ (i + 1 < (each t n).length → ((each t n)[i].length : Int) = n))) ∧ (n < 1 → (each t n).length ≤ 1) ∧ (each t n).length ≤ t.length := by
  by_cases h0 : t = []
  · have e : each t n = [] := if_pos h0
    rw [e]
    exact ⟨fun i h => absurd h (by simp), fun _ => Nat.zero_le _, Nat.zero_le _⟩
  · have hp := List.length_pos_iff.2 h0
    by_cases h1 : n < 1
    · have e : each t n = [t] := by unfold each; rw [if_neg h0, if_pos h1]
      rw [e]
      refine ⟨fun i h => ?_, fun _ => Nat.le_refl _, hp⟩
      have hi : i = 0 := by simpa using h
      subst hi
      exact ⟨hp, fun h => by omega⟩
    · have e : each t n = chunks n.toNat t.length t := by unfold each; rw [if_neg h0, if_neg h1]
      rw [e]
      have hc := chunks_len (n := n.toNat) (by omega) t.length t (Nat.le_refl _)
      refine ⟨fun i h => ?_, fun h => absurd h h1, ?_⟩
      · obtain ⟨q1, q2, q3⟩ := hc i h
        exact ⟨q1, fun _ => ⟨by omega, fun h2 => by have := q3 h2; omega⟩⟩
      · have hj := chunks_join (n := n.toNat) (by omega) t.length t (Nat.le_refl _)
        have hs : ∀ L : List (List UInt8), (∀ i (h : i < L.length), 0 < L[i].length) → L.length ≤ L.flatten.length := by
          intro L
          induction L with
          | nil => exact fun _ => Nat.le_refl _
          | cons y L ih =>
            intro h
            have h1 := h 0 (by simp)
            have h2 := ih fun i hi => h (i + 1) (by simpa using hi)
            rw [List.flatten_cons, List.length_append, List.length_cons]
            have h3 : 0 < y.length := h1
            omega
        have := hs _ (fun i h => (hc i h).1)
        rwa [hj] at this
theorem flat_take (L : List (List UInt8)) (k : Nat) (h : k < L.length) : (L.take (k + 1)).flatten = (L.take k).flatten ++ L[k] := by
  rw [List.take_succ_eq_append_getElem h, List.flatten_append]
  simp
theorem flat_le (L : List (List UInt8)) (k : Nat) : (L.take k).flatten.length ≤ L.flatten.length := by
  have h : L.flatten = (L.take k).flatten ++ (L.drop k).flatten := by rw [← List.flatten_append, List.take_append_drop]
  rw [h, List.length_append]; omega

set_option maxHeartbeats 8000000 in
theorem walk (w : World) (line : List UInt8) (aline : Option Addr) (cline : Nat) (hmline : line.length ≤ maxLen) (hbline : Bs w w.heap.size aline line) (hnline : aline = none → cline = 0) (n : Int) (wn : (Lit.int .i64 n).wf = true) :
    Calls Try.prog 5 #[.slice aline line.length cline, .int .i64 n] w fun e w' => e = .returned (.bool true) ∧ Below w.heap.size w w' := by
  have HT := Lib.hid hbline
  have HNT := Lib.hid hnline
  have HAW := Lib.hid (awake_any w)
  clear hbline hnline
  go_enter Try.func5, Try.ntmps5
  go_wp2_with fail
  refine HAW.out.mono ?_
  rintro e' w1 ⟨rfl, hb1⟩
  have HB1 := Lib.hid hb1
  clear HAW hb1
  by_cases hA : line.length ≤ 600
  rotate_left
  · have hAi : ¬ (line.length : Int) ≤ 600 := by omega
    go_wp2_with fail
    go_ret
    exact ⟨rfl, HB1.out⟩
  have hAi : (line.length : Int) ≤ 600 := by omega
  have HE := Lib.hid (each_any w1 line aline cline ((HT.out.keep HB1.out).more HB1.out.size) HNT.out (by omega) n wn)
  go_wp2_with fail
  refine HE.out.mono ?_
  rintro e' w2 ⟨xs, ax, cx, rfl, hxs, hts, _, _, hb2⟩
  obtain ⟨f1, f2, f3⟩ := each_facts line n
  have hj := each_join line n
  have hxl : xs.length = (each line n).length := by rw [← hxs, List.length_map]
  have HB2 := Lib.hid (HB1.out.trans (hb2.mono HB1.out.size))
  have HX := Lib.hid hxs
  have HTS := Lib.hid hts
  have HF1 := Lib.hid f1
  have HJ := Lib.hid hj
  have hl6 : xs.length ≤ 600 := by omega
  have hn1 : n < 1 → xs.length ≤ 1 := fun h => by have := f2 h; omega
  have HXL := Lib.hid hxl
  clear hb2 hxs hts f1 f2 f3 hj HE hxl
  go_wp2_with fail
  go_loopw [7, 8] (fun s i wr => ∃ k : Nat, k ≤ xs.length ∧ i = .int .i64 (k : Int) ∧ s = .string (str ((each line n).take k).flatten) ∧ wr = w2) (fun _ i _ => xs.length - (intOf i).toNat)
  case atStart => exact ⟨0, Nat.zero_le _, rfl, rfl, rfl⟩
  case round =>
    obtain ⟨k, hk, rfl, rfl, rfl⟩ := hrel
    by_cases hlt : k < xs.length
    · have hkl : (k : Int) < (xs.length : Int) := by omega
      have hle : k < (each line n).length := by rw [← HXL.out]; exact hlt
      obtain ⟨b, off, rfl, hbl, hc⟩ := HTS.out.1 (by omega)
      have c1 := hc k hlt
      have hty : xs[k].text = (each line n)[k] := by
        have := List.getElem_map (f := TxV.text) (l := xs) (i := k) (h := by rw [List.length_map]; exact hlt)
        rw [← this]
        exact List.getElem_of_eq HX.out _
      obtain ⟨g1, g2⟩ := HF1.out k hle
      have hft := flat_take (each line n) k hle
      have hfl := flat_le (each line n) (k + 1)
      rw [HJ.out] at hfl
      rw [hft, List.length_append] at hfl
      rw [← HXL.out] at g2
      rw [← hty] at g1 g2 hft hfl
      have hcv := str_of_bs xs[k].cap (HTS.out.2 _ (List.getElem_mem hlt))
      have HF := Lib.hid hft
      have z1 := str_size ((each line n).take k).flatten
      have z2 := str_size xs[k].text
      have hap := Tri.str_append ((each line n).take k).flatten xs[k].text
      clear hc hty hft hle
      generalize xs[k].text = y at *
      generalize xs[k].a = ay at *
      generalize xs[k].cap = cy at *
      have y0 : ((y.length : Int) == 0) = false := by rw [beq_eq_false_iff_ne]; omega
      by_cases hn : n < 1
      · have n1 : ¬ (1 : Int) ≤ n := by omega
        clear g2 hn1
        go_wp2_with fail
        go_roundw
        case rel => exact ⟨k + 1, by omega, by go_num, by rw [HF.out], trivial⟩
        case measure => simp [intOf]; omega
      · have n1 : (1 : Int) ≤ n := by omega
        obtain ⟨g3, g4⟩ := g2 n1
        have y1 : ¬ n < (y.length : Int) := by omega
        by_cases hlast : k + 1 < xs.length
        · have y2 : (k : Int) < (xs.length : Int) - 1 := by omega
          have y3 : ((y.length : Int) != n) = false := by rw [bne_eq_false_iff_eq]; exact g4 hlast
          clear g2 hn1 g3 g4
          go_wp2_with fail
          go_roundw
          case rel => exact ⟨k + 1, by omega, by go_num, by rw [HF.out], trivial⟩
          case measure => simp [intOf]; omega
        · have y2 : ¬ (k : Int) < (xs.length : Int) - 1 := by omega
          clear g2 hn1 g3 g4
          go_wp2_with fail
          go_roundw
          case rel => exact ⟨k + 1, by omega, by go_num, by rw [HF.out], trivial⟩
          case measure => simp [intOf]; omega
    · obtain rfl : k = xs.length := by omega
      have hfull : ((each line n).take xs.length).flatten = line := by rw [HXL.out, List.take_length, HJ.out]
      rw [hfull]
      have hcl := str_of_bs cline ((HT.out.keep HB2.out).more HB2.out.size)
      have e4 : ((str line).toList == (str line).toList) = true := by simp
      by_cases hn : n < 1
      · have n1 : ¬ (1 : Int) ≤ n := by omega
        have y2 : (xs.length : Int) ≤ 1 := by have := hn1 hn; omega
        clear hn1
        go_wp2_with fail
        go_ret
        exact ⟨ret_bool (by simp), HB2.out⟩
      · have n1 : (1 : Int) ≤ n := by omega
        clear hn1
        go_wp2_with fail
        go_ret
        exact ⟨ret_bool (by simp), HB2.out⟩
end Go.Proofs.Ytlpjghhmacobdaa.cutsEach
