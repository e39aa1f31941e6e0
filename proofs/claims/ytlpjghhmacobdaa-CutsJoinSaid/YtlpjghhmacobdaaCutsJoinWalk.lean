/- The walk of CutsJoin. -/
import Derived.Test.YtlpjghhmacobdaaCutD
namespace Go.Proofs.Ytlpjghhmacobdaa.cutsJoin
open Go.Proofs.Ytlpjghhmacobdaa.Tri Go.Proofs.Ytlpjghhmacobdaa.Lnk Go.Proofs.Ytlpjghhmacobdaa.Cts Go.Proofs.Ytlpjghhmacobdaa.Reg Go.RowKit Go.Maps
set_option maxRecDepth 100000
set_option linter.unusedVariables false
theorem flat_take (L : List (List UInt8)) (k : Nat) (h : k < L.length) : (L.take (k + 1)).flatten = (L.take k).flatten ++ L[k] := by
  rw [List.take_succ_eq_append_getElem h, List.flatten_append]
  simp
theorem flat_le (L : List (List UInt8)) (k : Nat) : (L.take k).flatten.length ≤ L.flatten.length := by
  have h : L.flatten = (L.take k).flatten ++ (L.drop k).flatten := by rw [← List.flatten_append, List.take_append_drop]
  rw [h, List.length_append]; omega
/-- The first so many of them, but for one. -/
def rest (L : List (List UInt8)) (m : Nat) : Nat → List UInt8
  | 0 => []
  | k + 1 => if k = m then rest L m k else rest L m k ++ L.getD k []
theorem rest_le (L : List (List UInt8)) (m : Nat) : ∀ k, k ≤ L.length → (rest L m k).length ≤ (L.take k).flatten.length
  | 0, _ => Nat.zero_le _
  | k + 1, h => by
    have ih := rest_le L m k (by omega)
    rw [flat_take L k h, List.length_append, rest]
    split
    · omega
    · rw [List.length_append, List.getD_eq_getElem?_getD, List.getElem?_eq_getElem h, Option.getD_some]
      omega
theorem rest_at (L : List (List UInt8)) (m : Nat) : rest L m (m + 1) = rest L m m := if_pos rfl
theorem rest_not (L : List (List UInt8)) {m k : Nat} (h : k ≠ m) (hk : k < L.length) : rest L m (k + 1) = rest L m k ++ L[k] := by
  rw [rest, if_neg h, List.getD_eq_getElem?_getD, List.getElem?_eq_getElem hk, Option.getD_some]
/-- A text that grew, in a row that is new. -/
theorem grown_text {W : World} {base n : Nat} {v : Value} {y : List UInt8} (h : W.ownsRow base 5 1 v (n + 3) (vals y ++ [.int .u8 120, .int .u8 121, .int .u8 122])) :
    ∃ g cap, ∃ c : UInt8, v = .slice (some ⟨g, 0, none⟩) (n + 3) cap ∧ base ≤ g ∧ W.cell? ⟨g, 0, none⟩ = some (.int .u8 (c.toNat : Int)) ∧ W.frozen? ⟨g, 0, none⟩ = false := by
  rw [show vals y ++ [.int .u8 120, .int .u8 121, .int .u8 122] = vals (y ++ [120, 121, 122]) from by simp [vals]] at h
  rcases h.2 with ⟨_, e⟩ | ⟨g, cap, cur, rfl, hg, hh, hnc, _, hs, ht⟩
  · omega
  · have hl : (y ++ [120, 121, 122]).length = n + 3 := by have := h.1; rwa [vals_length, Nat.mul_one] at this
    refine ⟨g, cap, (y ++ [120, 121, 122])[0]'(by omega), rfl, hg, ?_, ?_⟩
    · rw [cell_of_row W g 0 _ 5 (0, 0) hh]
      have e : (cur.toList.take ((n + 3) * 1))[0]? = (vals (y ++ [120, 121, 122]))[0]? := by rw [ht]
      rw [List.getElem?_take_of_lt (by omega), Array.getElem?_toList] at e
      rw [e, vals, List.getElem?_map, List.getElem?_eq_getElem (by omega)]
      rfl
    · simp [World.frozen?, hh]
theorem pick_m (k : UInt8) (n : Nat) : ∃ m, m < n + 1 ∧ (wrap64 (k.toNat : Int)).tmod ((n : Int) + 1) = (m : Int) := by
  refine ⟨k.toNat % (n + 1), Nat.mod_lt _ (Nat.succ_pos n), ?_⟩
  have hwr : wrap64 (k.toNat : Int) = (k.toNat : Int) := by unfold wrap64; have := k.toNat_lt; omega
  rw [hwr, Int.tmod_eq_emod_of_nonneg (Int.natCast_nonneg _), Int.natCast_emod]
  rfl
theorem bs_holds {w : World} {B : Nat} {a : Option Addr} {l : List UInt8} (h : Bs w B a l) : ∀ b, a = some b → ∀ j u, (vals l)[j]? = some u → w.cell? (b.add j) = some u := by
  intro b0 e0 j u hj
  have hjl : j < l.length := by
    have := (List.getElem?_eq_some_iff.1 hj).1
    simpa [vals] using this
  obtain ⟨b, off, e, _, hc⟩ := h (by omega)
  obtain rfl := Option.some.inj (e0.symm.trans e)
  rw [add_at, hc j hjl]
  simpa [vals, hjl] using hj

set_option maxHeartbeats 8000000 in
theorem walk (w : World) (line : List UInt8) (aline : Option Addr) (cline : Nat) (hmline : line.length ≤ maxLen) (hbline : Bs w w.heap.size aline line) (hnline : aline = none → cline = 0) (l : List Int) (al : Option Addr) (cl : Nat) (hml : l.length ≤ maxLen) (hil : Is w w.heap.size al l) (hwl : ∀ i ∈ l, (Lit.int .i64 i).wf = true) (k : UInt8) :
    Calls Try.prog 4 #[.slice aline line.length cline, .slice al l.length cl, .int .u8 (k.toNat : Int)] w fun e w' => e = .returned (.bool true) ∧ Below w.heap.size w w' := by
  have HT := Lib.hid hbline
  have HNT := Lib.hid hnline
  have HL := Lib.hid hil
  have HWL := Lib.hid hwl
  have HAW := Lib.hid (awake_any w)
  clear hbline hil hwl hnline
  go_enter Try.func4, Try.ntmps4
  go_wp2_with fail
  refine HAW.out.mono ?_
  rintro e' w1 ⟨rfl, hb1⟩
  have HB1 := Lib.hid hb1
  clear HAW hb1
  by_cases hA : line.length ≤ 400
  rotate_left
  · have hAi : ¬ (line.length : Int) ≤ 400 := by omega
    go_wp2_with fail
    go_ret
    exact ⟨rfl, HB1.out⟩
  have hAi : (line.length : Int) ≤ 400 := by omega
  by_cases hB : l.length ≤ 60
  rotate_left
  · have hBi : ¬ (l.length : Int) ≤ 60 := by omega
    go_wp2_with fail
    go_ret
    exact ⟨rfl, HB1.out⟩
  have hBi : (l.length : Int) ≤ 60 := by omega
  have hsz := HB1.out.size
  have CP : Hid (∀ X, Below w1.heap.size w1 X → Calls Try.prog 9 #[.slice aline line.length cline, .slice al l.length cl] X (GivesPcs X (pieces line l))) := Lib.hid fun X h => pieces_any X line aline cline ((HT.out.keep (HB1.out.trans (h.mono hsz))).more (HB1.out.trans (h.mono hsz)).size) HNT.out (by omega) l HWL.out al cl ((HL.out.keep (HB1.out.trans (h.mono hsz))).more (HB1.out.trans (h.mono hsz)).size) (by omega)
  go_wp2_with fail
  refine (CP.out _ (Below.refl _ _)).mono ?_
  rintro e' w2 ⟨xs, ax, cx, rfl, hxs, hts, hcap, hnew, hb2⟩
  have hj := pieces_join line l
  have hpl := pieces_len line l
  have hxl : xs.length = l.length + 1 := by rw [← hpl, ← hxs, List.length_map]
  have HX := Lib.hid hxs
  have HTS := Lib.hid hts
  have HCAP := Lib.hid hcap
  have HB12 := Lib.hid hb2
  have HB2 := Lib.hid (HB1.out.trans (hb2.mono HB1.out.size))
  have HJ := Lib.hid hj
  have HPL := Lib.hid hpl
  have hl6 : xs.length ≤ 61 := by omega
  clear hb2 hxs hts hcap hnew hj hpl
  go_wp2_with fail
  go_loopw [9, 10] (fun s i wr => ∃ k : Nat, k ≤ l.length + 1 ∧ i = .int .i64 (k : Int) ∧ s = .string (str ((pieces line l).take k).flatten) ∧ wr = w2) (fun _ i _ => l.length + 1 - (intOf i).toNat)
  case atStart => exact ⟨0, Nat.zero_le _, rfl, rfl, rfl⟩
  case round =>
    obtain ⟨k, hk, rfl, rfl, rfl⟩ := hrel
    by_cases hlt : k < l.length + 1
    · have hkl : (k : Int) < (l.length : Int) + 1 := by omega
      have hle : k < (pieces line l).length := by rw [HPL.out]; exact hlt
      have hkx : k < xs.length := by omega
      obtain ⟨b, off, rfl, hbl, hc⟩ := HTS.out.1 (by omega)
      have c1 := hc k hkx
      have hty : xs[k].text = (pieces line l)[k] := by
        have := List.getElem_map (f := TxV.text) (l := xs) (i := k) (h := by rw [List.length_map]; exact hkx)
        rw [← this]
        exact List.getElem_of_eq HX.out _
      have hft := flat_take (pieces line l) k hle
      have hfl := flat_le (pieces line l) (k + 1)
      rw [HJ.out] at hfl
      rw [hft, List.length_append] at hfl
      rw [← hty] at hft hfl
      have hcv := str_of_bs xs[k].cap (HTS.out.2 _ (List.getElem_mem hkx))
      have HF := Lib.hid hft
      have z1 := str_size ((pieces line l).take k).flatten
      have z2 := str_size xs[k].text
      have hap := Tri.str_append ((pieces line l).take k).flatten xs[k].text
      clear hc hty hft hle
      generalize xs[k].text = y at *
      generalize xs[k].a = ay at *
      generalize xs[k].cap = cy at *
      go_wp2_with fail
      go_roundw
      case rel => exact ⟨k + 1, by omega, by go_num, by rw [HF.out], trivial⟩
      case measure => simp [intOf]; omega
    · obtain rfl : k = l.length + 1 := by omega
      have hfull : ((pieces line l).take (l.length + 1)).flatten = line := by rw [← HPL.out, List.take_length, HJ.out]
      rw [hfull]
      have hcl := str_of_bs cline ((HT.out.keep HB2.out).more HB2.out.size)
      have e4 : ((str line).toList != (str line).toList) = false := by simp
      have hkn : ¬ ((l.length : Int) + 1 < (l.length : Int) + 1) := by omega
      have e5 : (((l.length : Int) + 1) != ((l.length : Int) + 1)) = false := by simp
      obtain ⟨i0, hi, hz0, hz1, hz2⟩ := info_parts info5
      obtain ⟨m, hml1, hm⟩ := pick_m k l.length
      have HM := Lib.hid hm
      clear hm
      have hml2 : (m : Int) < (l.length : Int) + 1 := by omega
      have hmx : m < xs.length := by omega
      obtain ⟨b, off, rfl, hbl, hc⟩ := HTS.out.1 (by omega)
      have c1 := hc m hmx
      have hby := HTS.out.2 _ (List.getElem_mem hmx)
      have hcy := HCAP.out _ (List.getElem_mem hmx)
      have hny := xs[m].nil0
      have hly : xs[m].text.length ≤ 400 := by
        have h1 : xs[m].text ∈ pieces line l := by rw [← HX.out]; exact List.mem_map_of_mem (List.getElem_mem hmx)
        have h2 := part_le h1
        rw [HJ.out] at h2
        omega
      rw [hcy] at c1 hny
      have hm := HM.out
      clear hc hcy HM
      generalize xs[m].text = y at *
      generalize xs[m].a = ay at *
      have HBY := Lib.hid hby
      have HNY := Lib.hid hny
      clear hby hny
      go_wp2_with (at_builtin; refine wpList_append_grows _ rfl _ _ 22 rfl 5 i0 (.int .u8 0) 1 1 Try.underlying22 hi hz0 hz1 hz2 rfl (by decide) ay y.length y.length (vals y) rfl (fun e => ⟨HNY.out e, HNY.out e⟩) (by rw [vals_length, Nat.mul_one]) (bs_holds (HBY.out.keep (below_new wr _))) ⟨wr.heap.size, 0, none⟩ 3 3 [.int .u8 120, .int .u8 121, .int .u8 122] rfl rfl (cells_new3 wr _ _ _ _) (by intro u hu; simp only [List.mem_cons, List.not_mem_nil, or_false] at hu; rcases hu with rfl | rfl | rfl <;> rfl) (by omega) (by unfold maxLen; omega) (by omega) ?_; intro v4 w4 hown4 hg4; obtain ⟨g4, cap4, ch, rfl, hge4, hce4, hfr4⟩ := grown_text hown4; have HB4 := Lib.hid ((below_new wr _).grown hg4 (below_new wr _).size (fun k hk => by cases hk)); clear hown4 hg4)
      have hszr := HB12.out.size
      have HB5 := Lib.hid (HB4.out.setCell (p := ⟨g4, 0, none⟩) (Nat.le_trans (below_new wr _).size hge4) (.int .u8 (((ch.toNat : Int) + 1) % 256)))
      have HBX := Lib.hid (HB12.out.trans (HB5.out.mono hszr))
      clear hce4 hfr4 HB4 c1 HBY HNY hm
      refine (CP.out _ HBX.out).mono ?_
      rintro e' w5 ⟨ys, ab, cb, rfl, hys, hts5, _, _, hb5⟩
      have hyl : ys.length = l.length + 1 := by rw [← HPL.out, ← hys, List.length_map]
      have HY := Lib.hid hys
      have HTY := Lib.hid hts5
      have B5 := HB5.out.trans (hb5.mono HB5.out.size)
      have HTX := Lib.hid (HTS.out.keep B5)
      have HB6 := Lib.hid (HB2.out.trans (B5.mono HB2.out.size))
      clear hys hts5 hb5 B5 HB5 HBX
      go_wp2_with fail
      go_loopw [13, 14, 16] (fun s z i wx => ∃ k : Nat, k ≤ l.length + 1 ∧ i = .int .i64 (k : Int) ∧ s = .string (str (rest (pieces line l) m k)) ∧ z = .string (str (rest (pieces line l) m k)) ∧ wx = w5) (fun _ _ i _ => l.length + 1 - (intOf i).toNat)
      case atStart => exact ⟨0, Nat.zero_le _, rfl, rfl, rfl, rfl⟩
      case round =>
        obtain ⟨j, hj, rfl, rfl, rfl, rfl⟩ := hrel
        by_cases hlt : j < l.length + 1
        · have hkl : (j : Int) < (l.length : Int) + 1 := by omega
          by_cases hjm : j = m
          · have hje : ((j : Int) != (m : Int)) = false := by rw [bne_eq_false_iff_eq]; omega
            have hra : rest (pieces line l) m (j + 1) = rest (pieces line l) m j := by rw [hjm]; exact rest_at _ _
            have HF := Lib.hid hra
            clear hra
            go_wp2_with fail
            go_roundw
            case rel => exact ⟨j + 1, by omega, by go_num, by rw [HF.out], by rw [HF.out], trivial⟩
            case measure => simp [intOf]; omega
          · have hje : ((j : Int) != (m : Int)) = true := by rw [bne_iff_ne]; omega
            have hle : j < (pieces line l).length := by rw [HPL.out]; exact hlt
            have hjx : j < xs.length := by omega
            have hjy : j < ys.length := by omega
            obtain ⟨b1, o1, e1, hb1, hc1⟩ := HTX.out.1 (by omega)
            obtain ⟨b2, o2, rfl, hb2, hc2⟩ := HTY.out.1 (by omega)
            have e1' := Option.some.inj e1
            injection e1' with e1a e1b
            subst e1a
            subst e1b
            have c1 := hc1 j hjx
            have c2 := hc2 j hjy
            have hty : xs[j].text = (pieces line l)[j] := by
              have := List.getElem_map (f := TxV.text) (l := xs) (i := j) (h := by rw [List.length_map]; exact hjx)
              rw [← this]
              exact List.getElem_of_eq HX.out _
            have htz : ys[j].text = (pieces line l)[j] := by
              have := List.getElem_map (f := TxV.text) (l := ys) (i := j) (h := by rw [List.length_map]; exact hjy)
              rw [← this]
              exact List.getElem_of_eq HY.out _
            have hft := rest_not (pieces line l) hjm hle
            have hfl := rest_le (pieces line l) m (j + 1) hle
            have hfl2 := flat_le (pieces line l) (j + 1)
            rw [HJ.out] at hfl2
            rw [hft, List.length_append] at hfl
            rw [← hty] at hft hfl
            have hcx := str_of_bs xs[j].cap (HTX.out.2 _ (List.getElem_mem hjx))
            have hcz := str_of_bs ys[j].cap (HTY.out.2 _ (List.getElem_mem hjy))
            have HF := Lib.hid hft
            have z1 := str_size (rest (pieces line l) m j)
            have z2 := str_size xs[j].text
            have hap := Tri.str_append (rest (pieces line l) m j) xs[j].text
            have hxy : ys[j].text = xs[j].text := htz.trans hty.symm
            rw [hxy] at c2 hcz
            have hr4 : (rest (pieces line l) m j).length + xs[j].text.length ≤ 400 := by omega
            clear hc1 hc2 hty htz hft hle hxy hfl hfl2 e1
            generalize xs[j].text = y2 at *
            generalize xs[j].a = ay1 at *
            generalize xs[j].cap = cy1 at *
            generalize ys[j].a = ay2 at *
            generalize ys[j].cap = cy2 at *
            go_wp2_with fail
            go_roundw
            case rel => exact ⟨j + 1, by omega, by go_num, by rw [HF.out], by rw [HF.out], trivial⟩
            case measure => simp [intOf]; omega
        · obtain rfl : j = l.length + 1 := by omega
          have e9 : ((str (rest (pieces line l) m (l.length + 1))).toList == (str (rest (pieces line l) m (l.length + 1))).toList) = true := by simp
          go_wp2_with fail
          go_ret
          exact ⟨ret_bool (by simp), HB6.out⟩
end Go.Proofs.Ytlpjghhmacobdaa.cutsJoin
