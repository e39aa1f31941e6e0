/- The walk of CwalterWindows. -/
import Derived.Test.YtmbglghpnloggaaRc
namespace Go.Proofs.Ytmbglghpnloggaa.cwalterWindows
open Go.Proofs.Ytmbglghpnloggaa.Tri Go.Proofs.Ytmbglghpnloggaa.Lnk Go.Proofs.Ytmbglghpnloggaa.Prs Go.Proofs.Ytmbglghpnloggaa.Spa Go.Proofs.Ytmbglghpnloggaa.Cwl Go.Proofs.Ytmbglghpnloggaa.Bck Go.Proofs.Ytmbglghpnloggaa.Wal Go.Proofs.Ytmbglghpnloggaa.Reg Go.RowKit Go.Maps
set_option maxRecDepth 100000
set_option linter.unusedVariables false
/-- The shortest of the first i texts, the empty ones left out, as a loop finds it. -/
def lessTo (l : List Tx) : Nat → Nat
  | 0 => 0
  | i + 1 => if 0 < (l.getD i []).length ∧ (lessTo l i = 0 ∨ (l.getD i []).length < lessTo l i) then (l.getD i []).length else lessTo l i
theorem lessTo_spec (l : List Tx) : ∀ i, i ≤ l.length → (lessTo l i = 0 ∧ (∀ x ∈ l.take i, x = [])) ∨ (0 < lessTo l i ∧ (∃ x ∈ l.take i, x.length = lessTo l i) ∧ ∀ x ∈ l.take i, x ≠ [] → lessTo l i ≤ x.length)
  | 0, _ => .inl ⟨rfl, fun x h => by simp at h⟩
  | i + 1, hi => by
    have hlt : i < l.length := by omega
    have hg : l.getD i [] = l[i] := by rw [List.getD_eq_getElem?_getD, List.getElem?_eq_getElem hlt]; rfl
    have hm : ∀ x, x ∈ l.take (i + 1) ↔ x ∈ l.take i ∨ x = l[i] := fun x => by rw [List.take_succ_eq_append_getElem hlt, List.mem_append, List.mem_singleton]
    have ih := lessTo_spec l i (by omega)
    rw [lessTo, hg]
    by_cases hp : 0 < l[i].length
    · rcases ih with ⟨h0, hno⟩ | ⟨h0, ⟨x, hx, e⟩, hle⟩
      · rw [if_pos ⟨hp, .inl h0⟩]
        refine .inr ⟨hp, ⟨l[i], (hm _).2 (.inr rfl), rfl⟩, fun y hy hy0 => ?_⟩
        rcases (hm y).1 hy with h | h
        · exact absurd (hno y h) hy0
        · rw [h]; exact Nat.le_refl _
      · by_cases hls : l[i].length < lessTo l i
        · rw [if_pos ⟨hp, .inr hls⟩]
          refine .inr ⟨hp, ⟨l[i], (hm _).2 (.inr rfl), rfl⟩, fun y hy hy0 => ?_⟩
          rcases (hm y).1 hy with h | h
          · have := hle y h hy0; omega
          · rw [h]; exact Nat.le_refl _
        · rw [if_neg (by omega)]
          refine .inr ⟨h0, ⟨x, (hm _).2 (.inl hx), e⟩, fun y hy hy0 => ?_⟩
          rcases (hm y).1 hy with h | h
          · exact hle y h hy0
          · rw [h]; omega
    · rw [if_neg (fun h => hp h.1)]
      have hn : l[i] = [] := List.eq_nil_of_length_eq_zero (by omega)
      rcases ih with ⟨h0, hno⟩ | ⟨h0, ⟨x, hx, e⟩, hle⟩
      · refine .inl ⟨h0, fun y hy => ?_⟩
        rcases (hm y).1 hy with h | h
        · exact hno y h
        · rw [h, hn]
      · refine .inr ⟨h0, ⟨x, (hm _).2 (.inl hx), e⟩, fun y hy hy0 => ?_⟩
        rcases (hm y).1 hy with h | h
        · exact hle y h hy0
        · rw [h] at hy0; exact absurd hn hy0
theorem lessTo_all (l : List Tx) : lessTo l l.length = Cwl.leastOf (turned l) := by
  have hp : ∀ z ∈ turned l, 0 < z.length := fun z h => turned_ne h
  rcases lessTo_spec l l.length (Nat.le_refl _) with ⟨h0, hno⟩ | ⟨h0, ⟨x, hx, e⟩, hle⟩
  · rw [List.take_length] at hno
    have : turned l = [] := by
      refine List.eq_nil_iff_forall_not_mem.2 fun z hz => ?_
      have h1 := (mem_turned l z).1 hz
      exact h1.1 (by simpa using hno _ h1.2)
    rw [h0, this]; rfl
  · rw [List.take_length] at hx hle
    have hx0 : x ≠ [] := fun h => by rw [h] at e; simp at e; omega
    have hm : x.reverse ∈ turned l := (mem_turned l _).2 ⟨by simpa using hx0, by simpa using hx⟩
    have hne : turned l ≠ [] := fun h => by rw [h] at hm; cases hm
    have h1 := Cwl.least_le hp hm
    rw [List.length_reverse] at h1
    obtain ⟨z, hz, e2⟩ := Cwl.least_is hne
    have h3 := (mem_turned l z).1 hz
    have h4 := hle z.reverse h3.2 (by simpa using h3.1)
    rw [List.length_reverse] at h4
    omega
theorem move_least (l : List Tx) (line : Tx) (e : Nat) (he : e ≤ line.length) : moveOf l line e ≤ Cwl.leastOf (turned l) := by
  rw [move_is l line e he]
  split
  · exact Nat.le_trans (far_le _ _ _ _) (second_le _ _)
  · exact second_le _ _
theorem winds_next {l : List Tx} (ht : turned l ≠ []) (line : Tx) : ∀ f e, line.length < e + f → ∀ i (h : i + 1 < (windows l line f e).length), (windows l line f e)[i + 1] = (windows l line f e)[i] + moveOf l line (windows l line f e)[i]
  | 0, e, _, i, h => by simp [windows] at h
  | f + 1, e, hf, i, h => by
    by_cases he : e ≤ line.length
    · have hw := windows_go (l := l) he hf
      rw [Nat.add_sub_cancel] at hw
      simp only [hw] at h ⊢
      cases i with
      | zero =>
        rw [List.getElem_cons_succ, List.getElem_cons_zero]
        simp only [List.length_cons] at h
        cases f with
        | zero => simp [windows] at h
        | succ f =>
          have hw2 : windows l line (f + 1) (e + moveOf l line e) = if e + moveOf l line e ≤ line.length then (e + moveOf l line e) :: windows l line f (e + moveOf l line e + moveOf l line (e + moveOf l line e)) else [] := rfl
          by_cases h2 : e + moveOf l line e ≤ line.length
          · rw [if_pos h2] at hw2; simp only [hw2, List.getElem_cons_zero]
          · rw [if_neg h2] at hw2; rw [hw2] at h; simp at h
      | succ i =>
        simp only [List.length_cons] at h
        simp only [List.getElem_cons_succ]
        have hm := move_pos ht line e
        exact winds_next ht line f _ (by omega) i (by omega)
    · rw [windows_end (f := f + 1) (by omega)] at h; simp at h
theorem winds_last {l : List Tx} (ht : turned l ≠ []) (line : Tx) : ∀ f e, e ≤ line.length → line.length < e + f → ∃ h : 0 < (windows l line f e).length, (windows l line f e)[(windows l line f e).length - 1] ≤ line.length ∧ line.length < (windows l line f e)[(windows l line f e).length - 1] + moveOf l line (windows l line f e)[(windows l line f e).length - 1]
  | 0, e, he, hf => by omega
  | f + 1, e, he, hf => by
    have hw := windows_go (l := l) he hf
    rw [Nat.add_sub_cancel] at hw
    have hm := move_pos ht line e
    by_cases h2 : e + moveOf l line e ≤ line.length
    · obtain ⟨h3, h4, h5⟩ := winds_last ht line f (e + moveOf l line e) h2 (by omega)
      simp only [hw, List.length_cons]
      refine ⟨by omega, ?_⟩
      have e1 : (e :: windows l line f (e + moveOf l line e))[(windows l line f (e + moveOf l line e)).length + 1 - 1]'(by simp) = (windows l line f (e + moveOf l line e))[(windows l line f (e + moveOf l line e)).length - 1] := by
        rw [List.getElem_cons]
        rw [dif_neg (by omega)]
        rfl
      rw [e1]
      exact ⟨h4, h5⟩
    · have hn : windows l line f (e + moveOf l line e) = [] := windows_end (by omega)
      rw [hn] at hw
      simp only [hw, List.length_cons, List.length_nil]
      exact ⟨by omega, he, by show line.length < e + moveOf l line e; omega⟩
/-- What the document says of windows, as numbers. -/
structure Winds (E : List Int) (m n : Nat) : Prop where
  some : 0 < E.length
  first : ∃ h : 0 < E.length, E[0]'h = (m : Int)
  last : ∃ h : E.length - 1 < E.length, E[E.length - 1]'h ≤ (n : Int) ∧ (n : Int) < E[E.length - 1]'h + m
  next : ∀ i (h : i + 1 < E.length), E[i]'(Nat.lt_of_succ_lt h) < E[i + 1]'h ∧ E[i + 1]'h ≤ E[i]'(Nat.lt_of_succ_lt h) + m
  bound : ∀ i (h : i < E.length), 0 ≤ E[i]'h ∧ E[i]'h ≤ n
theorem winds_list {W : List Nat} {m n : Nat} {mv : Nat → Nat} (hml : ∀ e ∈ W, mv e ≤ m) (hmp : ∀ e ∈ W, 0 < mv e) (hb : ∀ e ∈ W, e ≤ n) (hf : ∃ h : 0 < W.length, W[0] = m) (hl : ∃ h : 0 < W.length, W[W.length - 1] ≤ n ∧ n < W[W.length - 1] + mv W[W.length - 1])
    (hn : ∀ i (h : i + 1 < W.length), W[i + 1] = W[i] + mv W[i]) : Winds (W.map fun e : Nat => (e : Int)) m n := by
  obtain ⟨g1, hf⟩ := hf
  obtain ⟨_, g2, g3⟩ := hl
  refine ⟨by rw [List.length_map]; exact g1, ⟨by rw [List.length_map]; exact g1, ?_⟩, ⟨by rw [List.length_map]; omega, ?_⟩, fun i h => ?_, fun i h => ?_⟩
  · simp only [List.getElem_map]
    omega
  · have h1 := hml _ (List.getElem_mem (show W.length - 1 < W.length by omega))
    simp only [List.getElem_map, List.length_map]
    omega
  · rw [List.length_map] at h
    have h1 := hn i h
    have h2 := hml _ (List.getElem_mem (show i < W.length by omega))
    have h3 := hmp _ (List.getElem_mem (show i < W.length by omega))
    simp only [List.getElem_map]
    omega
  · rw [List.length_map] at h
    have h1 := hb _ (List.getElem_mem h)
    simp only [List.getElem_map]
    omega
theorem winds_is {l : List Tx} (ht : turned l ≠ []) {line : Tx} (hm : Cwl.leastOf (turned l) ≤ line.length) : Winds (windsOf l line) (Cwl.leastOf (turned l)) line.length := by
  have h0 := least_pos (fun z (hz : z ∈ turned l) => turned_ne hz) ht
  have hb := windows_le l line (line.length + 1) (Cwl.leastOf (turned l))
  have hw := windows_go (l := l) (f := line.length + 1) hm (by omega)
  have e : windsOf l line = (windows l line (line.length + 1) (Cwl.leastOf (turned l))).map fun e : Nat => (e : Int) := if_neg ht
  rw [e]
  refine winds_list (mv := moveOf l line) (fun e he => move_least l line e (hb e he).2) (fun e _ => move_pos ht line e) (fun e he => (hb e he).2) ⟨by rw [hw]; simp, by simp only [hw, List.getElem_cons_zero]⟩ (winds_last ht line (line.length + 1) (Cwl.leastOf (turned l)) hm (by omega)) (winds_next ht line (line.length + 1) (Cwl.leastOf (turned l)) (by omega))
theorem winds_none {l : List Tx} {line : Tx} (h : Cwl.leastOf (turned l) = 0 ∨ line.length < Cwl.leastOf (turned l)) : windsOf l line = [] ∧ scanOf l line = [] := by
  have hp : ∀ z ∈ turned l, 0 < z.length := fun z h => turned_ne h
  constructor
  · unfold windsOf
    by_cases ht : turned l = []
    · rw [if_pos ht]
    · rw [if_neg ht]
      have h0 := least_pos hp ht
      rw [windows_end (by omega)]; rfl
  · refine List.eq_nil_iff_forall_not_mem.2 fun r hr => ?_
    rw [← occ_scan] at hr
    obtain ⟨a, b, _, h1, h2, h3, _⟩ := (mem_occ l line r line.length (Nat.le_refl _)).1 hr
    have h4 := first_window h1 h2 h3
    have ht : turned l ≠ [] := fun e => by
      have hne : (line.take b).drop a ≠ [] := fun h => by
        have := congrArg List.length h
        rw [List.length_drop, List.length_take] at this
        simp at this; omega
      have : ((line.take b).drop a).reverse ∈ turned l := (mem_turned l _).2 ⟨by simpa using hne, by simpa using h3⟩
      rw [e] at this; cases this
    have h0 := least_pos hp ht
    omega
theorem ends_winds {l : List Tx} {line : Tx} {r : Pr} (hr : r ∈ scanOf l line) (h0 : Cwl.leastOf (turned l) ≠ 0) : r.e ∈ windsOf l line := by
  rw [← occ_scan] at hr
  obtain ⟨a, b, _, h1, h2, h3, rfl⟩ := (mem_occ l line r line.length (Nat.le_refl _)).1 hr
  have ht : turned l ≠ [] := fun e => h0 (by rw [e]; rfl)
  have hw := windows_all ht h1 h2 h3 (line.length + 1) (Cwl.leastOf (turned l)) (by omega) (first_window h1 h2 h3) (by omega)
  unfold windsOf
  rw [if_neg ht]
  exact List.mem_map.2 ⟨b, hw, rfl⟩

set_option maxHeartbeats 8000000 in
theorem small (w : World) (xs : List TxV) (a0 : Option Addr) (cap0 : Nat) (hts : Ts w a0 xs) (h0 : xs.length ≤ 12) (hx : ∀ x ∈ xs, x.text.length ≤ 40) (line : Tx) (aline : Option Addr) (cline : Nat) (hmline : line.length ≤ maxLen) (hbline : Bs w w.heap.size aline line) (hnline : aline = none → cline = 0) (hcline : line.length ≤ cline) :
    Calls Try.prog 6 #[.slice a0 xs.length cap0, .slice aline line.length cline] w fun e w' => e = .returned (.bool true) ∧ Below w.heap.size w w' := by
  have KL : Hid (Ln w aline line cline) := Lib.hid ⟨hbline, hcline, hnline⟩
  clear hbline hcline hnline hmline
  have hx' : ∀ x ∈ xs, x.text.length ≤ maxLen := fun x h => Nat.le_trans (hx x h) (by unfold maxLen; omega)
  have htot := Spa.few_tot h0 hx
  have HX := Lib.hid hx
  have HX' := Lib.hid hx'
  have HAW := Lib.hid (Wal.awake_any w)
  clear hx hx'
  go_enter Try.func6, Try.ntmps6
  go_wp2_with fail
  refine HAW.out.mono ?_
  rintro e' w1 ⟨rfl, hb2⟩
  have ts1 := hts.keep hb2
  go_wp2_with fail
  refine (ltexts_any xs a0 cap0 w1 ts1 (by omega) HX'.out).mono ?_
  rintro e' w2 ⟨hb3, hcase⟩
  rcases hcase with ⟨hbad, _⟩ | ⟨_, aL, cL, rfl, hsL⟩
  · exact absurd HX.out hbad
  rw [decide_eq_true h0]
  have HTS := Lib.hid (ts1.keep hb3)
  have HB := Lib.hid (hb2.trans (hb3.mono hb2.size))
  have hszw := HB.out.size
  obtain ⟨l, hl⟩ : ∃ l, l = xs.map TxV.text := ⟨_, rfl⟩
  have HLN : Hid (xs.length = l.length) := Lib.hid (by rw [hl]; simp)
  have HLL := Lib.hid hl
  have HL40 : Hid (∀ x ∈ l, x.length ≤ 40) := Lib.hid fun x h => by
    rw [hl] at h
    obtain ⟨y, hy, rfl⟩ := List.mem_map.1 h
    exact HX.out y hy
  rw [← hl] at hsL htot
  have HSL := Lib.hid hsL
  have HNEW : Hid (∀ X, Below w2.heap.size w2 X → Calls Try.prog 13 #[.slice a0 xs.length cap0] X (GivesCw X l)) := Lib.hid fun X hX => by
    have := wnew_any X xs a0 cap0 (HTS.out.keep hX) (by omega) (fun x h => Nat.le_trans (HX.out x h) (by omega)) (by rw [← HLL.out]; omega)
    rwa [← HLL.out] at this
  have LL : Hid (∀ X, Below w2.heap.size w2 X → Ln X aline line cline) := Lib.hid fun X hX => (KL.out.keep HB.out).keep hX
  clear HAW KL hb2 hb3 ts1 hsL hts hl HX'
  by_cases hf : line.length ≤ 300
  · have hfi : ¬ (300 : Int) < (line.length : Int) := by omega
    have HTC := Lib.hid (fun (h : 0 < xs.length) => (HTS.out.1 h))
    go_wp2
    go_loop [8, 9] (fun vm vi => ∃ i : Nat, i ≤ xs.length ∧ vm = .int .i64 (lessTo l i : Int) ∧ vi = .int .i64 (i : Int)) (fun _ v => xs.length - (intOf v).toNat)
    case atStart => exact ⟨0, Nat.zero_le _, rfl, rfl⟩
    case round =>
      obtain ⟨i, hi, rfl, rfl⟩ := hrel
      by_cases hlt : i < xs.length
      · have hlx : (i : Int) < (xs.length : Int) := by omega
        obtain ⟨b, off, rfl, hbl, hc⟩ := HTC.out (by omega)
        have hck := hc i hlt
        have HST : Hid (lessTo l (i + 1) = if 0 < xs[i].text.length ∧ (lessTo l i = 0 ∨ xs[i].text.length < lessTo l i) then xs[i].text.length else lessTo l i) := Lib.hid (by
          have hlt2 : i < l.length := by have := HLN.out; omega
          have e : l.getD i [] = xs[i].text := by
            rw [List.getD_eq_getElem?_getD, List.getElem?_eq_getElem hlt2]
            simp only [HLL.out, List.getElem_map]
            rfl
          rw [lessTo, e])
        clear hc
        generalize xs[i].text.length = n at *
        generalize xs[i].a = xa at *
        generalize xs[i].cap = xc at *
        generalize lessTo l i = m at *
        have hno : ¬ 9223372036854775807 < i + 1 := by omega
        by_cases h1 : 0 < n
        · have h1i : (0 : Int) < (n : Int) := by omega
          by_cases h2 : m = 0
          · have HS2 : Hid (lessTo l (i + 1) = n) := Lib.hid (by rw [HST.out, if_pos ⟨h1, .inl h2⟩])
            have h2b : ((m : Int) == 0) = true := by simpa using h2
            clear h2 HST
            go_wp2
            exact ⟨⟨i + 1, by omega, by rw [HS2.out], by go_num⟩, by simp [intOf]; omega⟩
          · have h2b : ((m : Int) == 0) = false := by simpa using h2
            by_cases h3 : n < m
            · have h3i : (n : Int) < (m : Int) := by omega
              have HS2 : Hid (lessTo l (i + 1) = n) := Lib.hid (by rw [HST.out, if_pos ⟨h1, .inr h3⟩])
              clear h2 HST
              go_wp2
              exact ⟨⟨i + 1, by omega, by rw [HS2.out], by go_num⟩, by simp [intOf]; omega⟩
            · have h3i : ¬ (n : Int) < (m : Int) := by omega
              have HS2 : Hid (lessTo l (i + 1) = m) := Lib.hid (by rw [HST.out, if_neg (by omega)])
              clear h2 HST
              go_wp2
              exact ⟨⟨i + 1, by omega, by rw [HS2.out], by go_num⟩, by simp [intOf]; omega⟩
        · have h1i : ¬ (0 : Int) < (n : Int) := by omega
          have HS2 : Hid (lessTo l (i + 1) = m) := Lib.hid (by rw [HST.out, if_neg (by omega)])
          clear HST
          go_wp2
          exact ⟨⟨i + 1, by omega, by rw [HS2.out], by go_num⟩, by simp [intOf]; omega⟩
      · have hlx : ¬ (i : Int) < (xs.length : Int) := by omega
        have HEQ : Hid (lessTo l i = Cwl.leastOf (turned l)) := Lib.hid (by
          have e : i = l.length := by have := HLN.out; omega
          rw [e, lessTo_all])
        rw [HEQ.out]
        have hmb : Cwl.leastOf (turned l) ≤ 1000 := by
          by_cases h : turned l = []
          · rw [h]; exact Nat.zero_le _
          · obtain ⟨x, hx, e⟩ := Cwl.least_is h
            rw [e]
            have := HL40.out _ ((mem_turned l x).1 hx).2
            rw [List.length_reverse] at this
            omega
        clear hlt HTC hi
        go_wp2_with fail
        refine (HNEW.out w2 (Below.refl _ _)).mono ?_
        rintro e5 w5 ⟨p, rfl, hcw, b5⟩
        have HB5 := Lib.hid b5
        have HC5 := Lib.hid hcw
        have CE := Lib.hid (wends_any w5 p l hcw line aline cline (LL.out w5 b5) (by omega))
        have hwl := windsOf_len l line
        have hsl := scan_len l line (by omega)
        clear hcw b5
        go_wp2_with fail
        refine CE.out.mono ?_
        rintro e6 w6 ⟨aE, cE, rfl, hie, hb6⟩
        have HB6 := Lib.hid (HB5.out.trans (hb6.mono HB5.out.size))
        have CS0 := Lib.hid (fun X (hX : Below w6.heap.size w6 X) => wscan_any X p l ((HC5.out.keep hb6).keep hX) line aline cline (LL.out X ((HB5.out.trans (hb6.mono HB5.out.size)).trans (hX.mono (HB5.out.trans (hb6.mono HB5.out.size)).size))) (by omega))
        have CS := Lib.hid (CS0.out w6 (Below.refl _ _))
        have HIE := Lib.hid hie
        clear hie hb6 CE HB5 HC5 HNEW
        by_cases hm : Cwl.leastOf (turned l) = 0 ∨ line.length < Cwl.leastOf (turned l)
        · obtain ⟨e1, e2⟩ := winds_none hm
          rw [e2] at CS
          rw [e1]
          clear e1 e2 hwl hsl HIE
          have hmi : (Cwl.leastOf (turned l) : Int) = 0 ∨ ((Cwl.leastOf (turned l) : Int) == 0) = false ∧ (line.length : Int) < (Cwl.leastOf (turned l) : Int) := by
            by_cases h : Cwl.leastOf (turned l) = 0
            · exact .inl (by omega)
            · exact .inr ⟨by simpa using h, by omega⟩
          generalize Cwl.leastOf (turned l) = m at *
          clear hm
          rcases hmi with hmi | ⟨hm0, hmi⟩
          · rw [hmi]
            clear hmi
            go_wp2_with fail
            refine CS.out.mono ?_
            rintro e7 w7 ⟨aX, cX, rfl, _, hb7⟩
            go_wp2
            go_ret
            exact ⟨rfl, HB.out.trans ((HB6.out.trans (hb7.mono HB6.out.size)).mono HB.out.size)⟩
          · go_wp2_with fail
            refine CS.out.mono ?_
            rintro e7 w7 ⟨aX, cX, rfl, _, hb7⟩
            go_wp2
            go_ret
            exact ⟨rfl, HB.out.trans ((HB6.out.trans (hb7.mono HB6.out.size)).mono HB.out.size)⟩
        · have ht : turned l ≠ [] := fun e => hm (.inl (by rw [e]; rfl))
          have hW := winds_is ht (line := line) (by omega)
          have HEW : Hid (∀ r ∈ scanOf l line, r.e ∈ windsOf l line) := Lib.hid fun r hr => ends_winds hr (by omega)
          have hm0 : ((Cwl.leastOf (turned l) : Int) == 0) = false := by
            have : Cwl.leastOf (turned l) ≠ 0 := by omega
            simpa using this
          have hmi : ¬ (line.length : Int) < (Cwl.leastOf (turned l) : Int) := by omega
          clear ht hm HEQ
          generalize Cwl.leastOf (turned l) = m at *
          generalize windsOf l line = E at *
          generalize scanOf l line = Z at *
          have hE0 := hW.some
          obtain ⟨_, hf0⟩ := hW.first
          obtain ⟨hJ, hl1, hl2⟩ := hW.last
          have HNX := Lib.hid hW.next
          have HBD := Lib.hid hW.bound
          clear hW
          obtain ⟨bz, oz, rfl, _, hcz⟩ := HIE.out (by omega)
          have HCZ := Lib.hid hcz
          have hc0 := hcz 0 hE0
          have hcJ := hcz (E.length - 1) hJ
          have hbJ := HBD.out (E.length - 1) hJ
          clear hcz
          rw [hf0, Nat.add_zero] at hc0
          generalize E[E.length - 1] = zl at *
          obtain ⟨J, hJ2⟩ : ∃ J, J = E.length - 1 := ⟨_, rfl⟩
          rw [← hJ2] at hcJ
          have hw1 : IntKind.i64.wrap ((E.length : Int) - 1) = (J : Int) := by rw [IntWalk.i64_in _ (by omega)]; omega
          have hJE : (J : Int) < (E.length : Int) := by omega
          have hEz : ((E.length : Int) == 0) = false := by rw [beq_eq_false_iff_ne]; omega
          have hEi : (0 : Int) < (E.length : Int) := by omega
          have hmm : ((m : Int) != (m : Int)) = false := by simp
          have hl1i : ¬ (line.length : Int) < zl := by omega
          have hl2i : ¬ zl + (m : Int) ≤ (line.length : Int) := by omega
          have hw2 : IntKind.i64.wrap (zl + (m : Int)) = zl + (m : Int) := IntWalk.i64_in _ (by omega)
          clear hJ2 hf0 hl1 hl2
          go_wp2
          go_loopw [12] (fun v wr => ∃ i : Nat, 1 ≤ i ∧ i ≤ E.length ∧ v = .int .i64 (i : Int) ∧ Below w6.heap.size w6 wr) (fun v _ => E.length - (intOf v).toNat)
          case atStart => exact ⟨1, Nat.le_refl _, by omega, rfl, Below.refl _ _⟩
          case round =>
            obtain ⟨i2, hi1, hi2, rfl, hbw⟩ := hrel
            have HBW := Lib.hid hbw
            clear hbw
            by_cases hlt : i2 < E.length
            · have hlti : (i2 : Int) < (E.length : Int) := by omega
              obtain ⟨q, rfl⟩ : ∃ q, i2 = q + 1 := ⟨i2 - 1, by omega⟩
              obtain ⟨hn1, hn2⟩ := HNX.out q hlt
              have hb1 := HBD.out q (by omega)
              obtain ⟨_, _, e3, _, hcq⟩ := (HIE.out.keep HBW.out) (by omega)
              cases e3
              have hc1 := hcq q (by omega)
              have hc2 := hcq (q + 1) hlt
              clear hcq
              generalize E[q + 1] = z2 at *
              generalize E[q] = z1 at *
              obtain ⟨Q, hQ⟩ : ∃ Q, Q = q + 1 := ⟨_, rfl⟩
              rw [← hQ] at hc2 hlti hlt ⊢
              have hwq : IntKind.i64.wrap ((Q : Int) - 1) = (q : Int) := by rw [IntWalk.i64_in _ (by omega)]; omega
              have hqi : (q : Int) < (E.length : Int) := by omega
              have hw3 : IntKind.i64.wrap (z1 + (m : Int)) = z1 + (m : Int) := IntWalk.i64_in _ (by omega)
              have hn1i : ¬ z2 ≤ z1 := by omega
              have hn2i : ¬ z1 + (m : Int) < z2 := by omega
              clear hn1 hn2 hQ hc0 hcJ hw1 hw2 hi2 hi1
              go_wp2_with fail
              go_quiet (fail)
              go_wp2
              exact ⟨⟨Q + 1, by omega, by omega, by go_num, below_drews HBW.out _⟩, by simp [intOf]; omega⟩
            · have hlti : ¬ (i2 : Int) < (E.length : Int) := by omega
              clear hc0 hcJ hw1 hw2 hl1i hl2i hJE hi2 hi1
              have CS1 := Lib.hid (CS0.out wr HBW.out)
              have HB61 := Lib.hid (HB6.out.trans (HBW.out.mono HB6.out.size))
              have HIE1 := Lib.hid ((HIE.out.keep HBW.out).more HBW.out.size)
              clear CS CS0
              go_wp2_with fail
              refine CS1.out.mono ?_
              rintro e7 w7 ⟨aX, cX, rfl, hpx, hb7⟩
              have HB7 := Lib.hid (HB61.out.trans (hb7.mono HB61.out.size))
              have HPX := Lib.hid hpx
              have HIE7 := Lib.hid ((HIE1.out.keep hb7).more hb7.size)
              clear hpx hb7 CS1 HCZ HNX HBD HB61 HIE1
              go_wp2
              go_loopw [14] (fun v wr => ∃ i : Nat, i ≤ Z.length ∧ v = .int .i64 (i : Int) ∧ Below w7.heap.size w7 wr) (fun v _ => Z.length - (intOf v).toNat)
              case atStart => exact ⟨0, Nat.zero_le _, rfl, Below.refl _ _⟩
              case round =>
                obtain ⟨i3, hi3, rfl, hb9⟩ := hrel
                have HB9 := Lib.hid hb9
                clear hb9
                by_cases hlt3 : i3 < Z.length
                · have hlti3 : (i3 : Int) < (Z.length : Int) := by omega
                  have HPY := Lib.hid HPX.out
                  obtain ⟨by3, oy, rfl, _, _⟩ := HPX.out (by omega)
                  have HMEM := Lib.hid (HEW.out Z[i3] (List.getElem_mem hlt3))
                  have HCR : Hid (∀ X, Below w7.heap.size w7 X → X.cell? ⟨by3, oy + i3 * 2 + 1, none⟩ = some (.int .i64 Z[i3].e)) := Lib.hid fun X hX => by
                    obtain ⟨_, _, e4, _, hcy⟩ := (HPY.out.keep hX) (by omega)
                    cases e4
                    exact (hcy i3 hlt3).2
                  generalize Z[i3].e = v at *
                  go_wp2
                  go_loopw [15, 16] (fun vb vk wr => ∃ k : Nat, k ≤ E.length ∧ vb = .bool (decide (v ∈ E.take k)) ∧ vk = .int .i64 (k : Int) ∧ Below w7.heap.size w7 wr) (fun _ v _ => E.length - (intOf v).toNat)
                  case atStart => exact ⟨0, Nat.zero_le _, by simp, rfl, HB9.out⟩
                  case round =>
                    obtain ⟨k, hk, rfl, rfl, hb8⟩ := hrel
                    have HB8 := Lib.hid hb8
                    clear hb8
                    by_cases hkl : k < E.length
                    · have hkli : (k : Int) < (E.length : Int) := by omega
                      obtain ⟨_, _, e5, _, hcw⟩ := (HIE7.out.keep HB8.out) (by omega)
                      cases e5
                      have hck := hcw k hkl
                      have hcr := HCR.out wr HB8.out
                      clear hcw
                      have HTK : Hid (decide (v ∈ E.take (k + 1)) = (decide (v ∈ E.take k) || decide (E[k] = v))) := Lib.hid (by
                        rw [List.take_succ_eq_append_getElem hkl, Bool.eq_iff_iff]
                        simp only [decide_eq_true_eq, Bool.or_eq_true, List.mem_append, List.mem_singleton]
                        exact or_congr_right eq_comm)
                      generalize E[k] = z at *
                      generalize decide (v ∈ E.take k) = bk at *
                      cases bk
                      · go_wp2_with fail
                        go_quiet (fail)
                        go_wp2
                        exact ⟨⟨k + 1, by omega, by rw [HTK.out, Bool.false_or]; congr 1, by go_num, below_drews HB8.out _⟩, by simp [intOf]; omega⟩
                      · go_wp2_with fail
                        go_quiet (fail)
                        go_wp2
                        exact ⟨⟨k + 1, by omega, by rw [HTK.out]; simp, by go_num, below_drews HB8.out _⟩, by simp [intOf]; omega⟩
                    · have hkli : ¬ (k : Int) < (E.length : Int) := by omega
                      have HT : Hid (decide (v ∈ E.take k) = true) := Lib.hid (by rw [List.take_of_length_le (by omega)]; exact decide_eq_true HMEM.out)
                      rw [HT.out]
                      go_wp2
                      exact ⟨⟨i3 + 1, by omega, by go_num, HB8.out⟩, by simp [intOf]; omega⟩
                · have hlti3 : ¬ (i3 : Int) < (Z.length : Int) := by omega
                  go_wp2
                  go_ret
                  exact ⟨rfl, HB.out.trans ((HB7.out.trans (HB9.out.mono HB7.out.size)).mono HB.out.size)⟩
  · have hfi : (300 : Int) < (line.length : Int) := by omega
    go_wp2
    go_ret
    exact ⟨rfl, HB.out⟩
theorem walk (w : World) (xs : List TxV) (a0 : Option Addr) (cap0 : Nat) (hz0 : xs.length ≤ 6000000000000) (hx0 : ∀ x ∈ xs, x.text.length ≤ maxLen) (hts : Ts w a0 xs) (line : Tx) (aline : Option Addr) (cline : Nat) (hmline : line.length ≤ maxLen) (hbline : Bs w w.heap.size aline line) (hnline : aline = none → cline = 0) (hcline : line.length ≤ cline) :
    Calls Try.prog 6 #[.slice a0 xs.length cap0, .slice aline line.length cline] w fun e w' => e = .returned (.bool true) ∧ Below w.heap.size w w' := by
  by_cases hall : xs.length ≤ 12 ∧ (∀ x ∈ xs, x.text.length ≤ 40)
  · exact small w xs a0 cap0 hts hall.1 hall.2 line aline cline hmline hbline hnline hcline
  · clear hmline hbline hnline hcline
    have HALL := Lib.hid hall
    have HX := Lib.hid hx0
    clear hall hx0
    go_enter Try.func6, Try.ntmps6
    go_wp2_with fail
    refine (Wal.awake_any _).mono ?_
    rintro e' w1 ⟨rfl, hb2⟩
    have ts1 := hts.keep hb2
    go_wp2_with fail
    refine (ltexts_any xs a0 cap0 w1 ts1 hz0 HX.out).mono ?_
    rintro e' w2 ⟨hb3, hcase⟩
    have B2 := hb2.trans (hb3.mono hb2.size)
    rcases hcase with ⟨_, rfl⟩ | ⟨hok, aL, cL, rfl, _⟩
    · go_wp2
      go_ret
      exact ⟨rfl, B2⟩
    · have h12 : ¬ xs.length ≤ 12 := fun h => HALL.out ⟨h, hok⟩
      rw [decide_eq_false h12]
      clear HALL hok
      go_wp2
      go_ret
      exact ⟨rfl, B2⟩
end Go.Proofs.Ytmbglghpnloggaa.cwalterWindows
