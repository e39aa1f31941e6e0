/- What a Back tells: Whole, End, Least, Near. -/
import Derived.Test.YtgdpelpepgpegaaB2
namespace Go.Proofs.Ytgdpelpepgpegaa.Bck
open Go.RowKit Go.Maps Go.Proofs.Ytgdpelpepgpegaa.Tri Go.Proofs.Ytgdpelpepgpegaa.Cwl Go.Proofs.Ytgdpelpepgpegaa.Reg
set_option maxRecDepth 100000
set_option linter.unusedVariables false

/-- The least depth of the nodes behind the root that are asked for, as the loop finds it: of the first k. -/
def nstep (a d : Nat) (b : Bool) : Nat := if (a = 0 ∨ d < a) ∧ b = true then d else a
def nestTo (ps : List Tx) (P : Nat → Bool) : Nat → Nat
  | 0 => 0
  | k + 1 => if k = 0 then 0 else nstep (nestTo ps P k) (ps.getD k []).length (P k)
theorem nest_succ (ps : List Tx) (P : Nat → Bool) {k : Nat} (hk : 0 < k) (hl : k < ps.length) : nestTo ps P (k + 1) = nstep (nestTo ps P k) ps[k].length (P k) := by
  rw [nestTo, if_neg (by omega), List.getD_eq_getElem?_getD, List.getElem?_eq_getElem hl]; rfl
theorem nest_one (ps : List Tx) (P : Nat → Bool) : nestTo ps P 1 = 0 := rfl
/-- What it finds: nothing, or the least one. -/
def NestIs (ps : List Tx) (P : Nat → Bool) (k n : Nat) : Prop :=
  (n = 0 ∧ ∀ j, 0 < j → j < k → P j = false) ∨ (0 < n ∧ (∃ j, ∃ h : j < ps.length, 0 < j ∧ j < k ∧ P j = true ∧ ps[j].length = n) ∧ ∀ j (h : j < ps.length), 0 < j → j < k → P j = true → n ≤ ps[j].length)
theorem nest_is {ps : List Tx} (hw : Wf ps) (P : Nat → Bool) : ∀ k, k ≤ ps.length → NestIs ps P k (nestTo ps P k)
  | 0, _ => .inl ⟨rfl, fun j h1 h2 => by omega⟩
  | k + 1, hk => by
    by_cases h0 : k = 0
    · subst h0
      exact .inl ⟨rfl, fun j h1 h2 => by omega⟩
    have ih := nest_is hw P k (by omega)
    have hpos : 0 < ps[k].length := List.length_pos_iff.2 fun e => h0 ((hw.nil_iff (by omega)).1 e)
    rw [nest_succ ps P (by omega) (by omega)]
    unfold nstep
    split
    · rename_i hc
      refine .inr ⟨hpos, ⟨k, by omega, by omega, by omega, hc.2, rfl⟩, fun j hj h1 h2 h3 => ?_⟩
      by_cases e : j = k
      · subst e; exact Nat.le_refl _
      · rcases ih with ⟨_, h⟩ | ⟨_, _, h⟩
        · have := h j h1 (by omega); rw [this] at h3; cases h3
        · have := h j hj h1 (by omega) h3; omega
    · rename_i hc
      rcases ih with ⟨e0, h⟩ | ⟨e0, ⟨j, hj, h1, h2, h3, h4⟩, h⟩
      · refine .inl ⟨e0, fun j h1 h2 => ?_⟩
        by_cases e : j = k
        · subst e
          cases hp : P j
          · rfl
          · exact absurd ⟨.inl e0, hp⟩ hc
        · exact h j h1 (by omega)
      · refine .inr ⟨e0, ⟨j, hj, h1, by omega, h3, h4⟩, fun i hi h1 h2 h3 => ?_⟩
        by_cases e : i = k
        · subst e
          refine Nat.le_of_not_lt fun hlt => hc ⟨.inr hlt, h3⟩
        · exact h i hi h1 (by omega) h3
theorem nest_le {ps : List Tx} (P : Nat → Bool) (B : Nat) (hB : ∀ p ∈ ps, p.length ≤ B) : ∀ k, k ≤ ps.length → nestTo ps P k ≤ B
  | 0, _ => Nat.zero_le _
  | k + 1, hk => by
    by_cases h0 : k = 0
    · subst h0; exact Nat.zero_le _
    rw [nest_succ ps P (by omega) (by omega)]
    unfold nstep
    split
    · exact hB _ (List.getElem_mem (by omega))
    · exact nest_le P B hB k (by omega)
/-- Of the texts' nodes the least is the shortest text. -/
theorem nest_least {l : List Tx} (hl : ∀ x ∈ l, 0 < x.length) {P : Nat → Bool} (hP : ∀ j (h : j < (paths l).length), P j = decide ((paths l)[j] ∈ l)) : nestTo (paths l) P (paths l).length = Cwl.leastOf l := by
  have hw := paths_wf l
  by_cases h0 : l = []
  · subst h0; rfl
  obtain ⟨x, hx, ex⟩ := Cwl.least_is h0
  obtain ⟨j, hj, e⟩ := List.getElem_of_mem (paths_sub l x hx)
  have hj0 : 0 < j := Nat.pos_of_ne_zero fun e0 => by
    have h1 := (hw.nil_iff hj).2 e0
    have h2 := hl x hx
    rw [← e, h1] at h2
    simp at h2
  have hpj : P j = true := by rw [hP j hj, e]; exact decide_eq_true hx
  rcases nest_is hw P _ (Nat.le_refl _) with ⟨_, h⟩ | ⟨_, ⟨i, hi, h1, h2, h3, h4⟩, h⟩
  · rw [h j hj0 hj] at hpj; cases hpj
  · have g1 := h j hj hj0 hj hpj
    rw [hP i hi] at h3
    have g2 := Cwl.least_le hl (of_decide_eq_true h3)
    rw [e] at g1
    omega
/-- A byte leads to a node from its parent: it is the last one of its path. -/
theorem near_step {ps : List Tx} (hw : Wf ps) {j : Nat} (hj : j < ps.length) (h0 : 0 < j) (c : UInt8) : (stepOf ps (upOf ps (j : Int)) c == (j : Int)) = decide (ps[j][ps[j].length - 1]? = some c) := by
  have hne : ps[j] ≠ [] := fun e => by have := (hw.nil_iff hj).1 e; omega
  have hm := hw.closed_drop (List.getElem_mem hj) hne
  obtain ⟨i, hi, e1, e2, _⟩ := place_mem hm
  have hlast : ps[j] = ps[j].dropLast ++ [ps[j].getLast hne] := (List.dropLast_concat_getLast hne).symm
  have hg : ps[j][ps[j].length - 1]? = some (ps[j].getLast hne) := by rw [← List.getLast?_eq_getElem?, List.getLast?_eq_some_getLast hne]
  rw [upOf_at hj, if_neg hne, e1, stepOf_at hi, e2, Bool.eq_iff_iff, beq_iff_eq, decide_eq_true_iff, hg]
  constructor
  · intro h
    have hin : ps[j].dropLast ++ [c] ∈ ps := (place_nonneg ps _).1 (by omega)
    obtain ⟨k, hk, e3, e4, _⟩ := place_mem hin
    have : k = j := by omega
    subst this
    rw [hlast] at e4
    have := (List.append_inj' e4 rfl).2
    simpa using this
  · intro h
    obtain h := Option.some.inj h
    rw [← h, ← hlast]
    exact place_at hw.nodup hj
theorem nest_near {l : List Tx} {P : Nat → Bool} {c : UInt8} (hP : ∀ j (h : j < (paths l).length), 0 < j → P j = decide ((paths l)[j][(paths l)[j].length - 1]? = some c)) : nestTo (paths l) P (paths l).length = nearOf l c := by
  have hw := paths_wf l
  have key : ∀ x ∈ l, ∀ i : Nat, x[i]? = some c → ∃ j, ∃ h : j < (paths l).length, 0 < j ∧ P j = true ∧ (paths l)[j].length = i + 1 := fun x hx i hi => by
    have hlt := (List.getElem?_eq_some_iff.1 hi).1
    have hm : x.take (i + 1) ∈ paths l := (paths_mem l _).2 (.inr ⟨x, hx, x.drop (i + 1), List.take_append_drop _ _⟩)
    obtain ⟨j, hj, e⟩ := List.getElem_of_mem hm
    have hlen : (paths l)[j].length = i + 1 := by rw [e, List.length_take]; omega
    have hj0 : 0 < j := Nat.pos_of_ne_zero fun e0 => by
      have h1 := (hw.nil_iff hj).2 e0
      rw [h1] at hlen
      simp at hlen
    refine ⟨j, hj, hj0, ?_, hlen⟩
    rw [hP j hj hj0, hlen, e]
    refine decide_eq_true ?_
    rw [List.getElem?_take_of_lt (by omega)]
    exact hi
  have hpos : ∀ j (h : j < (paths l).length), 0 < j → 0 < (paths l)[j].length := fun j hj h0 => List.length_pos_iff.2 fun e => by have := (hw.nil_iff hj).1 e; omega
  refine (nearOf_is ?_).symm
  rcases nest_is hw P _ (Nat.le_refl _) with ⟨e0, h⟩ | ⟨e0, ⟨j, hj, h1, h2, h3, h4⟩, h⟩
  · refine .inl ⟨e0, fun x hx i hi => ?_⟩
    obtain ⟨j, hj, hj0, hp, _⟩ := key x hx i hi
    rw [h j hj0 hj] at hp; cases hp
  · refine .inr ⟨e0, ?_, fun x hx i hi => ?_⟩
    · rw [hP j hj h1] at h3
      have hc := of_decide_eq_true h3
      have hp := hpos j hj h1
      rcases (paths_mem l _).1 (List.getElem_mem hj) with e | ⟨x, hx, q, e⟩
      · rw [e] at hp; simp at hp
      · refine ⟨x, hx, ?_⟩
        rw [← h4, ← e, List.getElem?_append_left (by omega)]
        exact hc
    · obtain ⟨i2, hi2, g1, g2, g3⟩ := key x hx i hi
      have := h i2 hi2 g1 hi2 g2
      omega
theorem whole_eq {l : List Tx} (n : Int) (h0 : ∀ x ∈ l, 0 < x.length) : decide (0 ≤ wordOf (paths l) l n) = decide (pathD (paths l) n ∈ l) := by
  rw [Bool.eq_iff_iff, decide_eq_true_iff, decide_eq_true_iff]
  unfold wordOf pathD
  cases hp : pathOf (paths l) n with
  | none =>
    constructor
    · intro h; exact absurd h (show ¬ (0 : Int) ≤ -1 by decide)
    · intro h; have := h0 _ h; simp at this
  | some p => exact place_nonneg l p
theorem wf_deep {ps : List Tx} (hw : Wf ps) : ∀ i (h : i < ps.length), ps[i].length ≤ i := by
  intro i
  induction i using Nat.strongRecOn with
  | ind i ih =>
    intro h
    by_cases hn : ps[i] = []
    · rw [hn]; exact Nat.zero_le _
    · obtain ⟨j, hj, e⟩ := hw.up i h hn
      have h1 := ih j hj (by omega)
      have h2 := List.length_pos_iff.2 hn
      rw [e, List.length_dropLast] at h1
      omega
/-- A call of what is asked: for each node, in whatever comes of the world. -/
def Asks (W : World) (fn : FuncId) (pre caps : Array Value) (m : Nat) (P : Nat → Bool) : Prop :=
  (∀ (args : Array Value) (w : World), (callFunc fn args).run Try.prog w = .ok (.enter fn args) w) ∧
  ∀ X, Below W.heap.size W X → ∀ n : Nat, n < m → Calls Try.prog fn (pre.push (.int .i64 (n : Int)) ++ caps) X fun e w' => e = .returned (.bool (P n)) ∧ Below X.heap.size X w'
set_option maxHeartbeats 1000000 in
theorem nearest_any (w : World) {s : Nat} (x : Nat) (l : List Tx) (h : Bk w s x l) (fn : FuncId) (pre caps : Array Value) (P : Nat → Bool) (hA : Asks w fn pre caps (paths (turned l)).length P) :
    Calls Try.prog 39 #[.pointer (some ⟨x, 0, none⟩), .func (.func fn) pre caps] w fun e w' => e = .returned (.int .i64 (nestTo (paths (turned l)) P (paths (turned l)).length : Int)) ∧ Below w.heap.size w w' := by
  obtain ⟨t, hx, htr⟩ := h.tree
  have HH := Lib.hid (show Bk w s x l ∧ Tr w s t (paths (turned l)) (turned l) ∧ w.cell? ⟨x, 0, none⟩ = some (.pointer (some ⟨t, 0, none⟩)) from ⟨h, htr, hx⟩)
  have HA := Lib.hid hA
  have HP := Lib.hid (paths_wf (turned l))
  have HLEN := Lib.hid (show ∀ p ∈ paths (turned l), p.length ≤ 1000000000 from fun p hp => by
    obtain ⟨i, hi, rfl⟩ := List.getElem_of_mem hp
    have := wf_deep (paths_wf (turned l)) i hi
    have := htr.2.2.2.1
    omega)
  have hps : (paths (turned l)).length ≤ 1000000000 := htr.2.2.2.1
  have hxl := cell_lt0 hx
  clear h htr hA
  generalize paths (turned l) = ps at *
  go_enter Try.func39, Try.ntmps39
  go_wp2
  go_loopw [5, 6] (fun a i wr => ∃ k : Nat, 0 < k ∧ k ≤ ps.length ∧ i = .int .i64 k ∧ a = .int .i64 (nestTo ps P k : Int) ∧ Below w.heap.size w wr) (fun _ i _ => ps.length - (intOf i).toNat)
  case atStart => exact ⟨1, by omega, HP.out.pos, rfl, rfl, Below.refl _ _⟩
  case round =>
    obtain ⟨k, hk0, hk, rfl, rfl, hbel⟩ := hrel
    have hxw : wr.cell? ⟨x, 0, none⟩ = some (.pointer (some ⟨t, 0, none⟩)) := (hbel.cell (p := ⟨x, 0, none⟩) hxl).trans HH.out.2.2
    have HT := Lib.hid (HH.out.2.1.keep hbel)
    have HB := Lib.hid hbel
    have HN := Lib.hid (nodes_any wr s t ps (turned l) HT.out)
    have HD := Lib.hid (fun X (hX : Below wr.heap.size wr X) => depth_any X s t ps (turned l) (HT.out.keep hX) (k : Int))
    clear hbel hx
    by_cases hlt : k < ps.length
    · have HL := Lib.hid (show (pathD ps (k : Int)) = ps[k] from pathD_at hlt)
      have hdl : ps[k].length ≤ 1000000000 := HLEN.out _ (List.getElem_mem hlt)
      rw [HL.out] at HD
      have hns := nest_succ ps P hk0 hlt
      have HNS := Lib.hid hns
      have hnl := nest_le P 1000000000 HLEN.out k hk
      clear hns
      generalize ps[k] = p at *
      have HAS := Lib.hid (fun X (hX : Below wr.heap.size wr X) => HA.out.2 X (HB.out.trans (hX.mono HB.out.size)) k hlt)
      have hcf := HA.out.1
      generalize hA : nestTo ps P k = A at *
      clear hA
      go_wp2_with (first
        | (go_at_call 21; (with_reducible refine HN.out.mono ?_); rintro e w1 ⟨rfl, rfl⟩)
        | (go_at_call 27; (with_reducible refine (HD.out _ (Below.refl _ _)).mono ?_); rintro e w2 ⟨rfl, hb2⟩; have HB2 := Lib.hid hb2; clear hb2))
      · refine (HAS.out _ HB2.out).mono ?_
        rintro e w3 ⟨rfl, hb3⟩
        have HB3 := Lib.hid ((HB.out.trans (HB2.out.mono HB.out.size)).trans (hb3.mono (Nat.le_trans HB.out.size HB2.out.size)))
        clear hb3
        cases hP : P k
        all_goals go_wp2
        all_goals go_roundw
        case rel => exact ⟨k + 1, by omega, by omega, by go_num, by rw [HNS.out, nstep, if_neg (fun h => by rw [hP] at h; exact absurd h.2 (by simp)), show A = 0 by assumption]; rfl, HB3.out⟩
        case measure => simp [intOf]; omega
        case rel => exact ⟨k + 1, by omega, by omega, by go_num, by rw [HNS.out, nstep, if_pos ⟨by omega, hP⟩], HB3.out⟩
        case measure => simp [intOf]; omega
      · refine (HAS.out _ HB2.out).mono ?_
        rintro e w3 ⟨rfl, hb3⟩
        have HB3 := Lib.hid ((HB.out.trans (HB2.out.mono HB.out.size)).trans (hb3.mono (Nat.le_trans HB.out.size HB2.out.size)))
        clear hb3
        cases hP : P k
        all_goals go_wp2
        all_goals go_roundw
        case rel => exact ⟨k + 1, by omega, by omega, by go_num, by rw [HNS.out, nstep, if_neg (fun h => by rw [hP] at h; exact absurd h.2 (by simp))], HB3.out⟩
        case measure => simp [intOf]; omega
        case rel => exact ⟨k + 1, by omega, by omega, by go_num, by rw [HNS.out, nstep, if_pos ⟨by omega, hP⟩], HB3.out⟩
        case measure => simp [intOf]; omega
      · go_roundw
        case rel => exact ⟨k + 1, by omega, by omega, by go_num, by rw [HNS.out, nstep, if_neg (fun h => by omega)], HB.out.trans (HB2.out.mono HB.out.size)⟩
        case measure => simp [intOf]; omega
    · have hlt' : ¬ (k : Int) < (ps.length : Int) := by omega
      obtain rfl : k = ps.length := by omega
      go_wp2_with (go_at_call 21; (with_reducible refine HN.out.mono ?_); rintro e w1 ⟨rfl, rfl⟩)
      go_ret
      exact ⟨rfl, HB.out⟩
theorem call19 (args : Array Value) (w : World) : (callFunc 40 args).run Try.prog w = .ok (.enter 40 args) w := by simp [go_sem]
theorem call30 (args : Array Value) (w : World) : (callFunc 46 args).run Try.prog w = .ok (.enter 46 args) w := by simp [go_sem]
theorem turned_pos {l : List Tx} : ∀ x ∈ turned l, 0 < x.length := fun _ h => turned_ne h
theorem bwhole_any (w : World) {s : Nat} (x : Nat) (l : List Tx) (h : Bk w s x l) (n : Int) (hn : (Lit.int .i64 n).wf = true) :
    Calls Try.prog 40 #[.pointer (some ⟨x, 0, none⟩), .int .i64 n] w fun e w' => e = .returned (.bool (decide (pathD (paths (turned l)) n ∈ turned l))) ∧ Below w.heap.size w w' := by
  obtain ⟨t, hx, htr⟩ := h.tree
  have HW := Lib.hid (word_any w s t _ _ htr n)
  have HE := Lib.hid (whole_eq (l := turned l) n turned_pos)
  clear h htr hn
  generalize wordOf (paths (turned l)) (turned l) n = z at *
  generalize decide (pathD (paths (turned l)) n ∈ turned l) = d at *
  go_enter Try.func40, Try.ntmps40
  go_wp2_with (go_at_call 52; (with_reducible refine HW.out.mono ?_); rintro e w1 ⟨rfl, hb1⟩)
  go_ret
  exact ⟨ret_bool HE.out, hb1⟩
theorem bwhole_none (w : World) (n : Int) : Calls Try.prog 40 #[.pointer none, .int .i64 n] w fun e w' => e = .returned (.bool false) ∧ Below w.heap.size w w' := by
  go_enter Try.func40, Try.ntmps40
  go_wp2
  go_ret
  exact ⟨rfl, Below.refl _ _⟩
theorem Bk.deep {w : World} {s x : Nat} {l : List Tx} (h : Bk w s x l) (n : Int) : (pathD (paths (turned l)) n).length ≤ 1000 := by
  obtain ⟨_, t, _, _, h3⟩ := h
  unfold pathD
  cases hp : pathOf (paths (turned l)) n with
  | none => exact Nat.zero_le _
  | some p =>
    obtain ⟨i, hi, _, rfl⟩ := pathOf_some hp
    show (paths (turned l))[i].length ≤ _
    rcases end_path (List.getElem_mem hi) with e | ⟨y, hy, _, hl, _⟩
    · rw [e]; exact Nat.zero_le _
    · have := h3 y hy; omega
theorem nearest_none (w : World) (fn : FuncId) (pre caps : Array Value) :
    Calls Try.prog 39 #[.pointer none, .func (.func fn) pre caps] w fun e w' => e = .returned (.int .i64 0) ∧ w = w' := by
  go_enter Try.func39, Try.ntmps39
  go_wp2
  go_ret
  exact ⟨rfl, rfl⟩
theorem bleast_any (w : World) {s : Nat} (x : Nat) (l : List Tx) (h : Bk w s x l) :
    Calls Try.prog 20 #[.pointer (some ⟨x, 0, none⟩)] w fun e w' => e = .returned (.int .i64 (Cwl.leastOf (turned l) : Int)) ∧ Below w.heap.size w w' := by
  have hmf : ∀ (fn : Fn) (first cap : Array Value) (w : World), (Instr.makeFunc fn first cap).run Try.prog w = .ok (.func fn first cap) w := fun _ _ _ _ => rfl
  have hN := nearest_any w x l h 40 #[.pointer (some ⟨x, 0, none⟩)] #[] (fun n => decide (pathD (paths (turned l)) (n : Int) ∈ turned l)) ⟨call19, fun X hX n hn => bwhole_any X x l (h.keep hX) n (wf_nat (by omega) (by have := h.tree; obtain ⟨_, _, ht⟩ := this; have := ht.2.2.2.1; omega))⟩
  rw [nest_least turned_pos (fun j hj => by rw [pathD_at hj])] at hN
  have HN := Lib.hid hN
  clear hN h
  generalize Cwl.leastOf (turned l) = z at *
  go_enter Try.func20, Try.ntmps20
  go_wp2_with (go_at_call 39; (with_reducible refine HN.out.mono ?_); rintro e w1 ⟨rfl, hb1⟩)
  go_ret
  exact ⟨rfl, hb1⟩
theorem bleast_none (w : World) : Calls Try.prog 20 #[.pointer none] w fun e w' => e = .returned (.int .i64 0) ∧ Below w.heap.size w w' := by
  have hmf : ∀ (fn : Fn) (first cap : Array Value) (w : World), (Instr.makeFunc fn first cap).run Try.prog w = .ok (.func fn first cap) w := fun _ _ _ _ => rfl
  have HN := Lib.hid (nearest_none w 40 #[.pointer none] #[])
  go_enter Try.func20, Try.ntmps20
  go_wp2_with (go_at_call 39; (with_reducible refine HN.out.mono ?_); rintro e w1 ⟨rfl, rfl⟩)
  go_ret
  exact ⟨rfl, Below.refl _ _⟩
theorem up_wf {ps : List Tx} (hl : ps.length ≤ 1000000000) (n : Int) : (Lit.int .i64 (upOf ps n)).wf = true := by
  unfold upOf
  cases pathOf ps n with
  | none => exact wf_nat (n := -1) (by omega) (by omega)
  | some p =>
    show (Lit.int .i64 (if p = [] then -1 else place ps p.dropLast)).wf = true
    split
    · exact wf_nat (by omega) (by omega)
    · have h1 := place_ge ps p.dropLast
      have h2 := place_lt ps p.dropLast
      exact wf_nat h1 (by omega)
set_option maxHeartbeats 1000000 in
theorem bask_any (w : World) {s : Nat} (x : Nat) (l : List Tx) (h : Bk w s x l) (c : UInt8) (g1 g2 : Nat) (h1 : w.cell? ⟨g1, 0, none⟩ = some (.pointer (some ⟨x, 0, none⟩))) (h2 : w.cell? ⟨g2, 0, none⟩ = some (.int .u8 (c.toNat : Int))) (n : Nat) (hn : n < (paths (turned l)).length) :
    Calls Try.prog 46 #[.int .i64 (n : Int), .pointer (some ⟨g1, 0, none⟩), .pointer (some ⟨g2, 0, none⟩)] w fun e w' => e = .returned (.bool (stepOf (paths (turned l)) (upOf (paths (turned l)) (n : Int)) c == (n : Int))) ∧ Below w.heap.size w w' := by
  obtain ⟨t, hx, htr⟩ := h.tree
  have hps : (paths (turned l)).length ≤ 1000000000 := htr.2.2.2.1
  have HU := Lib.hid (fun X (hX : Below w.heap.size w X) => parent_any X s t _ _ (htr.keep hX) (n : Int))
  have HS := Lib.hid (fun X (hX : Below w.heap.size w X) => step_any X s t _ _ (htr.keep hX) _ (up_wf hps (n : Int)) c)
  have H1 : Hid (∀ X, Below w.heap.size w X → X.cell? ⟨g1, 0, none⟩ = some (.pointer (some ⟨x, 0, none⟩))) := Lib.hid fun X hX => (hX.cell (p := ⟨g1, 0, none⟩) (cell_lt0 h1)).trans h1
  have H2 : Hid (∀ X, Below w.heap.size w X → X.cell? ⟨g2, 0, none⟩ = some (.int .u8 (c.toNat : Int))) := Lib.hid fun X hX => (hX.cell (p := ⟨g2, 0, none⟩) (cell_lt0 h2)).trans h2
  have HX : Hid (∀ X, Below w.heap.size w X → X.cell? ⟨x, 0, none⟩ = some (.pointer (some ⟨t, 0, none⟩))) := Lib.hid fun X hX => (hX.cell (p := ⟨x, 0, none⟩) (cell_lt0 hx)).trans hx
  have HB0 := Lib.hid (Below.refl w.heap.size w)
  clear h htr h1 h2 hx hps
  generalize upOf (paths (turned l)) (n : Int) = u at *
  generalize stepOf (paths (turned l)) u c = z at *
  go_enter Try.func46, Try.ntmps46
  go_wp2
  refine wp_region_held_drew (S := fun w' => Below w.drew.heap.size w.drew w') (by kernel_rfl) (Below.refl _ _) (fun hH0 => ?_)
  have B0 := Lib.hid (below_drews HB0.out 1)
  change Hid (Below _ _ w.drew) at B0
  generalize w.drew = x0 at *
  refine held_take (i := 0) (d := 5) (oi := _) (v := ?_) rfl rfl (by kernel_rfl) (by kernel_rfl) (by kernel_rfl) (fun _ _ _ h => h) (Or.inl ⟨by rfl, ?_⟩) (by assumption) ?_
  rotate_left
  · (intro w hSw; have hld := H1.out w (B0.out.trans (hSw.mono B0.out.size)); clear hSw; go_simp; (try with_reducible rfl))
  simp only [Act.put, List.setIfInBounds_toArray, List.set_cons_zero, List.set_cons_succ]
  refine held_take (i := 1) (d := 6) (oi := _) (v := ?_) rfl rfl (by kernel_rfl) (by kernel_rfl) (by kernel_rfl) (fun _ _ _ h => h) (Or.inl ⟨by rfl, ?_⟩) (by assumption) ?_
  rotate_left
  · (intro w hSw; clear hSw; go_simp; (try with_reducible rfl))
  simp only [Act.put, List.setIfInBounds_toArray, List.set_cons_zero, List.set_cons_succ]
  refine held_take (i := 2) (d := 7) (oi := _) (v := ?_) rfl rfl (by kernel_rfl) (by kernel_rfl) (by kernel_rfl) (fun _ _ _ h => h) (Or.inl ⟨by rfl, ?_⟩) (by assumption) ?_
  rotate_left
  · (intro w hSw; clear hSw; go_simp; (try with_reducible rfl))
  simp only [Act.put, List.setIfInBounds_toArray, List.set_cons_zero, List.set_cons_succ]
  refine held_take (i := 3) (d := 8) (oi := _) (v := ?_) rfl rfl (by kernel_rfl) (by kernel_rfl) (by kernel_rfl) (fun _ _ _ h => h) (Or.inl ⟨by rfl, ?_⟩) (by assumption) ?_
  rotate_left
  · (intro w hSw; have hld := HX.out w (B0.out.trans (hSw.mono B0.out.size)); clear hSw; go_simp; (try with_reducible rfl))
  simp only [Act.put, List.setIfInBounds_toArray, List.set_cons_zero, List.set_cons_succ]
  refine held_take (i := 4) (d := 9) (oi := _) (v := ?_) rfl rfl (by kernel_rfl) (by kernel_rfl) (by kernel_rfl) (fun _ _ _ h => h) (Or.inl ⟨by rfl, ?_⟩) (by assumption) ?_
  rotate_left
  · (intro w hSw; have hld := H1.out w (B0.out.trans (hSw.mono B0.out.size)); clear hSw; go_simp; (try with_reducible rfl))
  simp only [Act.put, List.setIfInBounds_toArray, List.set_cons_zero, List.set_cons_succ]
  refine held_take (i := 5) (d := 10) (oi := _) (v := ?_) rfl rfl (by kernel_rfl) (by kernel_rfl) (by kernel_rfl) (fun _ _ _ h => h) (Or.inl ⟨by rfl, ?_⟩) (by assumption) ?_
  rotate_left
  · (intro w hSw; clear hSw; go_simp; (try with_reducible rfl))
  simp only [Act.put, List.setIfInBounds_toArray, List.set_cons_zero, List.set_cons_succ]
  refine held_take (i := 6) (d := 11) (oi := _) (v := ?_) rfl rfl (by kernel_rfl) (by kernel_rfl) (by kernel_rfl) (fun _ _ _ h => h) (Or.inl ⟨by rfl, ?_⟩) (by assumption) ?_
  rotate_left
  · (intro w hSw; clear hSw; go_simp; (try with_reducible rfl))
  simp only [Act.put, List.setIfInBounds_toArray, List.set_cons_zero, List.set_cons_succ]
  refine held_take (i := 7) (d := 12) (oi := _) (v := ?_) rfl rfl (by kernel_rfl) (by kernel_rfl) (by kernel_rfl) (fun _ _ _ h => h) (Or.inl ⟨by rfl, ?_⟩) (by assumption) ?_
  rotate_left
  · (intro w hSw; have hld := HX.out w (B0.out.trans (hSw.mono B0.out.size)); clear hSw; go_simp; (try with_reducible rfl))
  simp only [Act.put, List.setIfInBounds_toArray, List.set_cons_zero, List.set_cons_succ]
  refine held_take (i := 8) (d := 13) (oi := _) (v := ?_) rfl rfl (by kernel_rfl) (by kernel_rfl) (by kernel_rfl) (fun _ _ _ h => h) (Or.inl ⟨by rfl, ?_⟩) (by assumption) ?_
  rotate_left
  · (intro w hSw; clear hSw; go_simp; (try with_reducible rfl))
  simp only [Act.put, List.setIfInBounds_toArray, List.set_cons_zero, List.set_cons_succ]
  refine held_take (i := 10) (d := 15) (oi := _) (v := ?_) rfl rfl (by kernel_rfl) (by kernel_rfl) (by kernel_rfl) (fun _ _ _ h => h) (Or.inl ⟨by rfl, ?_⟩) (by assumption) ?_
  rotate_left
  · (intro w hSw; have hld := H2.out w (B0.out.trans (hSw.mono B0.out.size)); clear hSw; go_simp; (try with_reducible rfl))
  simp only [Act.put, List.setIfInBounds_toArray, List.set_cons_zero, List.set_cons_succ]
  refine held_take (i := 12) (d := 17) (oi := _) (v := ?_) rfl rfl (by kernel_rfl) (by kernel_rfl) (by kernel_rfl) (fun _ _ _ h => h) (Or.inl ⟨by rfl, ?_⟩) (by assumption) ?_
  rotate_left
  · (intro w hSw; clear hSw; go_simp; (try with_reducible rfl))
  simp only [Act.put, List.setIfInBounds_toArray, List.set_cons_zero, List.set_cons_succ]
  refine wpAnyH_ready (rs := [9]) (by kernel_rfl) (by simp) ?_
  refine AllReadyH.cons rfl (fun K hK => ?_) AllReadyH.nil
  go_simp
  go_wp2_with (go_at_call 22; (with_reducible refine (HU.out _ B0.out).mono ?_); rintro e x1 ⟨rfl, hb⟩)
  refine hK.out _ _ hb (fun _ => ?_)
  have B1 := Lib.hid (B0.out.trans (hb.mono B0.out.size))
  refine wpAnyH_more (S' := fun w' => Below x1.heap.size x1 w') (fun w' h => hb.trans (h.mono hb.size)) _ _ _ _ ?_
  have hH1 : Below x1.heap.size x1 x1 := Below.refl _ _
  clear hK K hH0 hb B0
  refine wpAnyH_ready (rs := [11]) (by kernel_rfl) (by simp) ?_
  refine AllReadyH.cons rfl (fun K hK => ?_) AllReadyH.nil
  go_simp
  go_wp2_with (go_at_call 23; (with_reducible refine (HS.out _ B1.out).mono ?_); rintro e x' ⟨rfl, rfl⟩)
  refine hK.out _ _ hH1 (fun _ => ?_)
  clear hK K
  refine held_take (i := 13) (d := 18) (oi := _) (v := ?_) rfl rfl (by kernel_rfl) (by kernel_rfl) (by kernel_rfl) (fun _ _ _ h => h) (Or.inl ⟨by rfl, ?_⟩) (by assumption) ?_
  rotate_left
  · (intro w hSw; clear hSw; go_simp; (try with_reducible rfl))
  simp only [Act.put, List.setIfInBounds_toArray, List.set_cons_zero, List.set_cons_succ]
  refine held_take (i := 14) (d := 4) (oi := _) (v := ?_) rfl rfl (by kernel_rfl) (by kernel_rfl) (by kernel_rfl) (fun _ _ _ h => h) (Or.inl ⟨by rfl, ?_⟩) (by assumption) ?_
  rotate_left
  · (intro w hSw; clear hSw; go_simp; (try with_reducible rfl))
  simp only [Act.put, List.setIfInBounds_toArray, List.set_cons_zero, List.set_cons_succ]
  refine wpAnyH_done (by kernel_rfl) ?_ _
  go_wp2
  go_ret
  exact ⟨rfl, B1.out⟩
theorem bnear_any (w : World) {s : Nat} (x : Nat) (l : List Tx) (h : Bk w s x l) (c : UInt8) :
    Calls Try.prog 30 #[.pointer (some ⟨x, 0, none⟩), .int .u8 (c.toNat : Int)] w fun e w' => e = .returned (.int .i64 (nearOf (turned l) c : Int)) ∧ Below w.heap.size w w' := by
  have hmf : ∀ (fn : Fn) (first cap : Array Value) (w : World), (Instr.makeFunc fn first cap).run Try.prog w = .ok (.func fn first cap) w := fun _ _ _ _ => rfl
  have HN : Hid (∀ W g1 g2, Below w.heap.size w W → W.cell? ⟨g1, 0, none⟩ = some (.pointer (some ⟨x, 0, none⟩)) → W.cell? ⟨g2, 0, none⟩ = some (.int .u8 (c.toNat : Int)) →
      Calls Try.prog 39 #[.pointer (some ⟨x, 0, none⟩), .func (.func 46) #[] #[.pointer (some ⟨g1, 0, none⟩), .pointer (some ⟨g2, 0, none⟩)]] W fun e w' => e = .returned (.int .i64 (nearOf (turned l) c : Int)) ∧ Below W.heap.size W w') := Lib.hid fun W g1 g2 hW h1 h2 => by
    have hk := h.keep hW
    have h0 := nearest_any W x l hk 46 #[] #[.pointer (some ⟨g1, 0, none⟩), .pointer (some ⟨g2, 0, none⟩)] (fun n => stepOf (paths (turned l)) (upOf (paths (turned l)) (n : Int)) c == (n : Int)) ⟨call30, fun X hX n hn => bask_any X x l (hk.keep hX) c g1 g2 ((hX.cell (p := ⟨g1, 0, none⟩) (cell_lt0 h1)).trans h1) ((hX.cell (p := ⟨g2, 0, none⟩) (cell_lt0 h2)).trans h2) n hn⟩
    rw [nest_near (l := turned l) (c := c) (fun j hj h0 => near_step (paths_wf _) hj h0 c)] at h0
    exact h0
  clear h
  generalize nearOf (turned l) c = z at *
  go_enter Try.func30, Try.ntmps30
  go_wp2_with fail
  have hb2 : Below w.heap.size w ((w.alloc (.cells #[.pointer (some ⟨x, 0, none⟩)] 29)).alloc (.cells #[.int .u8 (c.toNat : Int)] 5)) := ((Below.refl _ _).alloc (Nat.le_refl _) _).alloc (by simp) _
  refine (HN.out _ w.heap.size (w.heap.size + 1) hb2 ?_ ?_).mono ?_
  · exact Lib.cell?_alloc_some _ (by simp)
  · simp
  rintro e w1 ⟨rfl, hb1⟩
  go_wp2
  go_ret
  exact ⟨rfl, hb2.trans (hb1.mono hb2.size)⟩
theorem bnear_none (w : World) (c : UInt8) : Calls Try.prog 30 #[.pointer none, .int .u8 (c.toNat : Int)] w fun e w' => e = .returned (.int .i64 0) ∧ Below w.heap.size w w' := by
  have hmf : ∀ (fn : Fn) (first cap : Array Value) (w : World), (Instr.makeFunc fn first cap).run Try.prog w = .ok (.func fn first cap) w := fun _ _ _ _ => rfl
  go_enter Try.func30, Try.ntmps30
  go_wp2_with fail
  have hb2 : Below w.heap.size w ((w.alloc (.cells #[.pointer none] 29)).alloc (.cells #[.int .u8 (c.toNat : Int)] 5)) := ((Below.refl _ _).alloc (Nat.le_refl _) _).alloc (by simp) _
  refine (nearest_none _ 46 #[] _).mono ?_
  rintro e w1 ⟨rfl, rfl⟩
  go_wp2
  go_ret
  exact ⟨rfl, hb2⟩
end Go.Proofs.Ytgdpelpepgpegaa.Bck
