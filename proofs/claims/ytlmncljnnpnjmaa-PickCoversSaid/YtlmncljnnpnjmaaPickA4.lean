/- What is picked: First, Longest, Gaps. -/
import Derived.Test.YtlmncljnnpnjmaaPickA3
import Derived.WalkMore
namespace Go.Proofs.Ytlmncljnnpnjmaa.Pck
open Go Go.RowKit Go.Proofs.Ytlmncljnnpnjmaa.Prs Adm Reg
set_option maxRecDepth 100000
set_option maxHeartbeats 2000000 in
theorem first_any (f : Int) (l : List Pr) (al : Option Addr) (cl : Nat) (w : World) (hll : l.length ≤ 1000000) (hx : Ps w w.heap.size al l) :
    Calls Try.prog 10 #[.slice al l.length cl, .int .i64 f] w fun e w' => e = .returned (.tuple #[.agg #[.int .i64 (fP l f).s, .int .i64 (fP l f).e], .bool (fB l f)]) ∧ Below w.heap.size w w' := by
  have hB0 := (Below.refl w.heap.size w).alloc (Nat.le_refl _) (.cells #[.int .i64 0, .int .i64 0] 25)
  have hK0 := Pat.Blk2.new w 25 (.int .i64 0) (.int .i64 0)
  obtain ⟨W1, hW1⟩ : ∃ W1, w.alloc (.cells #[.int .i64 0, .int .i64 0] 25) = W1 := ⟨_, rfl⟩
  rw [hW1] at hB0 hK0
  have C1 := Lib.hid (inorder_any l al cl W1 hll (hx.keeps hB0))
  have HB0 := Lib.hid hB0
  have HK0 := Lib.hid hK0
  have HW := Lib.hid hW1
  clear hB0 hK0 hW1 hx
  go_enter Try.func10, Try.ntmps10
  go_wp2_with (go_at_call 18; rw [HW.out]; (with_reducible refine C1.out.mono ?_); rintro e w2 ⟨r, hr, a, c, rfl, hlc, hnc, hps, hb2⟩)
  have hB2 := HB0.out.trans (hb2.mono HB0.out.size)
  have hK2 := HK0.out.keep hb2 HK0.out.lt
  have hf := hr.first (k := 0) (f := f) (by simp)
  rw [List.drop_zero] at hf
  have hrl := hr.len
  have C2 := Lib.hid (next_any f r a c w2 (by omega) hps)
  obtain ⟨k0, k1⟩ := hK2.cells
  obtain ⟨f0, f1⟩ := hK2.free
  have HB2 := Lib.hid hB2
  have HK2 := Lib.hid hK2
  cases hv : r.find? (geQ f) with
  | none =>
    have HF : Hid (fP l f = ⟨0, 0⟩ ∧ fB l f = false) := Lib.hid (by unfold fP fB; rw [← hf, hv]; exact ⟨rfl, rfl⟩)
    rw [next_none hv] at C2
    have h2 := hK2.put0 (.int .i64 0)
    obtain ⟨c2, c3⟩ := h2.cells
    obtain ⟨f2, f3⟩ := h2.free
    obtain ⟨c4, c5⟩ := (h2.put1 (.int .i64 0)).cells
    have HE : Hid (Below w.heap.size w ((w2.setCell ⟨w.heap.size, 0, none⟩ (.int .i64 0)).setCell ⟨w.heap.size, 1, none⟩ (.int .i64 0))) := Lib.hid ((hB2.setCell (p := ⟨w.heap.size, 0, none⟩) (Nat.le_refl _) _).setCell (p := ⟨w.heap.size, 1, none⟩) (Nat.le_refl _) _)
    clear hf hv hps hb2 hB2 hK2 hr h2
    go_wp2_with (go_at_call 19; (with_reducible refine C2.out.mono ?_); rintro e w3 ⟨rfl, rfl⟩)
    refine bodyPost_ret (v := .tuple #[pv ⟨0, 0⟩, .bool false]) ?_ rfl ⟨by rw [HF.out.1, HF.out.2], HE.out⟩
    simp [results, Try.results10, go_sem, c4, c5]
  | some p =>
    obtain ⟨i, hi, hil, hip⟩ := next_some hv
    have HF : Hid (fP l f = p ∧ fB l f = true) := Lib.hid (by unfold fP fB; rw [← hf, hv]; exact ⟨rfl, rfl⟩)
    rw [hi] at C2
    obtain ⟨b, o, rfl, hbl, hc⟩ := hps (by omega)
    obtain ⟨d0, d1⟩ := hc i hil
    have hpi : r[i] = p := (List.getElem?_eq_some_iff.1 hip).2
    rw [hpi] at d0 d1
    have hii : ¬ ((i : Int) < 0) := by omega
    have hij : (i : Int) < (r.length : Int) := by omega
    have h2 := hK2.put0 (.int .i64 p.s)
    obtain ⟨c2, c3⟩ := h2.cells
    obtain ⟨f2, f3⟩ := h2.free
    obtain ⟨c4, c5⟩ := (h2.put1 (.int .i64 p.e)).cells
    have HE : Hid (Below w.heap.size w ((w2.setCell ⟨w.heap.size, 0, none⟩ (.int .i64 p.s)).setCell ⟨w.heap.size, 1, none⟩ (.int .i64 p.e))) := Lib.hid ((hB2.setCell (p := ⟨w.heap.size, 0, none⟩) (Nat.le_refl _) _).setCell (p := ⟨w.heap.size, 1, none⟩) (Nat.le_refl _) _)
    clear hf hv hps hb2 hB2 hK2 hr h2 hc hi hip hpi hlc hnc hbl
    go_wp2_with (go_at_call 19; (with_reducible refine C2.out.mono ?_); rintro e w3 ⟨rfl, rfl⟩)
    refine bodyPost_ret (v := .tuple #[pv p, .bool true]) ?_ rfl ⟨by rw [HF.out.1, HF.out.2], HE.out⟩
    simp [results, Try.results10, go_sem, c4, c5]
set_option maxHeartbeats 4000000 in
theorem longest_any (l : List Pr) (al : Option Addr) (cl : Nat) (w : World) (hll : l.length ≤ 1000000) (hx : Ps w w.heap.size al l) :
    Calls Try.prog 13 #[.slice al l.length cl] w (Gives w (longFrom l lowest)) := by
  have C1 := Lib.hid (inorder_any l al cl w hll hx)
  clear hx
  have HLL := Lib.hid (long_len l lowest)
  go_enter Try.func13, Try.ntmps13
  go_wp2
  go_step3
  go_wp2_with (go_at_call 18; (with_reducible refine C1.out.mono ?_); rintro e w1 ⟨r, hr, a, c, rfl, hlc, hnc, hps, hb1⟩)
  go_step3
  go_wp2
  have HB1 := Lib.hid hb1
  have hrl := hr.len
  clear hb1 C1
  go_loopg [3, 4, 5] r.length (fun gf s3 s4 s5 wr => ∃ (k : Nat) (q d : List Pr) (f : Int) (ak : Option Addr) (ck : Nat), s3 = .slice ak q.length ck ∧ s4 = .int .i64 f ∧ r.drop k = q ∧ q.length ≤ gf ∧ (∀ x ∈ r.take k, x.s < f) ∧ q.length ≤ ck ∧ Ps w1 w1.heap.size ak q ∧ wr.ownsRow w1.heap.size 25 2 s5 d.length (cellsOf d) ∧ longFrom l lowest = d ++ longFrom l f ∧ Below w1.heap.size w1 wr)
  case atStart => exact ⟨0, r, [], lowest, a, c, rfl, rfl, rfl, Nat.le_refl _, by simp, hlc, hps, World.ownsRow_nil w1 w1.heap.size 25 2, rfl, Below.refl _ _⟩
  case round =>
    obtain ⟨k, q, d, f, ak, ck, rfl, rfl, hq, hqg, hka, hqc, hpq, hown, hd, hbel⟩ := hrel
    have hf := hr.first (k := k) (f := f) hka
    rw [hq] at hf
    have hql : q.length ≤ 1000000 := by rw [← hq, List.length_drop]; omega
    have C2 := Lib.hid (next_any f q ak ck wr hql (hpq.keeps hbel))
    have HO := Lib.hid hown
    have HB := Lib.hid hbel
    have HPQ := Lib.hid hpq
    have hsz := hbel.size
    cases hv : q.find? (geQ f) with
    | none =>
      have HE : Hid (longFrom l lowest = d) := Lib.hid (by rw [hd, fB_none (by unfold fB; rw [← hf, hv]; rfl), List.append_nil])
      rw [next_none hv] at C2
      clear hf hv hown hbel hpq hd hka hq
      go_wp2_with (go_at_call 19; (with_reducible refine C2.out.mono ?_); rintro e w3 ⟨rfl, rfl⟩)
      obtain ⟨b, cap, rfl, hlc2, hnc2, hps2⟩ := own_ps HO.out rfl
      go_ret
      rw [HE.out]
      exact ⟨b, cap, rfl, hlc2, hnc2, hps2, HB1.out.trans (HB.out.mono HB1.out.size)⟩
    | some p =>
      obtain ⟨i, hi, hil, hip⟩ := next_some hv
      cases gk with
      | zero => exact absurd hil (by omega)
      | succ gf =>
        obtain ⟨hl1, _⟩ := fB_some (l := l) (f := f) (by unfold fB; rw [← hf, hv]; rfl)
        have hfp : fP l f = p := by unfold fP; rw [← hf, hv]; rfl
        rw [hfp] at hl1
        have HD2 : Hid (longFrom l lowest = (d ++ [p]) ++ longFrom l p.e) := Lib.hid (by rw [hd, hl1]; simp)
        have HDL : Hid (d.length + 1 ≤ 1000000) := Lib.hid (by have h1 := congrArg List.length HD2.out; simp at h1; have := HLL.out; omega)
        have HKA : Hid (∀ x ∈ r.take (k + i + 1), x.s < p.e) := Lib.hid (hr.ahead (by rw [hq]; exact hip))
        have HQ2 : Hid (r.drop (k + i + 1) = q.drop (i + 1)) := Lib.hid (by rw [← hq, List.drop_drop]; congr 1)
        rw [hi] at C2
        obtain ⟨b, o, rfl, hbl, hc⟩ := hpq (by omega)
        have hpi : q[i] = p := (List.getElem?_eq_some_iff.1 hip).2
        have HD : Hid (∀ X, Below w1.heap.size w1 X → X.cell? ⟨b, o + i * 2, none⟩ = some (.int .i64 p.s) ∧ X.cell? ⟨b, o + i * 2 + 1, none⟩ = some (.int .i64 p.e)) := Lib.hid fun X h => by
          have h2 := hc i hil
          rw [hpi] at h2
          exact ⟨(h.cell (p := ⟨b, o + i * 2, none⟩) hbl).trans h2.1, (h.cell (p := ⟨b, o + i * 2 + 1, none⟩) hbl).trans h2.2⟩
        obtain ⟨d0, d1⟩ := HD.out wr hbel
        have HPD : Hid (Ps w1 w1.heap.size (some ⟨b, o + (i + 1) * 2, none⟩) (q.drop (i + 1))) := Lib.hid (hpq.drop (i + 1))
        have hii : ¬ ((i : Int) < 0) := by omega
        have hij : (i : Int) < (q.length : Int) := by omega
        clear hf hv hown hbel hpq hd hka hq hc hi hip hpi hl1 hfp
        go_wp2_with (first
          | (go_at_call 19; (with_reducible refine C2.out.mono ?_); rintro e w3 ⟨rfl, rfl⟩)
          | (at_builtin; refine app_ps rfl _ _ rfl w1.heap.size _ d.length d rfl (HO.out.alloc _) (some ⟨_, 0, none⟩) [p] 1 _ rfl (ps_one _ p (0, 0)) (fun e => by cases e) (by have := HDL.out; simp; omega) (by simp; omega) ?_; intro v2 w2 hown2 hg2; have HO2 := Lib.hid hown2; have HB2 := Lib.hid (Prs.app_below (HB.out.alloc HB.out.size _) (HO.out.alloc _) hg2 (by have := HB.out.size; simp; omega) (Nat.le_refl _)); obtain ⟨d2, d3⟩ := HD.out w2 HB2.out; clear hown2 hg2))
        have j1 : (0 : Int) ≤ (i : Int) + 1 := by omega
        have j2 : (i : Int) + 1 ≤ (q.length : Int) := by omega
        have j3 : (i : Int) + 1 ≤ (ck : Int) := by omega
        have j4 : (q.length : Int) ≤ (ck : Int) := by omega
        have j5 : ((i : Int) + 1).toNat = i + 1 := by omega
        by_cases hck : ck = i + 1
        · have n1 : ck = i + 1 := hck
          have HE : Hid (q.drop (i + 1) = []) := Lib.hid (List.drop_eq_nil_iff.2 (by omega))
          go_region
          go_wp2
          go_roundg gf
          case rel => exact ⟨k + i + 1, q.drop (i + 1), d ++ [p], p.e, some ⟨b, o, none⟩, 0, by rw [List.length_drop], rfl, HQ2.out, by rw [List.length_drop]; omega, HKA.out, by rw [List.length_drop]; omega, by rw [HE.out]; exact ps_nil _ _ _, by have h := own_keep HO2.out (below_drews (Below.refl _ _) 1); rw [← List.length_append] at h; exact h, HD2.out, below_drews HB2.out 1⟩
          case measure => omega
        · have n2 : ¬ i + 1 = ck := by omega
          have n3 : ¬ ck = i + 1 := hck
          go_region
          go_wp2
          go_roundg gf
          case rel => exact ⟨k + i + 1, q.drop (i + 1), d ++ [p], p.e, some ⟨b, o + (i + 1) * 2, none⟩, ck - (i + 1), by rw [List.length_drop], rfl, HQ2.out, by rw [List.length_drop]; omega, HKA.out, by rw [List.length_drop]; omega, HPD.out, by have h := own_keep HO2.out (below_drews (Below.refl _ _) 1); rw [← List.length_append] at h; exact h, HD2.out, below_drews HB2.out 1⟩
          case measure => omega
set_option maxHeartbeats 2000000 in
theorem gaps_any (n : Int) (l : List Pr) (al : Option Addr) (cl : Nat) (w : World) (hll : l.length ≤ 1000000) (hx : Ps w w.heap.size al l) :
    Calls Try.prog 15 #[.slice al l.length cl, .int .i64 n] w (Gives w (gapsTo n 0 l)) := by
  have HX := Lib.hid hx
  clear hx
  go_enter Try.func15, Try.ntmps15
  go_wp2
  go_loopg [5, 6, 11] l.length (fun gf s5 s6 s7 wr => ∃ (k : Nat) (d : List Pr) (a : Int), k + gf = l.length ∧ s7 = .int .i64 k ∧ s6 = .int .i64 a ∧ wr.ownsRow w.heap.size 25 2 s5 d.length (cellsOf d) ∧ gapsTo n 0 l = d ++ gapsTo n a (l.drop k) ∧ d.length ≤ k ∧ Below w.heap.size w wr)
  case atStart => exact ⟨0, [], 0, by omega, rfl, rfl, World.ownsRow_nil w w.heap.size 25 2, rfl, by simp, Below.refl _ _⟩
  case round =>
    obtain ⟨k, d, a, hk, rfl, rfl, hown, hgd, hdk, hbel⟩ := hrel
    have HO := Lib.hid hown
    have HB := Lib.hid hbel
    have hsz := hbel.size
    cases gk with
    | zero =>
      obtain rfl : k = l.length := by omega
      have hni : ¬ ((l.length : Int) < (l.length : Int)) := by omega
      rw [List.drop_length] at hgd
      obtain ⟨z, hz⟩ : ∃ z, decide (a < n) = z := ⟨_, rfl⟩
      cases z
      · have HG : Hid (gapsTo n 0 l = d) := Lib.hid (by rw [hgd]; unfold gapsTo; rw [if_neg (of_decide_eq_false hz), List.append_nil])
        clear hgd hown hbel
        go_wp2
        obtain ⟨b, cap, rfl, hlc, hnc, hps⟩ := own_ps HO.out rfl
        go_ret
        rw [HG.out]
        exact ⟨b, cap, rfl, hlc, hnc, hps, HB.out⟩
      · have HG : Hid (gapsTo n 0 l = d ++ [⟨a, n⟩]) := Lib.hid (by rw [hgd]; unfold gapsTo; rw [if_pos (of_decide_eq_true hz)])
        clear hgd hown hbel
        go_wp2_with (at_builtin; refine app_ps rfl _ _ rfl w.heap.size _ d.length d rfl (HO.out.alloc _) (some ⟨wr.heap.size, 0, none⟩) [⟨a, n⟩] 1 _ rfl (ps_one wr ⟨a, n⟩ (0, 0)) (fun e => by cases e) (by simp; omega) (by simp; omega) ?_; intro v2 w2 hown2 hg2; have HO2 := Lib.hid hown2; have HB2 := Lib.hid (Prs.app_below (HB.out.alloc HB.out.size _) (HO.out.alloc _) hg2 (by simp; omega) (Nat.le_refl _)); clear hown2 hg2)
        obtain ⟨b, cap, rfl, hlc, hnc, hps⟩ := own_ps HO2.out (by simp)
        go_ret
        rw [HG.out]
        exact ⟨b, cap, rfl, hlc, hnc, hps, HB2.out⟩
    | succ gf =>
      have hlt : k < l.length := by omega
      have hli : (k : Int) < (l.length : Int) := by omega
      obtain ⟨b, o, rfl, hbl, hc⟩ := HX.out (by omega)
      obtain ⟨p, hpk⟩ : ∃ p, l[k] = p := ⟨_, rfl⟩
      have HD : Hid (∀ X, Below w.heap.size w X → X.cell? ⟨b, o + k * 2, none⟩ = some (.int .i64 p.s) ∧ X.cell? ⟨b, o + k * 2 + 1, none⟩ = some (.int .i64 p.e)) := Lib.hid fun X h => by
        have h2 := hc k hlt
        rw [hpk] at h2
        exact ⟨(h.cell (p := ⟨b, o + k * 2, none⟩) hbl).trans h2.1, (h.cell (p := ⟨b, o + k * 2 + 1, none⟩) hbl).trans h2.2⟩
      obtain ⟨d0, d1⟩ := HD.out wr hbel
      have HK := Lib.hid (Pat.Blk2.new wr 25 (.int .i64 p.s) (.int .i64 p.e))
      obtain ⟨q0, q1⟩ := HK.out.cells
      have HB1 := Lib.hid (hbel.alloc hbel.size (.cells #[.int .i64 p.s, .int .i64 p.e] 25))
      rw [List.drop_eq_getElem_cons hlt, hpk] at hgd
      rw [gaps_cons] at hgd
      obtain ⟨z, hz⟩ : ∃ z, decide (a < p.s) = z := ⟨_, rfl⟩
      obtain ⟨y, hy⟩ : ∃ y, decide (a < p.e) = y := ⟨_, rfl⟩
      clear hc hown hbel hpk
      cases z <;> cases y
      · have HG : Hid (gapsTo n 0 l = (d) ++ gapsTo n a (l.drop (k + 1))) := Lib.hid (by rw [hgd, if_neg (of_decide_eq_false hz), if_neg (of_decide_eq_false hy)]; simp)
        have HM : Hid (max a p.e = a) := Lib.hid (Int.max_eq_left (by have := of_decide_eq_false hy; omega))
        clear hgd
        go_wp2
        go_roundg gf
        case rel => exact ⟨k + 1, d, a, by omega, by go_num, by rw [HM.out], HO.out.alloc _, HG.out, by first | omega | (simp; omega), HB1.out⟩
        case measure => omega
      · have HG : Hid (gapsTo n 0 l = (d) ++ gapsTo n p.e (l.drop (k + 1))) := Lib.hid (by rw [hgd, if_neg (of_decide_eq_false hz), if_pos (of_decide_eq_true hy)]; simp)
        have HM : Hid (max a p.e = p.e) := Lib.hid (Int.max_eq_right (by have := of_decide_eq_true hy; omega))
        clear hgd
        go_wp2
        go_roundg gf
        case rel => exact ⟨k + 1, d, p.e, by omega, by go_num, by rw [HM.out], HO.out.alloc _, HG.out, by first | omega | (simp; omega), HB1.out⟩
        case measure => omega
      · have HG : Hid (gapsTo n 0 l = (d ++ [⟨a, p.s⟩]) ++ gapsTo n a (l.drop (k + 1))) := Lib.hid (by rw [hgd, if_pos (of_decide_eq_true hz), if_neg (of_decide_eq_false hy)]; simp)
        have HM : Hid (max a p.e = a) := Lib.hid (Int.max_eq_left (by have := of_decide_eq_false hy; omega))
        clear hgd
        have HO1 := Lib.hid (HO.out.alloc (.cells #[.int .i64 p.s, .int .i64 p.e] 25))
        have HP1 : Hid (Ps ((wr.alloc (.cells #[.int .i64 p.s, .int .i64 p.e] 25)).alloc (.cells #[.int .i64 a, .int .i64 p.s] 25)) ((wr.alloc (.cells #[.int .i64 p.s, .int .i64 p.e] 25)).alloc (.cells #[.int .i64 a, .int .i64 p.s] 25)).heap.size (some ⟨wr.heap.size + 1, 0, none⟩) [⟨a, p.s⟩]) := Lib.hid (by
          have h := ps_one (wr.alloc (.cells #[.int .i64 p.s, .int .i64 p.e] 25)) ⟨a, p.s⟩ (0, 0)
          rwa [show (wr.alloc (.cells #[.int .i64 p.s, .int .i64 p.e] 25)).heap.size = wr.heap.size + 1 from by simp] at h)
        go_wp2_with (at_builtin; refine app_ps rfl _ _ rfl w.heap.size _ d.length d rfl (HO1.out.alloc _) (some ⟨wr.heap.size + 1, 0, none⟩) [⟨a, p.s⟩] 1 _ rfl HP1.out (fun e => by cases e) (by simp; omega) (by simp; omega) ?_; intro v2 w2 hown2 hg2; have HO2 := Lib.hid hown2; have HB2 := Lib.hid (Prs.app_below (HB1.out.alloc HB1.out.size _) (HO1.out.alloc _) hg2 (by have := HB1.out.size; simp; omega) (Nat.le_refl _)); obtain ⟨m0, m1⟩ := ((HK.out.alloc (.cells #[.int .i64 a, .int .i64 p.s] 25)).grown hg2 (by intro e; have := (own_block_lt HO.out e.symm).2.1; omega)).cells; clear hown2 hg2)
        go_roundg gf
        case rel => exact ⟨k + 1, d ++ [⟨a, p.s⟩], a, by omega, by go_num, by rw [HM.out], by simpa using HO2.out, HG.out, by first | omega | (simp; omega), HB2.out⟩
        case measure => omega
      · have HG : Hid (gapsTo n 0 l = (d ++ [⟨a, p.s⟩]) ++ gapsTo n p.e (l.drop (k + 1))) := Lib.hid (by rw [hgd, if_pos (of_decide_eq_true hz), if_pos (of_decide_eq_true hy)]; simp)
        have HM : Hid (max a p.e = p.e) := Lib.hid (Int.max_eq_right (by have := of_decide_eq_true hy; omega))
        clear hgd
        have HO1 := Lib.hid (HO.out.alloc (.cells #[.int .i64 p.s, .int .i64 p.e] 25))
        have HP1 : Hid (Ps ((wr.alloc (.cells #[.int .i64 p.s, .int .i64 p.e] 25)).alloc (.cells #[.int .i64 a, .int .i64 p.s] 25)) ((wr.alloc (.cells #[.int .i64 p.s, .int .i64 p.e] 25)).alloc (.cells #[.int .i64 a, .int .i64 p.s] 25)).heap.size (some ⟨wr.heap.size + 1, 0, none⟩) [⟨a, p.s⟩]) := Lib.hid (by
          have h := ps_one (wr.alloc (.cells #[.int .i64 p.s, .int .i64 p.e] 25)) ⟨a, p.s⟩ (0, 0)
          rwa [show (wr.alloc (.cells #[.int .i64 p.s, .int .i64 p.e] 25)).heap.size = wr.heap.size + 1 from by simp] at h)
        go_wp2_with (at_builtin; refine app_ps rfl _ _ rfl w.heap.size _ d.length d rfl (HO1.out.alloc _) (some ⟨wr.heap.size + 1, 0, none⟩) [⟨a, p.s⟩] 1 _ rfl HP1.out (fun e => by cases e) (by simp; omega) (by simp; omega) ?_; intro v2 w2 hown2 hg2; have HO2 := Lib.hid hown2; have HB2 := Lib.hid (Prs.app_below (HB1.out.alloc HB1.out.size _) (HO1.out.alloc _) hg2 (by have := HB1.out.size; simp; omega) (Nat.le_refl _)); obtain ⟨m0, m1⟩ := ((HK.out.alloc (.cells #[.int .i64 a, .int .i64 p.s] 25)).grown hg2 (by intro e; have := (own_block_lt HO.out e.symm).2.1; omega)).cells; clear hown2 hg2)
        go_roundg gf
        case rel => exact ⟨k + 1, d ++ [⟨a, p.s⟩], p.e, by omega, by go_num, by rw [HM.out], by simpa using HO2.out, HG.out, by first | omega | (simp; omega), HB2.out⟩
        case measure => omega
end Go.Proofs.Ytlmncljnnpnjmaa.Pck
