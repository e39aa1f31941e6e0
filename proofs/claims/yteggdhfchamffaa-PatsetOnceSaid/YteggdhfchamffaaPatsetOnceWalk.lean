/- The walk of PatsetOnce. -/
import Derived.Test.YteggdhfchamffaaPi
import Derived.Test.YteggdhfchamffaaPh
import Derived.Test.YteggdhfchamffaaPj
import Derived.Test.YteggdhfchamffaaPn
namespace Go.Proofs.Yteggdhfchamffaa.patsetOnce
open Go.RowKit

/-- Where the last of the first k patterns stands; -1: there is none. -/
def lastAt (came : List (List UInt8)) : Nat → Int
  | 0 => -1
  | k + 1 => (idx came ((pats came).getD k []) : Int)
theorem lastAt_succ (came : List (List UInt8)) (k : Nat) (h : k < (pats came).length) : lastAt came (k + 1) = (idx came (pats came)[k] : Int) := by
  show ((idx came ((pats came).getD k []) : Nat) : Int) = _
  rw [show (pats came).getD k [] = (pats came)[k] by simp [List.getD, h]]
theorem lastAt_lt (came : List (List UInt8)) (k : Nat) (h : k < (pats came).length) : lastAt came k < (idx came (pats came)[k] : Int) := by
  cases k with
  | zero => show (-1 : Int) < _; omega
  | succ k =>
    rw [lastAt_succ came k (by omega)]
    have := pats_next came k (k + 1) (by omega) h
    omega
theorem lastAt_ge (came : List (List UInt8)) (k : Nat) : -1 ≤ lastAt came k := by
  cases k with
  | zero => exact Int.le_refl _
  | succ k => show (-1 : Int) ≤ ((_ : Nat) : Int); omega

set_option maxRecDepth 100000 in
set_option maxHeartbeats 8000000 in
/-- Texts that are few and short. -/
theorem small (w : World) (xs : List TxV) (a0 : Option Addr) (cap0 : Nat) (hts : Ts w a0 xs) (h0 : xs.length ≤ 60) (hx : ∀ x ∈ xs, x.text.length ≤ 300) :
    Calls Try.prog 5 #[.slice a0 xs.length cap0] w fun e w' => e = .returned (.bool true) ∧ Below w.heap.size w w' := by
  obtain ⟨came, hcm⟩ : ∃ came, came = xs.map TxV.text := ⟨_, rfl⟩
  have hcl : came.length = xs.length := by rw [hcm]; simp
  have hcx : ∀ x ∈ came, x.length ≤ 300 := fun x h => by
    rw [hcm] at h
    obtain ⟨y, hy, rfl⟩ := List.mem_map.1 h
    exact hx y hy
  have hcl60 : came.length ≤ 60 := by omega
  have hpl := pats_len came
  obtain ⟨n, hn⟩ : ∃ n, n = (pats came).length := ⟨_, rfl⟩
  obtain ⟨c, hc⟩ : ∃ c, c = came.length := ⟨_, rfl⟩
  have hn60 : n ≤ 60 := by omega
  have hc60 : c ≤ 60 := by omega
  have hxc : xs.length = c := by omega
  have HN := Lib.hid hn
  have HCC := Lib.hid hc
  have HC := Lib.hid hcm
  have HXC := Lib.hid hxc
  have HCX := Lib.hid hcx
  have HX := Lib.hid hx
  clear hn hc hcm hcl hcx hcl60 hpl hx
  rw [hxc]
  rw [hxc] at h0
  clear hxc
  go_enter Try.func5, Try.ntmps5
  go_wp2_with fail
  refine (awake_any _).mono ?_
  rintro e' w1 ⟨rfl, hb2⟩
  have ts1 := hts.keep hb2
  have LT := ltexts_any xs a0 cap0 w1 ts1 (by rw [HXC.out]; omega) (fun x h => Nat.le_trans (HX.out x h) (by unfold maxLen; omega))
  rw [HXC.out] at LT
  go_wp2_with fail
  refine LT.mono ?_
  unfold GivesL
  rw [HXC.out]
  rintro e' w2 ⟨hb3, hcase⟩
  rcases hcase with ⟨hbad, _⟩ | ⟨_, aL, cL, rfl, hsL⟩
  · exact absurd HX.out hbad
  rw [decide_eq_true h0]
  have ts2 := ts1.keep hb3
  have B2 := hb2.trans (hb3.mono hb2.size)
  rw [← HC.out] at hsL
  have OF := of_any xs a0 cap0 w2 ts2 (by rw [HXC.out]; omega) (fun x h => Nat.le_trans (HX.out x h) (by omega))
  rw [HXC.out, ← HC.out] at OF
  clear hb2 hb3 ts1 hts LT
  go_wp2_with fail
  refine OF.mono ?_
  rintro e' w3 ⟨m, a2, c2, rfl, hs3, hb4⟩
  rw [← HN.out]
  have hbn := below_new w3 (.cells #[.map m, .slice a2 n c2] 27)
  have hb5 := hb4.trans (hbn.mono hb4.size)
  have X1 := Lib.hid (Box.new (n := n) (c := c2) hs3)
  have XL := Lib.hid (hsL.keep hb5)
  have XT := Lib.hid (ts2.keep hb5)
  have X3 := Lib.hid (B2.trans (hb5.mono B2.size))
  clear hb4 hbn hb5 hs3 ts2 hsL B2 OF
  obtain ⟨d0, d1⟩ := X1.out.1.cells
  go_wp2_with fail
  refine (patterns_n came (pats came) n m a2 c2 _ rfl HN.out.symm X1.out.2 (by omega) (fun x hx => Nat.le_trans (HCX.out x ((mem_pats _ x).1 hx).1) (by omega))).mono ?_
  rintro e' W0 ⟨a6, c6, ps, rfl, hps, htp, hb6⟩
  have Y1 := Lib.hid (X1.out.keep hb6)
  have YL := Lib.hid (XL.out.keep hb6)
  have YT := Lib.hid (XT.out.keep hb6)
  have Y3 := Lib.hid (X3.out.trans (hb6.mono X3.out.size))
  have HTP := Lib.hid htp
  have HPS := Lib.hid hps
  have HPL : Hid (ps.length = n) := Lib.hid (by rw [HN.out, ← hps]; simp)
  clear d0 d1 hb6 X1 XL XT X3 htp hps
  go_wp2
  go_loopw [8, 9, 10] (fun at_ i _ wr => ∃ k : Nat, k ≤ n ∧ i = .int .i64 k ∧ at_ = .int .i64 (lastAt came k) ∧ Below W0.heap.size W0 wr) (fun _ i _ _ => n - (intOf i).toNat)
  case atStart => exact ⟨0, Nat.zero_le _, rfl, rfl, Below.refl _ _⟩
  case round =>
    obtain ⟨k, hk, rfl, rfl, hbel⟩ := hrel
    by_cases hlt : k < n
    · have hkp : k < ps.length := by rw [HPL.out]; exact hlt
      have hkq : k < (pats came).length := by rw [← HN.out]; exact hlt
      obtain ⟨⟨b1, o1, rfl, hbl1, hc1⟩, hbs1⟩ : (∃ b off, a6 = some ⟨b, off, none⟩ ∧ b < W0.heap.size ∧ ∀ i (h : i < ps.length), W0.cell? ⟨b, off + i, none⟩ = some (.slice ps[i].a ps[i].text.length ps[i].cap)) ∧ Bs W0 W0.heap.size ps[k].a ps[k].text :=
        ⟨HTP.out.1 (by omega), HTP.out.2 _ (List.getElem_mem hkp)⟩
      have e1 : ps[k].text = (pats came)[k] := by
        have h1 := map_at ps k hkp
        rw [← h1]
        simp only [HPS.out]
      have hmem := (mem_pats came _).1 (List.getElem_mem hkq)
      have hj1 := idx_lt came _ hmem.1
      have hj2 := idx_at came _ hj1
      have hj3 := idx_not came (pats came)[k]
      have hla := lastAt_lt came k hkq
      have hls := lastAt_succ came k hkq
      have hlg := lastAt_ge came k
      have hd1 := (hbel.cell (p := ⟨b1, o1 + k, none⟩) hbl1).trans (hc1 k hkp)
      rw [e1] at hd1 hbs1
      rw [← HCC.out] at hj1
      obtain ⟨q, hq⟩ : ∃ q, q = idx came (pats came)[k] := ⟨_, rfl⟩
      rw [← hq] at hj1 hla hls
      have HJ2 : Hid (∀ h : q < came.length, came[q] = (pats came)[k]) := Lib.hid (by subst hq; exact fun _ => hj2)
      have HJ3 : Hid (∀ j (h : j < q) (h' : j < came.length), came[j] ≠ (pats came)[k]) := Lib.hid (by subst hq; exact fun j h _ => hj3 j h)
      have hy0 : 0 < (pats came)[k].length := List.length_pos_iff.2 hmem.2
      obtain ⟨z, hz⟩ : ∃ z, z = lastAt came k := ⟨_, rfl⟩
      rw [← hz] at hla hlg ⊢
      have HLS := Lib.hid hls
      clear e1 hc1 hmem hj2 hj3 hq hls hz
      generalize (pats came)[k] = y at *
      generalize ps[k].a = ay at *
      generalize ps[k].cap = cy at *
      have hzy : ((y.length : Int) == 0) = false := beq_eq_false_iff_ne.2 (by omega)
      have HBY := Lib.hid hbs1
      obtain ⟨b2, o2, rfl, hbl2, hc2⟩ := YL.out (by rw [← HCC.out]; omega)
      have HC2 := Lib.hid hc2
      have HBE := Lib.hid hbel
      clear hbs1 hc2
      have hzs : q < 60 := by omega
      go_wp2
      go_loopw [10] (fun j_ wr2 => ∃ j : Nat, j ≤ q ∧ j_ = .int .i64 j ∧ Below W0.heap.size W0 wr2) (fun j_ _ => q - (intOf j_).toNat)
      case atStart => exact ⟨0, Nat.zero_le _, rfl, hbel⟩
      case round =>
        obtain ⟨j, hj, rfl, hbel2⟩ := hrel
        have hjc : j < came.length := by rw [← HCC.out]; omega
        have hdj : decide (j < c) = true := decide_eq_true (by omega)
        have hcl := (hbel2.cell (p := ⟨b2, o2 + j, none⟩) hbl2).trans (HC2.out j hjc)
        have hcp := (hbel2.cell (p := ⟨b1, o1 + k, none⟩) hbl1).trans ((HBE.out.cell (p := ⟨b1, o1 + k, none⟩) hbl1).symm.trans hd1)
        have hcv : ∀ q, (convert 22 9 (.slice ay y.length cy)).run Try.prog (wr.drewN q) = .ok (.string (str y)) (wr.drewN q) := fun q => str_of_bs (w := wr.drewN q) cy ((HBY.out.keep hbel2).more hbel2.size)
        by_cases hjq : j < q
        · have hne : ((str came[j]).toList == (str y).toList) = false := by rw [str_beq]; exact decide_eq_false (HJ3.out j hjq hjc)
          go_wp2
          go_quiet (fail)
          go_wp2
          go_roundw
          case rel => exact ⟨j + 1, by omega, by go_num, below_drews hbel2 _⟩
          case measure => simp [intOf]; omega
        · have hje : j = q := by omega
          have heq : ((str came[j]).toList == (str y).toList) = true := by subst hje; rw [str_beq]; exact decide_eq_true (HJ2.out hjc)
          have HJE := Lib.hid hje
          have hjz : ¬ (j : Int) ≤ z := by omega
          clear hje
          go_wp2
          go_quiet (fail)
          go_wp2
          exact ⟨⟨k + 1, by omega, by go_num, by rw [HLS.out, HJE.out], below_drews hbel2 _⟩, by simp [intOf]; omega⟩
    · have hS0 := Y1.out.1.cells
      have HBE := Lib.hid hbel
      have HALL : Hid (∀ j (h : j < xs.length) (X : World), Below W0.heap.size W0 X → Calls Try.prog 14 #[.agg #[.map m, .slice a2 n c2], .slice xs[j].a xs[j].text.length xs[j].cap] X fun e' w' => e' = .returned (.bool true) ∧ Below X.heap.size X w') := Lib.hid fun j h X hX => by
        have hmm : xs[j].text ∈ came := by rw [HC.out]; exact List.mem_map_of_mem (List.getElem_mem h)
        have := has_any m a2 n c2 came xs[j].text xs[j].a xs[j].cap X (Y1.out.2.keep hX) (((YT.out.2 _ (List.getElem_mem h)).keep hX).more hX.size) (Nat.le_trans (HX.out _ (List.getElem_mem h)) (by omega))
        rwa [decide_eq_true hmm] at this
      clear hS0
      go_wp2
      go_loopw [11] (fun j_ wr => ∃ j : Nat, j ≤ c ∧ j_ = .int .i64 j ∧ Below W0.heap.size W0 wr) (fun j_ _ => c - (intOf j_).toNat)
      case atStart => exact ⟨0, Nat.zero_le _, rfl, hbel⟩
      case round =>
        obtain ⟨j, hj, rfl, hbel2⟩ := hrel
        have hk1 := Y1.out.1.keep hbel2 Y1.out.1.lt
        obtain ⟨p0, p1⟩ := hk1.cells
        by_cases hjc : j < c
        · have hjx : j < xs.length := by rw [HXC.out]; exact hjc
          obtain ⟨b1, o1, rfl, hbl1, hc1⟩ : ∃ b off, a0 = some ⟨b, off, none⟩ ∧ b < W0.heap.size ∧ ∀ i (h : i < xs.length), W0.cell? ⟨b, off + i, none⟩ = some (.slice xs[i].a xs[i].text.length xs[i].cap) := YT.out.1 (by omega)
          have hd1 := (hbel2.cell (p := ⟨b1, o1 + j, none⟩) hbl1).trans (hc1 j hjx)
          have HAS := Lib.hid (HALL.out j hjx)
          clear hc1 HALL hk1
          generalize xs[j].text = y at *
          generalize xs[j].a = ay at *
          generalize xs[j].cap = cy at *
          go_wp2
          go_still_tail 5, (by kernel_rfl)
          change wpList _ _ _ _ _ wr.drew
          have HB3 := Lib.hid (hbel2.drew)
          generalize wr.drew = w9 at *
          clear p0 p1 hd1 hbel2
          go_wp2_with (go_at_call 14; ((with_reducible refine (HAS.out _ HB3.out).mono ?_)); rintro e' w10 ⟨rfl, hb10⟩)
          go_roundw
          case rel => exact ⟨j + 1, by omega, by go_num, HB3.out.trans (hb10.mono HB3.out.size)⟩
          case measure => simp [intOf]; omega
        · clear p0 p1 hk1
          go_wp2
          go_ret
          exact ⟨rfl, Y3.out.trans (hbel2.mono Y3.out.size)⟩

theorem walk (w : World) (xs : List TxV) (a0 : Option Addr) (cap0 : Nat) (hz0 : xs.length ≤ 6000000000000) (hx0 : ∀ x ∈ xs, x.text.length ≤ maxLen) (hts : Ts w a0 xs) :
    Calls Try.prog 5 #[.slice a0 xs.length cap0] w fun e w' => e = .returned (.bool true) ∧ Below w.heap.size w w' := by
  by_cases hall : xs.length ≤ 60 ∧ (∀ x ∈ xs, x.text.length ≤ 300)
  · exact small w xs a0 cap0 hts hall.1 hall.2
  · have HALL := Lib.hid hall
    have HX := Lib.hid hx0
    clear hall hx0
    go_enter Try.func5, Try.ntmps5
    go_wp2_with fail
    refine (awake_any _).mono ?_
    rintro e' w1 ⟨rfl, hb2⟩
    have ts1 := hts.keep hb2
    go_wp2_with fail
    refine (ltexts_any xs a0 cap0 w1 ts1 hz0 HX.out).mono ?_
    rintro e' w2 ⟨hb3, hcase⟩
    have B2 := hb2.trans (hb3.mono hb2.size)
    rcases hcase with ⟨_, rfl⟩ | ⟨hok, aL, cL, rfl, _⟩
    · go_wp2
      go_ret
      exact ⟨rfl, B2⟩
    · have h60 : ¬ xs.length ≤ 60 := fun h => HALL.out ⟨h, hok⟩
      rw [decide_eq_false h60]
      clear HALL hok
      go_wp2
      go_ret
      exact ⟨rfl, B2⟩
end Go.Proofs.Yteggdhfchamffaa.patsetOnce
