/- The walk of PatsetFolds. -/
import Derived.Test.YteggdhfchamffaaPi
import Derived.Test.YteggdhfchamffaaPj
import Derived.Test.YteggdhfchamffaaPn
namespace Go.Proofs.Yteggdhfchamffaa.patsetFolds
open Go.RowKit
attribute [local go_sem ↓] Go.wp_at_zero Go.wp_at_succ

theorem keepS {W0 X Y : World} {m m' : Option Nat} {a2 a3 : Option Addr} {g4 g6 n c2 c3 : Nat} (hb : Below X.heap.size X Y) (h : X.cell? ⟨g4, 0, none⟩ = some (.map m) ∧ X.cell? ⟨g4, 1, none⟩ = some (.slice a2 n c2) ∧ X.cell? ⟨g6, 0, none⟩ = some (.map m') ∧ X.cell? ⟨g6, 1, none⟩ = some (.slice a3 n c3) ∧ Below W0.heap.size W0 X) : Y.cell? ⟨g4, 0, none⟩ = some (.map m) ∧ Y.cell? ⟨g4, 1, none⟩ = some (.slice a2 n c2) ∧ Y.cell? ⟨g6, 0, none⟩ = some (.map m') ∧ Y.cell? ⟨g6, 1, none⟩ = some (.slice a3 n c3) ∧ Below W0.heap.size W0 Y := by
  obtain ⟨x0, x1, y0, y1, bel⟩ := h
  have k : ∀ (g j : Nat) (v : Value), X.cell? ⟨g, j, none⟩ = some v → Y.cell? ⟨g, j, none⟩ = some v := fun g j v hv => (hb.cell (p := ⟨g, j, none⟩) (World.block_lt_of_cell? X _ hv)).trans hv
  exact ⟨k _ _ _ x0, k _ _ _ x1, k _ _ _ y0, k _ _ _ y1, bel.trans (hb.mono bel.size)⟩
theorem belS {W0 X : World} {m m' : Option Nat} {a2 a3 : Option Addr} {g4 g6 n c2 c3 : Nat} (h : X.cell? ⟨g4, 0, none⟩ = some (.map m) ∧ X.cell? ⟨g4, 1, none⟩ = some (.slice a2 n c2) ∧ X.cell? ⟨g6, 0, none⟩ = some (.map m') ∧ X.cell? ⟨g6, 1, none⟩ = some (.slice a3 n c3) ∧ Below W0.heap.size W0 X) : Below W0.heap.size W0 X := h.2.2.2.2
theorem keepT {W0 X Y : World} {ax ay : Option Addr} {y : List UInt8} {b1 o1 b2 o2 k cx cy : Nat} (hbx : Bs W0 W0.heap.size ax y) (hby : Bs W0 W0.heap.size ay y) (hb : Below X.heap.size X Y) (h : X.cell? ⟨b1, o1 + k, none⟩ = some (.slice ax y.length cx) ∧ X.cell? ⟨b2, o2 + k, none⟩ = some (.slice ay y.length cy) ∧ (convert 22 9 (.slice ax y.length cx)).run Try.prog X = .ok (.string (str y)) X ∧ (convert 22 9 (.slice ay y.length cy)).run Try.prog X = .ok (.string (str y)) X ∧ Below W0.heap.size W0 X) : Y.cell? ⟨b1, o1 + k, none⟩ = some (.slice ax y.length cx) ∧ Y.cell? ⟨b2, o2 + k, none⟩ = some (.slice ay y.length cy) ∧ (convert 22 9 (.slice ax y.length cx)).run Try.prog Y = .ok (.string (str y)) Y ∧ (convert 22 9 (.slice ay y.length cy)).run Try.prog Y = .ok (.string (str y)) Y ∧ Below W0.heap.size W0 Y := by
  obtain ⟨x0, x1, _, _, bel⟩ := h
  have k : ∀ (g j : Nat) (v : Value), X.cell? ⟨g, j, none⟩ = some v → Y.cell? ⟨g, j, none⟩ = some v := fun g j v hv => (hb.cell (p := ⟨g, j, none⟩) (World.block_lt_of_cell? X _ hv)).trans hv
  have bel2 := bel.trans (hb.mono bel.size)
  exact ⟨k _ _ _ x0, k _ _ _ x1, str_of_bs cx ((hbx.keep bel2).more bel2.size), str_of_bs cy ((hby.keep bel2).more bel2.size), bel2⟩
theorem belT {W0 X : World} {ax ay : Option Addr} {y : List UInt8} {b1 o1 b2 o2 k cx cy : Nat} (h : X.cell? ⟨b1, o1 + k, none⟩ = some (.slice ax y.length cx) ∧ X.cell? ⟨b2, o2 + k, none⟩ = some (.slice ay y.length cy) ∧ (convert 22 9 (.slice ax y.length cx)).run Try.prog X = .ok (.string (str y)) X ∧ (convert 22 9 (.slice ay y.length cy)).run Try.prog X = .ok (.string (str y)) X ∧ Below W0.heap.size W0 X) : Below W0.heap.size W0 X := h.2.2.2.2

set_option maxRecDepth 100000 in
set_option maxHeartbeats 8000000 in
theorem walk (w : World) (t : List UInt8) (a0 : Option Addr) (cap0 : Nat) (hm0 : t.length ≤ maxLen) (hb0 : Bs w w.heap.size a0 t) :
    Calls Try.prog 6 #[.slice a0 t.length cap0] w fun e w' => e = .returned (.bool true) ∧ Below w.heap.size w w' := by
  unfold maxLen at hm0
  by_cases h0 : t.length ≤ 1024
  · obtain ⟨came, hca⟩ : ∃ came, came = loaded true t := ⟨_, rfl⟩
    have hcb : came = loaded false (lows t) := by rw [hca, loaded_lows]
    have hll : (lows t).length = t.length := by simp [lows]
    obtain ⟨n, hn⟩ : ∃ n, n = (pats came).length := ⟨_, rfl⟩
    obtain ⟨e, he⟩ : ∃ e, e = decide ([] ∈ came) := ⟨_, rfl⟩
    have hcl : came.length ≤ 1024 := by rw [hca]; exact loaded_len true t
    have hpl := pats_len came
    have hpx : ∀ x ∈ pats came, x.length ≤ 1024 := fun x h => by
      have := ((mem_pats _ x).1 h).1
      rw [hca] at this
      exact loaded_mem true t x this
    have hpf : ∀ x ∈ pats came, lows x = x := fun x h => by
      have := ((mem_pats _ x).1 h).1
      rw [hca] at this
      exact loaded_fixed t x this
    have hc0 : code t = 0 := by unfold code; rw [if_neg (by omega)]
    have hc1 : code (lows t) = 0 := by unfold code; rw [hll, if_neg (by omega)]
    have HCA := Lib.hid hca
    have HCB := Lib.hid hcb
    have HLL := Lib.hid hll
    have HN := Lib.hid hn
    have HE := Lib.hid he
    have HPX := Lib.hid hpx
    have HPF := Lib.hid hpf
    have HC0 := Lib.hid hc0
    have HC1 := Lib.hid hc1
    have hn1 : n ≤ 1024 := by omega
    clear hca hcb hll hn he hcl hpl hpx hpf hc0 hc1
    go_enter Try.func6, Try.ntmps6
    go_wp2_with fail
    refine (awake_any _).mono ?_
    rintro e' w1 ⟨rfl, hb2⟩
    have bt1 := (hb0.keep hb2).more hb2.size
    go_wp2_with fail
    refine (load_any true t a0 cap0 w1 (by omega) bt1).mono ?_
    unfold GivesLoad
    rw [← HCA.out]
    rintro e' w2 ⟨m, a2, c2, rfl, hs2, hb3⟩
    rw [← HN.out, HC0.out]
    have hbn := below_new w2 (.cells #[.map m, .slice a2 n c2] 27)
    have hb4 := hb3.trans (hbn.mono hb3.size)
    have x1 := Box.new (n := n) (c := c2) hs2
    have bt2 := (bt1.keep hb4).more hb4.size
    have hcv := str_of_bs cap0 bt2
    have B2 := hb2.trans (hb4.mono hb2.size)
    clear hb2 hb3 hbn hb4 hs2 bt1 hb0
    go_wp2_with fail
    refine (rbytes_any t _ (by omega)).mono ?_
    rintro e' w3 ⟨rfl, hb5⟩
    have x2 := x1.keep hb5
    have B3 := B2.trans (hb5.mono B2.size)
    obtain ⟨cn, w4, hcv4, htx4, hb6⟩ := conv_text w3 (lows t)
    have x3 := x2.keep hb6
    have B4 := B3.trans (hb6.mono B3.size)
    clear hcv bt2 x1 x2 B2 B3 hb5 hb6
    go_wp2_with fail
    refine (load_any false (lows t) _ cn w4 (by rw [HLL.out]; omega) htx4.bs).mono ?_
    unfold GivesLoad
    rw [← HCB.out]
    rintro e' w5 ⟨m', a3, c3, rfl, hs5, hb7⟩
    rw [← HN.out, HC1.out]
    have hbn := below_new w5 (.cells #[.map m', .slice a3 n c3] 27)
    have hb8 := hb7.trans (hbn.mono hb7.size)
    have X1 := Lib.hid (x3.keep hb8)
    have X2 := Lib.hid (Box.new (n := n) (c := c3) hs5)
    have X3 := Lib.hid (B4.trans (hb8.mono B4.size))
    clear hbn hb8 x3 B4 hb7 hs5 htx4 hcv4
    obtain ⟨d0, d1⟩ := X1.out.1.cells
    go_wp2_with fail
    refine (patterns_n came (pats came) n m a2 c2 _ rfl HN.out.symm X1.out.2 (by omega) (fun x hx => Nat.le_trans (HPX.out x hx) (by omega))).mono ?_
    rintro e' w6 ⟨a6, c6, xs, rfl, hxs, hts, hb9⟩
    have Y1 := Lib.hid (X1.out.keep hb9)
    have Y2 := Lib.hid (X2.out.keep hb9)
    have Y3 := Lib.hid (X3.out.trans (hb9.mono X3.out.size))
    clear d0 d1 hb9 X1 X2 X3
    obtain ⟨d0, d1⟩ := Y2.out.1.cells
    go_wp2_with fail
    refine (patterns_n came (pats came) n m' a3 c3 _ rfl HN.out.symm Y2.out.2 (by omega) (fun x hx => Nat.le_trans (HPX.out x hx) (by omega))).mono ?_
    rintro e' W0 ⟨a7, c7, ys, rfl, hys, htt, hb9⟩
    have X1 := Lib.hid (Y1.out.keep hb9)
    have X2 := Lib.hid (Y2.out.keep hb9)
    have X3 := Lib.hid (Y3.out.trans (hb9.mono Y3.out.size))
    have HTS := Lib.hid (hts.keep hb9)
    have HTT := Lib.hid htt
    have hxl : xs.length = n := by rw [HN.out, ← hxs]; simp
    have hyl : ys.length = n := by rw [HN.out, ← hys]; simp
    have HXS := Lib.hid hxs
    have HYS := Lib.hid hys
    have HXL := Lib.hid hxl
    have HYL := Lib.hid hyl
    clear d0 d1 hb9 Y1 Y2 Y3 hts htt hxs hys hxl hyl
    have hSd : W0.drew.cell? ⟨w2.heap.size, 0, none⟩ = some (.map m) ∧ W0.drew.cell? ⟨w2.heap.size, 1, none⟩ = some (.slice a2 n c2) ∧ W0.drew.cell? ⟨w5.heap.size, 0, none⟩ = some (.map m') ∧ W0.drew.cell? ⟨w5.heap.size, 1, none⟩ = some (.slice a3 n c3) ∧ Below W0.heap.size W0 W0.drew := ⟨X1.out.1.cells.1, X1.out.1.cells.2, X2.out.1.cells.1, X2.out.1.cells.2, (Below.refl _ _).drew⟩
    have EA : Hid (∀ X : World, Below W0.heap.size W0 X → Calls Try.prog 20 #[.agg #[.map m, .slice a2 n c2]] X fun e' w' => e' = .returned (.bool e) ∧ Below X.heap.size X w') := Lib.hid fun X h => by rw [HE.out]; exact empty_any m a2 n c2 came X (X1.out.2.keep h)
    have EB : Hid (∀ X : World, Below W0.heap.size W0 X → Calls Try.prog 20 #[.agg #[.map m', .slice a3 n c3]] X fun e' w' => e' = .returned (.bool e) ∧ Below X.heap.size X w') := Lib.hid fun X h => by rw [HE.out]; exact empty_any m' a3 n c3 came X (X2.out.2.keep h)
    go_wp2_with fail
    go_region_held3 (fun w' => w'.cell? ⟨w2.heap.size, 0, none⟩ = some (.map m) ∧ w'.cell? ⟨w2.heap.size, 1, none⟩ = some (.slice a2 n c2) ∧ w'.cell? ⟨w5.heap.size, 0, none⟩ = some (.map m') ∧ w'.cell? ⟨w5.heap.size, 1, none⟩ = some (.slice a3 n c3) ∧ Below W0.heap.size W0 w')
      (first | assumption | exact keepS (by assumption) (by assumption))
      (first
        | (go_at_call 20; ((with_reducible refine (EA.out _ (belS (m := m) (m' := m') (a2 := a2) (a3 := a3) (g4 := w2.heap.size) (g6 := w5.heap.size) (n := n) (c2 := c2) (c3 := c3) (by assumption))).mono ?_)); rintro e' wx ⟨rfl, hwx⟩)
        | (go_at_call 20; ((with_reducible refine (EB.out _ (belS (m := m) (m' := m') (a2 := a2) (a3 := a3) (g4 := w2.heap.size) (g6 := w5.heap.size) (n := n) (c2 := c2) (c3 := c3) (by assumption))).mono ?_)); rintro e' wx ⟨rfl, hwx⟩))
    rename_i hHeld
    have hbx := belS hHeld
    clear hHeld hSd EA EB X1 X2
    go_wp2
    go_loopw [10] (fun i wr => ∃ k : Nat, k ≤ n ∧ i = .int .i64 k ∧ Below W0.heap.size W0 wr) (fun i _ => n - (intOf i).toNat)
    case atStart => exact ⟨0, Nat.zero_le _, rfl, hbx⟩
    case round =>
      obtain ⟨k, hk, rfl, hbel⟩ := hrel
      by_cases hlt : k < n
      · have hkx : k < xs.length := by rw [HXL.out]; exact hlt
        have hky : k < ys.length := by rw [HYL.out]; exact hlt
        have hkp : k < (pats came).length := by rw [← HN.out]; exact hlt
        obtain ⟨⟨b1, o1, rfl, hbl1, hc1⟩, hbs1⟩ : (∃ b off, a6 = some ⟨b, off, none⟩ ∧ b < W0.heap.size ∧ ∀ i (h : i < xs.length), W0.cell? ⟨b, off + i, none⟩ = some (.slice xs[i].a xs[i].text.length xs[i].cap)) ∧ Bs W0 W0.heap.size xs[k].a xs[k].text :=
          ⟨HTS.out.1 (by omega), HTS.out.2 _ (List.getElem_mem hkx)⟩
        obtain ⟨⟨b2, o2, rfl, hbl2, hc2⟩, hbs2⟩ : (∃ b off, a7 = some ⟨b, off, none⟩ ∧ b < W0.heap.size ∧ ∀ i (h : i < ys.length), W0.cell? ⟨b, off + i, none⟩ = some (.slice ys[i].a ys[i].text.length ys[i].cap)) ∧ Bs W0 W0.heap.size ys[k].a ys[k].text :=
          ⟨HTT.out.1 (by omega), HTT.out.2 _ (List.getElem_mem hky)⟩
        have e1 : xs[k].text = (pats came)[k] := by
          have h1 := map_at xs k hkx
          rw [← h1]
          simp only [HXS.out]
        have e2 : ys[k].text = (pats came)[k] := by
          have h1 := map_at ys k hky
          rw [← h1]
          simp only [HYS.out]
        have hd1 := (hbel.cell (p := ⟨b1, o1 + k, none⟩) hbl1).trans (hc1 k hkx)
        have hd2 := (hbel.cell (p := ⟨b2, o2 + k, none⟩) hbl2).trans (hc2 k hky)
        have hfx : lows (pats came)[k] = (pats came)[k] := HPF.out _ (List.getElem_mem hkp)
        have hfl : (pats came)[k].length ≤ 1024 := HPX.out _ (List.getElem_mem hkp)
        rw [e1] at hd1 hbs1
        rw [e2] at hd2 hbs2
        clear e1 e2 hc1 hc2
        generalize (pats came)[k] = y at *
        generalize xs[k].a = ax at *
        generalize xs[k].cap = cx at *
        generalize ys[k].a = ay at *
        generalize ys[k].cap = cy at *
        have RBY : Hid (∀ X : World, Calls Try.prog 19 #[.string (str y)] X fun e' w' => e' = .returned (.string (str y)) ∧ Below X.heap.size X w') := Lib.hid fun X => by
          have := rbytes_any y X (by omega)
          rwa [hfx] at this
        have HBX := Lib.hid hbs1
        have HBY := Lib.hid hbs2
        have hTd : wr.drew.cell? ⟨b1, o1 + k, none⟩ = some (.slice ax y.length cx) ∧ wr.drew.cell? ⟨b2, o2 + k, none⟩ = some (.slice ay y.length cy) ∧ (convert 22 9 (.slice ax y.length cx)).run Try.prog wr.drew = .ok (.string (str y)) wr.drew ∧ (convert 22 9 (.slice ay y.length cy)).run Try.prog wr.drew = .ok (.string (str y)) wr.drew ∧ Below W0.heap.size W0 wr.drew := ⟨hd1, hd2, str_of_bs (w := wr.drew) cx ((hbs1.keep hbel).more hbel.size), str_of_bs (w := wr.drew) cy ((hbs2.keep hbel).more hbel.size), hbel.drew⟩
        clear hd1 hd2 hbs1 hbs2 hfx hfl hbel
        go_wp2
        go_region_held3 (fun w' => w'.cell? ⟨b1, o1 + k, none⟩ = some (.slice ax y.length cx) ∧ w'.cell? ⟨b2, o2 + k, none⟩ = some (.slice ay y.length cy) ∧ (convert 22 9 (.slice ax y.length cx)).run Try.prog w' = .ok (.string (str y)) w' ∧ (convert 22 9 (.slice ay y.length cy)).run Try.prog w' = .ok (.string (str y)) w' ∧ Below W0.heap.size W0 w')
          (first | assumption | exact keepT HBX.out HBY.out (by assumption) (by assumption))
          ((go_at_call 19; ((with_reducible refine (RBY.out _).mono ?_)); rintro e' wy ⟨rfl, hwy⟩))
        rename_i hHeld
        have hby := belT hHeld
        clear hHeld hTd
        go_wp2
        go_roundw
        case rel => exact ⟨k + 1, by omega, by go_num, hby⟩
        case measure => simp [intOf]; omega
      · go_wp2
        go_ret
        exact ⟨rfl, X3.out.trans (hbel.mono X3.out.size)⟩
  · have hd0 : decide ((1024 : Int) < (t.length : Int)) = true := decide_eq_true (by omega)
    go_enter Try.func6, Try.ntmps6
    go_wp2_with (go_at_call 9; ((with_reducible refine (awake_any _).mono ?_)); rintro e' w1 ⟨rfl, hb2⟩)
    go_ret
    exact ⟨rfl, hb2⟩
end Go.Proofs.Yteggdhfchamffaa.patsetFolds
