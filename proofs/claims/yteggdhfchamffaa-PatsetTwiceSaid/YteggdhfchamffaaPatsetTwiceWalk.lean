/- The walk of PatsetTwice. -/
import Derived.Test.YteggdhfchamffaaPi
import Derived.Test.YteggdhfchamffaaPj
import Derived.Test.YteggdhfchamffaaPn
import Derived.Deep.RegionHeld
namespace Go.Proofs.Yteggdhfchamffaa.patsetTwice
open Go.RowKit
attribute [local go_sem ↓] Go.wp_at_zero Go.wp_at_succ

/-- An operation that yields in every world that meets S, taken first; its slot is named. -/
theorem held_take {P : Program} {md : Region.Mode} {ops : Array Oper} {Q : Exit → Act → World → Prop} {S : World → Prop} {i d : Nat} {oi : Oper} {v : Value} {fuel : Nat} {listed : Array Bool} {a : Act} {w : World} (hi : ops[i]? = some oi) (hd : oi.dst = some d)
    (hs : Region.noSelect ops = true) (hf : Region.free md ops listed i = true) (hr : (Region.ready md ops listed).contains i = true)
    (hQ : ∀ c a w, Q (.panic c) (a.put (some d) v) w → Q (.panic c) a w) (hy : YieldsIf P ops S oi v a) (hS : S w)
    (h : wpAnyH P md ops Q S fuel (listed.setIfInBounds i true) (a.put (some d) v) w) : wpAnyH P md ops Q S (fuel + 1) listed a w :=
  wpAnyH_take hi hs hf hr (by rw [hd]; exact hQ) hy hS (by rw [hd]; exact h)
theorem keepS {W0 X Y : World} {m m' : Option Nat} {a2 a3 : Option Addr} {g4 g6 n c2 c3 : Nat} (hb : Below X.heap.size X Y) (h : X.cell? ⟨g4, 0, none⟩ = some (.map m) ∧ X.cell? ⟨g4, 1, none⟩ = some (.slice a2 n c2) ∧ X.cell? ⟨g6, 0, none⟩ = some (.map m') ∧ X.cell? ⟨g6, 1, none⟩ = some (.slice a3 n c3) ∧ Below W0.heap.size W0 X) : Y.cell? ⟨g4, 0, none⟩ = some (.map m) ∧ Y.cell? ⟨g4, 1, none⟩ = some (.slice a2 n c2) ∧ Y.cell? ⟨g6, 0, none⟩ = some (.map m') ∧ Y.cell? ⟨g6, 1, none⟩ = some (.slice a3 n c3) ∧ Below W0.heap.size W0 Y := by
  obtain ⟨x0, x1, y0, y1, bel⟩ := h
  have k : ∀ (g j : Nat) (v : Value), X.cell? ⟨g, j, none⟩ = some v → Y.cell? ⟨g, j, none⟩ = some v := fun g j v hv => (hb.cell (p := ⟨g, j, none⟩) (World.block_lt_of_cell? X _ hv)).trans hv
  exact ⟨k _ _ _ x0, k _ _ _ x1, k _ _ _ y0, k _ _ _ y1, bel.trans (hb.mono bel.size)⟩
theorem belS {W0 X : World} {m m' : Option Nat} {a2 a3 : Option Addr} {g4 g6 n c2 c3 : Nat} (h : X.cell? ⟨g4, 0, none⟩ = some (.map m) ∧ X.cell? ⟨g4, 1, none⟩ = some (.slice a2 n c2) ∧ X.cell? ⟨g6, 0, none⟩ = some (.map m') ∧ X.cell? ⟨g6, 1, none⟩ = some (.slice a3 n c3) ∧ Below W0.heap.size W0 X) : Below W0.heap.size W0 X := h.2.2.2.2
/-- Is the last byte a newline, or is there none? -/
theorem open_last (t : List UInt8) (h : 0 < t.length) : openB t = !decide (t[t.length - 1] = 10) := by
  unfold openB
  rw [List.getLast?_eq_getElem?, List.getElem?_eq_getElem (by omega)]
  show (t[t.length - 1] != 10) = _
  by_cases e : t[t.length - 1] = 10 <;> simp [e]

set_option maxRecDepth 100000 in
set_option maxHeartbeats 8000000 in
theorem walk (w : World) (t : List UInt8) (a0 : Option Addr) (cap0 : Nat) (hm0 : t.length ≤ maxLen) (hb0 : Bs w w.heap.size a0 t) (hn0 : a0 = none → cap0 = 0) (f : Bool) :
    Calls Try.prog 7 #[.slice a0 t.length cap0, .bool f] w fun e w' => e = .returned (.bool true) ∧ Below w.heap.size w w' := by
  unfold maxLen at hm0
  by_cases h0 : t.length ≤ 500
  · obtain ⟨ca, hca⟩ : ∃ ca, ca = loaded f t := ⟨_, rfl⟩
    obtain ⟨cb, hcb⟩ : ∃ cb, cb = loaded f (twice t) := ⟨_, rfl⟩
    obtain ⟨hpp, hem⟩ := loaded_twice f t h0
    rw [← hca, ← hcb] at hpp hem
    have htl : (twice t).length ≤ 1001 := by simp [twice]; omega
    obtain ⟨n, hn⟩ : ∃ n, n = (pats ca).length := ⟨_, rfl⟩
    have hnb : (pats cb).length = n := by rw [hpp, hn]
    obtain ⟨e, he⟩ : ∃ e, e = decide ([] ∈ ca) := ⟨_, rfl⟩
    obtain ⟨d, hd⟩ : ∃ d, d = decide ([] ∈ cb) := ⟨_, rfl⟩
    obtain ⟨o, ho⟩ : ∃ o, o = openB t := ⟨_, rfl⟩
    have hde : d = (e || !o) := by
      rw [hd, he, ho, Bool.eq_iff_iff]
      simp only [decide_eq_true_eq, Bool.or_eq_true, Bool.not_eq_true']
      exact hem
    have hcl : ca.length ≤ 1024 := by rw [hca]; exact loaded_len f t
    have hpl := pats_len ca
    have hpx : ∀ x ∈ pats ca, x.length ≤ 1024 := fun x h => by
      have := ((mem_pats _ x).1 h).1
      rw [hca] at this
      exact loaded_mem f t x this
    have hc0 : code t = 0 := by unfold code; rw [if_neg (by omega)]
    have hc1 : code (twice t) = 0 := by unfold code; rw [if_neg (by omega)]
    have HCA := Lib.hid hca
    have HCB := Lib.hid hcb
    have HPP := Lib.hid hpp
    have HN := Lib.hid hn
    have HNB := Lib.hid hnb
    have HE := Lib.hid he
    have HD := Lib.hid hd
    have HO := Lib.hid ho
    have HDE := Lib.hid hde
    have HPX := Lib.hid hpx
    have HC0 := Lib.hid hc0
    have HC1 := Lib.hid hc1
    have hn1 : n ≤ 1024 := by omega
    clear hca hcb hpp hem hn hnb he hd ho hde hcl hpl hpx hc0 hc1
    go_enter Try.func7, Try.ntmps7
    go_wp2_with fail
    refine (awake_any _).mono ?_
    rintro e' w1 ⟨rfl, hb2⟩
    have bt1 := (hb0.keep hb2).more hb2.size
    clear hb0
    go_wp2_with (first
      | (at_builtin; refine app_bs rfl (.tmp 21) (.tmp 22) rfl w1.heap.size (.slice none 0 0) 0 [] rfl (World.ownsRow_nil _ _ _ _) a0 t cap0 w1.heap.size rfl bt1 hn0 (by omega) (Nat.le_refl _) ?_; intro v2 w2 hown2 hg2; have B2 : Below w1.heap.size w1 w2 := (Below.refl _ _).grown hg2 (Nat.le_refl _) (fun q hq => by cases hq))
      | (at_builtin; refine app_bs rfl (.tmp 24) (.tmp 25) rfl w1.heap.size v2 _ _ rfl (hown2.alloc _) (some ⟨w2.heap.size, 0, none⟩) [10] 1 (w2.alloc (.cells #[.int .u8 10] 5)).heap.size rfl (bs_lit w2 [10] (0, 0) _ rfl) (fun e => by cases e) (by simp; omega) (by have := B2.size; simp; omega) ?_; intro v3 w3 hown3 hg3; have B3 : Below w1.heap.size w1 w3 := (B2.alloc B2.size _).grown hg3 (by have := B2.size; simp; omega) (fun q hq => own_ge hown2 hq))
      | (at_builtin; refine app_bs rfl (.tmp 27) (.tmp 28) rfl w1.heap.size v3 _ _ rfl hown3 a0 t cap0 w1.heap.size rfl (bt1.keep B3) hn0 (by simp; omega) B3.size ?_; intro v4 w4 hown4 hg4; have B4 : Below w1.heap.size w1 w4 := B3.grown hg4 B3.size (fun q hq => own_ge hown3 hq)))
    obtain ⟨_, a4, c4, rfl, htx4, _⟩ := own_text hown4 (l := twice t) (by simp [vals, twice])
    have bt4 := (bt1.keep B4).more B4.size
    have C4 := hb2.trans (B4.mono hb2.size)
    clear hown2 hown3 hown4 hg2 hg3 hg4 B2 B3 B4 bt1 hb2
    refine (load_any f t a0 cap0 w4 (by omega) bt4).mono ?_
    unfold GivesLoad
    rw [← HCA.out]
    rintro e' w5 ⟨m, a2, c2, rfl, hs5, hb5⟩
    rw [← HN.out, HC0.out]
    have hbn := below_new w5 (.cells #[.map m, .slice a2 n c2] 27)
    have hb6 := hb5.trans (hbn.mono hb5.size)
    have x1 := Box.new (n := n) (c := c2) hs5
    have tx5 := htx4.keep hb6
    have bt5 := (bt4.keep hb6).more hb6.size
    have C5 := C4.trans (hb6.mono C4.size)
    clear hb5 hbn hb6 hs5 htx4 bt4 C4
    go_wp2_with fail
    refine (load_any f (twice t) a4 c4 _ (by omega) tx5.bs).mono ?_
    unfold GivesLoad
    rw [← HCB.out]
    rintro e' w6 ⟨m', a3, c3, rfl, hs6, hb7⟩
    rw [HNB.out, HC1.out]
    have hbn := below_new w6 (.cells #[.map m', .slice a3 n c3] 27)
    have hb8 := hb7.trans (hbn.mono hb7.size)
    have X1 := Lib.hid (x1.keep hb8)
    have X2 := Lib.hid (Box.new (n := n) (c := c3) hs6)
    have X3 := Lib.hid (C5.trans (hb8.mono C5.size))
    have X4 := Lib.hid ((bt5.keep hb8).more hb8.size)
    clear hbn hb8 x1 C5 hb7 hs6 tx5 bt5
    obtain ⟨d0, d1⟩ := X1.out.1.cells
    go_wp2_with fail
    refine (patterns_n ca (pats ca) n m a2 c2 _ rfl HN.out.symm X1.out.2 (by omega) (fun x hx => Nat.le_trans (HPX.out x hx) (by omega))).mono ?_
    rintro e' w7 ⟨a6, c6, xs, rfl, hxs, hts, hb9⟩
    have Y1 := Lib.hid (X1.out.keep hb9)
    have Y2 := Lib.hid (X2.out.keep hb9)
    have Y3 := Lib.hid (X3.out.trans (hb9.mono X3.out.size))
    have Y4 := Lib.hid ((X4.out.keep hb9).more hb9.size)
    clear d0 d1 hb9 X1 X2 X3 X4
    obtain ⟨d0, d1⟩ := Y2.out.1.cells
    go_wp2_with fail
    refine (patterns_n cb (pats ca) n m' a3 c3 _ HPP.out HN.out.symm Y2.out.2 (by omega) (fun x hx => Nat.le_trans (HPX.out x hx) (by omega))).mono ?_
    rintro e' W0 ⟨a7, c7, ys, rfl, hys, htt, hb9⟩
    have X1 := Lib.hid (Y1.out.keep hb9)
    have X2 := Lib.hid (Y2.out.keep hb9)
    have X3 := Lib.hid (Y3.out.trans (hb9.mono Y3.out.size))
    have X4 := Lib.hid ((Y4.out.keep hb9).more hb9.size)
    have HTS := Lib.hid (hts.keep hb9)
    have HTT := Lib.hid htt
    have hxl : xs.length = n := by rw [HN.out, ← hxs]; simp
    have hyl : ys.length = n := by rw [HN.out, ← hys]; simp
    have HXS := Lib.hid hxs
    have HYS := Lib.hid hys
    have HXL := Lib.hid hxl
    have HYL := Lib.hid hyl
    clear d0 d1 hb9 Y1 Y2 Y3 Y4 hts htt hxs hys hxl hyl
    have EA : Hid (∀ X : World, Below W0.heap.size W0 X → Calls Try.prog 20 #[.agg #[.map m, .slice a2 n c2]] X fun e' w' => e' = .returned (.bool e) ∧ Below X.heap.size X w') := Lib.hid fun X h => by rw [HE.out]; exact empty_any m a2 n c2 ca X (X1.out.2.keep h)
    have EB : Hid (∀ X : World, Below W0.heap.size W0 X → Calls Try.prog 20 #[.agg #[.map m', .slice a3 n c3]] X fun e' w' => e' = .returned (.bool d) ∧ Below X.heap.size X w') := Lib.hid fun X h => by rw [HD.out]; exact empty_any m' a3 n c3 cb X (X2.out.2.keep h)
    go_wp2
    go_loopw [13] (fun i wr => ∃ k : Nat, k ≤ n ∧ i = .int .i64 k ∧ Below W0.heap.size W0 wr) (fun i _ => n - (intOf i).toNat)
    case atStart => exact ⟨0, Nat.zero_le _, rfl, Below.refl _ _⟩
    case round =>
      obtain ⟨k, hk, rfl, hbel⟩ := hrel
      by_cases hlt : k < n
      · have hkx : k < xs.length := by rw [HXL.out]; exact hlt
        have hky : k < ys.length := by rw [HYL.out]; exact hlt
        have hkp : k < (pats ca).length := by rw [← HN.out]; exact hlt
        obtain ⟨⟨b1, o1, rfl, hbl1, hc1⟩, hbs1⟩ : (∃ b off, a6 = some ⟨b, off, none⟩ ∧ b < W0.heap.size ∧ ∀ i (h : i < xs.length), W0.cell? ⟨b, off + i, none⟩ = some (.slice xs[i].a xs[i].text.length xs[i].cap)) ∧ Bs W0 W0.heap.size xs[k].a xs[k].text :=
          ⟨HTS.out.1 (by omega), HTS.out.2 _ (List.getElem_mem hkx)⟩
        obtain ⟨⟨b2, o2, rfl, hbl2, hc2⟩, hbs2⟩ : (∃ b off, a7 = some ⟨b, off, none⟩ ∧ b < W0.heap.size ∧ ∀ i (h : i < ys.length), W0.cell? ⟨b, off + i, none⟩ = some (.slice ys[i].a ys[i].text.length ys[i].cap)) ∧ Bs W0 W0.heap.size ys[k].a ys[k].text :=
          ⟨HTT.out.1 (by omega), HTT.out.2 _ (List.getElem_mem hky)⟩
        have e1 : xs[k].text = (pats ca)[k] := by
          have h1 := map_at xs k hkx
          rw [← h1]
          simp only [HXS.out]
        have e2 : ys[k].text = (pats ca)[k] := by
          have h1 := map_at ys k hky
          rw [← h1]
          simp only [HYS.out]
        have hd1 := (hbel.cell (p := ⟨b1, o1 + k, none⟩) hbl1).trans (hc1 k hkx)
        have hd2 := (hbel.cell (p := ⟨b2, o2 + k, none⟩) hbl2).trans (hc2 k hky)
        rw [e1] at hd1 hbs1
        rw [e2] at hd2 hbs2
        clear e1 e2 hc1 hc2
        generalize (pats ca)[k] = y at *
        generalize xs[k].a = ax at *
        generalize xs[k].cap = cx at *
        generalize ys[k].a = ay at *
        generalize ys[k].cap = cy at *
        have hk1 : ∀ q, (convert 22 9 (.slice ax y.length cx)).run Try.prog (wr.drewN q) = .ok (.string (str y)) (wr.drewN q) := fun q => str_of_bs (w := wr.drewN q) cx ((hbs1.keep hbel).more hbel.size)
        have hk2 : ∀ q, (convert 22 9 (.slice ay y.length cy)).run Try.prog (wr.drewN q) = .ok (.string (str y)) (wr.drewN q) := fun q => str_of_bs (w := wr.drewN q) cy ((hbs2.keep hbel).more hbel.size)
        clear hbs1 hbs2
        go_wp2
        go_quiet (fail)
        go_wp2
        go_roundw
        case rel => exact ⟨k + 1, by omega, by go_num, below_drews hbel _⟩
        case measure => simp [intOf]; omega
      · have hSr : wr.cell? ⟨w5.heap.size, 0, none⟩ = some (.map m) ∧ wr.cell? ⟨w5.heap.size, 1, none⟩ = some (.slice a2 n c2) ∧ wr.cell? ⟨w6.heap.size, 0, none⟩ = some (.map m') ∧ wr.cell? ⟨w6.heap.size, 1, none⟩ = some (.slice a3 n c3) ∧ Below W0.heap.size W0 wr := keepS hbel ⟨X1.out.1.cells.1, X1.out.1.cells.2, X2.out.1.cells.1, X2.out.1.cells.2, Below.refl _ _⟩
        have hSd : wr.drew.cell? ⟨w5.heap.size, 0, none⟩ = some (.map m) ∧ wr.drew.cell? ⟨w5.heap.size, 1, none⟩ = some (.slice a2 n c2) ∧ wr.drew.cell? ⟨w6.heap.size, 0, none⟩ = some (.map m') ∧ wr.drew.cell? ⟨w6.heap.size, 1, none⟩ = some (.slice a3 n c3) ∧ Below W0.heap.size W0 wr.drew := ⟨hSr.1, hSr.2.1, hSr.2.2.1, hSr.2.2.2.1, hbel.drew⟩
        have hde := HDE.out
        clear HDE
        rcases Nat.eq_zero_or_pos t.length with ht0 | ht0
        · have ho : o = false := by rw [HO.out, List.eq_nil_of_length_eq_zero ht0]; rfl
          have hz : ((t.length : Int) == 0) = true := by simp [ht0]
          have HT0 := Lib.hid ht0
          subst ho
          clear ht0 hSr
          cases e with
          | false =>
            obtain rfl : d = true := by simpa using hde
            clear hde
            go_wp2
            refine wp_region_held_drew (S := fun w' => w'.cell? ⟨w5.heap.size, 0, none⟩ = some (.map m) ∧ w'.cell? ⟨w5.heap.size, 1, none⟩ = some (.slice a2 n c2) ∧ w'.cell? ⟨w6.heap.size, 0, none⟩ = some (.map m') ∧ w'.cell? ⟨w6.heap.size, 1, none⟩ = some (.slice a3 n c3) ∧ Below W0.heap.size W0 w') (by kernel_rfl) hSd (fun hH0 => ?_)
            refine held_take (i := 0) (d := 88) (oi := _) (v := ?_) rfl rfl (by kernel_rfl) (by kernel_rfl) (by kernel_rfl) (fun _ _ _ h => h) (Or.inl ⟨by rfl, ?_⟩) (by assumption) ?_
            rotate_left
            · (intro w hSw; (try dsimp only at hSw); go_simp; (try with_reducible rfl))
            simp only [Act.put, List.setIfInBounds_toArray, List.set_cons_zero, List.set_cons_succ]
            refine held_take (i := 2) (d := 90) (oi := _) (v := ?_) rfl rfl (by kernel_rfl) (by kernel_rfl) (by kernel_rfl) (fun _ _ _ h => h) (Or.inl ⟨by rfl, ?_⟩) (by assumption) ?_
            rotate_left
            · (intro w hSw; (try dsimp only at hSw); go_simp; (try with_reducible rfl))
            simp only [Act.put, List.setIfInBounds_toArray, List.set_cons_zero, List.set_cons_succ]
            refine wpAnyH_ready (rs := [1]) (by kernel_rfl) (by simp) ?_
            refine AllReadyH.cons rfl (fun K hK => ?_) AllReadyH.nil
            go_simp
            go_wp2_with (go_at_call 20; ((with_reducible refine (EB.out _ (belS (m := m) (m' := m') (a2 := a2) (a3 := a3) (g4 := w5.heap.size) (g6 := w6.heap.size) (n := n) (c2 := c2) (c3 := c3) (by assumption))).mono ?_)); rintro e' x1 ⟨rfl, hx1⟩)
            refine hK.out _ _ ?_ (fun hH1 => ?_)
            · exact keepS hx1 hH0
            clear hK K hH0
            refine wpAnyH_ready (rs := [3]) (by kernel_rfl) (by simp) ?_
            refine AllReadyH.cons rfl (fun K hK => ?_) AllReadyH.nil
            go_simp
            go_wp2_with (go_at_call 20; ((with_reducible refine (EA.out _ (belS (m := m) (m' := m') (a2 := a2) (a3 := a3) (g4 := w5.heap.size) (g6 := w6.heap.size) (n := n) (c2 := c2) (c3 := c3) (by assumption))).mono ?_)); rintro e' x2 ⟨rfl, hx2⟩)
            refine hK.out _ _ ?_ (fun hH2 => ?_)
            · exact keepS hx2 hH1
            clear hK K hH1
            refine held_take (i := 4) (d := 92) (oi := _) (v := ?_) rfl rfl (by kernel_rfl) (by kernel_rfl) (by kernel_rfl) (fun _ _ _ h => h) (Or.inl ⟨by rfl, ?_⟩) (by assumption) ?_
            rotate_left
            · (intro w hSw; (try dsimp only at hSw); go_simp; (try with_reducible rfl))
            simp only [Act.put, List.setIfInBounds_toArray, List.set_cons_zero, List.set_cons_succ]
            refine held_take (i := 5) (d := 93) (oi := _) (v := ?_) rfl rfl (by kernel_rfl) (by kernel_rfl) (by kernel_rfl) (fun _ _ _ h => h) (Or.inl ⟨by rfl, ?_⟩) (by assumption) ?_
            rotate_left
            · (intro w hSw; (try dsimp only at hSw); go_simp; (try with_reducible rfl))
            simp only [Act.put, List.setIfInBounds_toArray, List.set_cons_zero, List.set_cons_succ]
            refine held_take (i := 6) (d := 94) (oi := _) (v := ?_) rfl rfl (by kernel_rfl) (by kernel_rfl) (by kernel_rfl) (fun _ _ _ h => h) (Or.inl ⟨by rfl, ?_⟩) (by assumption) ?_
            rotate_left
            · (intro w hSw; (try dsimp only at hSw); go_simp; (try with_reducible rfl))
            simp only [Act.put, List.setIfInBounds_toArray, List.set_cons_zero, List.set_cons_succ]
            refine held_take (i := 7) (d := 95) (oi := _) (v := ?_) rfl rfl (by kernel_rfl) (by kernel_rfl) (by kernel_rfl) (fun _ _ _ h => h) (Or.inl ⟨by rfl, ?_⟩) (by assumption) ?_
            rotate_left
            · (intro w hSw; (try dsimp only at hSw); go_simp; (try with_reducible rfl))
            simp only [Act.put, List.setIfInBounds_toArray, List.set_cons_zero, List.set_cons_succ]
            refine held_take (i := 8) (d := 4) (oi := _) (v := ?_) rfl rfl (by kernel_rfl) (by kernel_rfl) (by kernel_rfl) (fun _ _ _ h => h) (Or.inl ⟨by rfl, ?_⟩) (by assumption) ?_
            rotate_left
            · (intro w hSw; (try dsimp only at hSw); go_simp; (try with_reducible rfl))
            simp only [Act.put, List.setIfInBounds_toArray, List.set_cons_zero, List.set_cons_succ]
            refine wpAnyH_done (by kernel_rfl) ?_ _
            go_wp2
            go_ret
            exact ⟨rfl, X3.out.trans ((belS hH2).mono X3.out.size)⟩
          | true =>
            obtain rfl : d = true := by simpa using hde
            clear hde
            go_wp2
            refine wp_region_held_drew (S := fun w' => w'.cell? ⟨w5.heap.size, 0, none⟩ = some (.map m) ∧ w'.cell? ⟨w5.heap.size, 1, none⟩ = some (.slice a2 n c2) ∧ w'.cell? ⟨w6.heap.size, 0, none⟩ = some (.map m') ∧ w'.cell? ⟨w6.heap.size, 1, none⟩ = some (.slice a3 n c3) ∧ Below W0.heap.size W0 w') (by kernel_rfl) hSd (fun hH0 => ?_)
            refine held_take (i := 0) (d := 88) (oi := _) (v := ?_) rfl rfl (by kernel_rfl) (by kernel_rfl) (by kernel_rfl) (fun _ _ _ h => h) (Or.inl ⟨by rfl, ?_⟩) (by assumption) ?_
            rotate_left
            · (intro w hSw; (try dsimp only at hSw); go_simp; (try with_reducible rfl))
            simp only [Act.put, List.setIfInBounds_toArray, List.set_cons_zero, List.set_cons_succ]
            refine held_take (i := 2) (d := 90) (oi := _) (v := ?_) rfl rfl (by kernel_rfl) (by kernel_rfl) (by kernel_rfl) (fun _ _ _ h => h) (Or.inl ⟨by rfl, ?_⟩) (by assumption) ?_
            rotate_left
            · (intro w hSw; (try dsimp only at hSw); go_simp; (try with_reducible rfl))
            simp only [Act.put, List.setIfInBounds_toArray, List.set_cons_zero, List.set_cons_succ]
            refine wpAnyH_ready (rs := [1]) (by kernel_rfl) (by simp) ?_
            refine AllReadyH.cons rfl (fun K hK => ?_) AllReadyH.nil
            go_simp
            go_wp2_with (go_at_call 20; ((with_reducible refine (EB.out _ (belS (m := m) (m' := m') (a2 := a2) (a3 := a3) (g4 := w5.heap.size) (g6 := w6.heap.size) (n := n) (c2 := c2) (c3 := c3) (by assumption))).mono ?_)); rintro e' x1 ⟨rfl, hx1⟩)
            refine hK.out _ _ ?_ (fun hH1 => ?_)
            · exact keepS hx1 hH0
            clear hK K hH0
            refine wpAnyH_ready (rs := [3]) (by kernel_rfl) (by simp) ?_
            refine AllReadyH.cons rfl (fun K hK => ?_) AllReadyH.nil
            go_simp
            go_wp2_with (go_at_call 20; ((with_reducible refine (EA.out _ (belS (m := m) (m' := m') (a2 := a2) (a3 := a3) (g4 := w5.heap.size) (g6 := w6.heap.size) (n := n) (c2 := c2) (c3 := c3) (by assumption))).mono ?_)); rintro e' x2 ⟨rfl, hx2⟩)
            refine hK.out _ _ ?_ (fun hH2 => ?_)
            · exact keepS hx2 hH1
            clear hK K hH1
            refine held_take (i := 4) (d := 92) (oi := _) (v := ?_) rfl rfl (by kernel_rfl) (by kernel_rfl) (by kernel_rfl) (fun _ _ _ h => h) (Or.inl ⟨by rfl, ?_⟩) (by assumption) ?_
            rotate_left
            · (intro w hSw; (try dsimp only at hSw); go_simp; (try with_reducible rfl))
            simp only [Act.put, List.setIfInBounds_toArray, List.set_cons_zero, List.set_cons_succ]
            refine held_take (i := 5) (d := 93) (oi := _) (v := undef) rfl rfl (by kernel_rfl) (by kernel_rfl) (by kernel_rfl) (fun _ _ _ h => h) (Or.inr ⟨by rfl, rfl⟩) (by assumption) ?_
            simp only [Act.put, List.setIfInBounds_toArray, List.set_cons_zero, List.set_cons_succ]
            refine held_take (i := 6) (d := 94) (oi := _) (v := ?_) rfl rfl (by kernel_rfl) (by kernel_rfl) (by kernel_rfl) (fun _ _ _ h => h) (Or.inl ⟨by rfl, ?_⟩) (by assumption) ?_
            rotate_left
            · (intro w hSw; (try dsimp only at hSw); go_simp; (try with_reducible rfl))
            simp only [Act.put, List.setIfInBounds_toArray, List.set_cons_zero, List.set_cons_succ]
            refine held_take (i := 7) (d := 95) (oi := _) (v := ?_) rfl rfl (by kernel_rfl) (by kernel_rfl) (by kernel_rfl) (fun _ _ _ h => h) (Or.inl ⟨by rfl, ?_⟩) (by assumption) ?_
            rotate_left
            · (intro w hSw; (try dsimp only at hSw); go_simp; (try with_reducible rfl))
            simp only [Act.put, List.setIfInBounds_toArray, List.set_cons_zero, List.set_cons_succ]
            refine held_take (i := 8) (d := 4) (oi := _) (v := ?_) rfl rfl (by kernel_rfl) (by kernel_rfl) (by kernel_rfl) (fun _ _ _ h => h) (Or.inl ⟨by rfl, ?_⟩) (by assumption) ?_
            rotate_left
            · (intro w hSw; (try dsimp only at hSw); go_simp; (try with_reducible rfl))
            simp only [Act.put, List.setIfInBounds_toArray, List.set_cons_zero, List.set_cons_succ]
            refine wpAnyH_done (by kernel_rfl) ?_ _
            go_wp2
            go_ret
            exact ⟨rfl, X3.out.trans ((belS hH2).mono X3.out.size)⟩
        · obtain ⟨b, off, rfl, hbl, hc⟩ := X4.out ht0
          have hck := (hbel.cell (p := ⟨b, off + (t.length - 1), none⟩) hbl).trans (hc (t.length - 1) (by omega))
          have hz : ((t.length : Int) == 0) = false := beq_eq_false_iff_ne.2 (by omega)
          have hx : (t.length : Int) - 1 = ((t.length - 1 : Nat) : Int) := by omega
          have hq : ((t.length : Int) - 1).toNat = t.length - 1 := by omega
          have hol := open_last t ht0
          rw [← HO.out] at hol
          clear hSr hc
          by_cases h10 : t[t.length - 1] = 10
          · have ht10 : ((t[t.length - 1].toNat : Int) == 10) = true := by rw [u8_ten]; simp [h10]
            obtain rfl : o = false := by rw [hol]; simp [h10]
            clear h10 hol
            cases e with
            | false =>
              obtain rfl : d = true := by simpa using hde
              clear hde
              go_wp2
              refine wp_region_held_drew (S := fun w' => w'.cell? ⟨w5.heap.size, 0, none⟩ = some (.map m) ∧ w'.cell? ⟨w5.heap.size, 1, none⟩ = some (.slice a2 n c2) ∧ w'.cell? ⟨w6.heap.size, 0, none⟩ = some (.map m') ∧ w'.cell? ⟨w6.heap.size, 1, none⟩ = some (.slice a3 n c3) ∧ Below W0.heap.size W0 w') (by kernel_rfl) hSd (fun hH0 => ?_)
              refine held_take (i := 0) (d := 88) (oi := _) (v := ?_) rfl rfl (by kernel_rfl) (by kernel_rfl) (by kernel_rfl) (fun _ _ _ h => h) (Or.inl ⟨by rfl, ?_⟩) (by assumption) ?_
              rotate_left
              · (intro w hSw; (try dsimp only at hSw); go_simp; (try with_reducible rfl))
              simp only [Act.put, List.setIfInBounds_toArray, List.set_cons_zero, List.set_cons_succ]
              refine held_take (i := 2) (d := 90) (oi := _) (v := ?_) rfl rfl (by kernel_rfl) (by kernel_rfl) (by kernel_rfl) (fun _ _ _ h => h) (Or.inl ⟨by rfl, ?_⟩) (by assumption) ?_
              rotate_left
              · (intro w hSw; (try dsimp only at hSw); go_simp; (try with_reducible rfl))
              simp only [Act.put, List.setIfInBounds_toArray, List.set_cons_zero, List.set_cons_succ]
              refine wpAnyH_ready (rs := [1]) (by kernel_rfl) (by simp) ?_
              refine AllReadyH.cons rfl (fun K hK => ?_) AllReadyH.nil
              go_simp
              go_wp2_with (go_at_call 20; ((with_reducible refine (EB.out _ (belS (m := m) (m' := m') (a2 := a2) (a3 := a3) (g4 := w5.heap.size) (g6 := w6.heap.size) (n := n) (c2 := c2) (c3 := c3) (by assumption))).mono ?_)); rintro e' x1 ⟨rfl, hx1⟩)
              refine hK.out _ _ ?_ (fun hH1 => ?_)
              · exact keepS hx1 hH0
              clear hK K hH0
              refine wpAnyH_ready (rs := [3]) (by kernel_rfl) (by simp) ?_
              refine AllReadyH.cons rfl (fun K hK => ?_) AllReadyH.nil
              go_simp
              go_wp2_with (go_at_call 20; ((with_reducible refine (EA.out _ (belS (m := m) (m' := m') (a2 := a2) (a3 := a3) (g4 := w5.heap.size) (g6 := w6.heap.size) (n := n) (c2 := c2) (c3 := c3) (by assumption))).mono ?_)); rintro e' x2 ⟨rfl, hx2⟩)
              refine hK.out _ _ ?_ (fun hH2 => ?_)
              · exact keepS hx2 hH1
              clear hK K hH1
              refine held_take (i := 4) (d := 92) (oi := _) (v := ?_) rfl rfl (by kernel_rfl) (by kernel_rfl) (by kernel_rfl) (fun _ _ _ h => h) (Or.inl ⟨by rfl, ?_⟩) (by assumption) ?_
              rotate_left
              · (intro w hSw; (try dsimp only at hSw); go_simp; (try with_reducible rfl))
              simp only [Act.put, List.setIfInBounds_toArray, List.set_cons_zero, List.set_cons_succ]
              refine held_take (i := 5) (d := 93) (oi := _) (v := ?_) rfl rfl (by kernel_rfl) (by kernel_rfl) (by kernel_rfl) (fun _ _ _ h => h) (Or.inl ⟨by rfl, ?_⟩) (by assumption) ?_
              rotate_left
              · (intro w hSw; (try dsimp only at hSw); go_simp; (try with_reducible rfl))
              simp only [Act.put, List.setIfInBounds_toArray, List.set_cons_zero, List.set_cons_succ]
              refine held_take (i := 6) (d := 94) (oi := _) (v := ?_) rfl rfl (by kernel_rfl) (by kernel_rfl) (by kernel_rfl) (fun _ _ _ h => h) (Or.inl ⟨by rfl, ?_⟩) (by assumption) ?_
              rotate_left
              · (intro w hSw; (try dsimp only at hSw); go_simp; (try with_reducible rfl))
              simp only [Act.put, List.setIfInBounds_toArray, List.set_cons_zero, List.set_cons_succ]
              refine held_take (i := 7) (d := 95) (oi := _) (v := ?_) rfl rfl (by kernel_rfl) (by kernel_rfl) (by kernel_rfl) (fun _ _ _ h => h) (Or.inl ⟨by rfl, ?_⟩) (by assumption) ?_
              rotate_left
              · (intro w hSw; (try dsimp only at hSw); go_simp; (try with_reducible rfl))
              simp only [Act.put, List.setIfInBounds_toArray, List.set_cons_zero, List.set_cons_succ]
              refine held_take (i := 8) (d := 4) (oi := _) (v := ?_) rfl rfl (by kernel_rfl) (by kernel_rfl) (by kernel_rfl) (fun _ _ _ h => h) (Or.inl ⟨by rfl, ?_⟩) (by assumption) ?_
              rotate_left
              · (intro w hSw; (try dsimp only at hSw); go_simp; (try with_reducible rfl))
              simp only [Act.put, List.setIfInBounds_toArray, List.set_cons_zero, List.set_cons_succ]
              refine wpAnyH_done (by kernel_rfl) ?_ _
              go_wp2
              go_ret
              exact ⟨rfl, X3.out.trans ((belS hH2).mono X3.out.size)⟩
            | true =>
              obtain rfl : d = true := by simpa using hde
              clear hde
              go_wp2
              refine wp_region_held_drew (S := fun w' => w'.cell? ⟨w5.heap.size, 0, none⟩ = some (.map m) ∧ w'.cell? ⟨w5.heap.size, 1, none⟩ = some (.slice a2 n c2) ∧ w'.cell? ⟨w6.heap.size, 0, none⟩ = some (.map m') ∧ w'.cell? ⟨w6.heap.size, 1, none⟩ = some (.slice a3 n c3) ∧ Below W0.heap.size W0 w') (by kernel_rfl) hSd (fun hH0 => ?_)
              refine held_take (i := 0) (d := 88) (oi := _) (v := ?_) rfl rfl (by kernel_rfl) (by kernel_rfl) (by kernel_rfl) (fun _ _ _ h => h) (Or.inl ⟨by rfl, ?_⟩) (by assumption) ?_
              rotate_left
              · (intro w hSw; (try dsimp only at hSw); go_simp; (try with_reducible rfl))
              simp only [Act.put, List.setIfInBounds_toArray, List.set_cons_zero, List.set_cons_succ]
              refine held_take (i := 2) (d := 90) (oi := _) (v := ?_) rfl rfl (by kernel_rfl) (by kernel_rfl) (by kernel_rfl) (fun _ _ _ h => h) (Or.inl ⟨by rfl, ?_⟩) (by assumption) ?_
              rotate_left
              · (intro w hSw; (try dsimp only at hSw); go_simp; (try with_reducible rfl))
              simp only [Act.put, List.setIfInBounds_toArray, List.set_cons_zero, List.set_cons_succ]
              refine wpAnyH_ready (rs := [1]) (by kernel_rfl) (by simp) ?_
              refine AllReadyH.cons rfl (fun K hK => ?_) AllReadyH.nil
              go_simp
              go_wp2_with (go_at_call 20; ((with_reducible refine (EB.out _ (belS (m := m) (m' := m') (a2 := a2) (a3 := a3) (g4 := w5.heap.size) (g6 := w6.heap.size) (n := n) (c2 := c2) (c3 := c3) (by assumption))).mono ?_)); rintro e' x1 ⟨rfl, hx1⟩)
              refine hK.out _ _ ?_ (fun hH1 => ?_)
              · exact keepS hx1 hH0
              clear hK K hH0
              refine wpAnyH_ready (rs := [3]) (by kernel_rfl) (by simp) ?_
              refine AllReadyH.cons rfl (fun K hK => ?_) AllReadyH.nil
              go_simp
              go_wp2_with (go_at_call 20; ((with_reducible refine (EA.out _ (belS (m := m) (m' := m') (a2 := a2) (a3 := a3) (g4 := w5.heap.size) (g6 := w6.heap.size) (n := n) (c2 := c2) (c3 := c3) (by assumption))).mono ?_)); rintro e' x2 ⟨rfl, hx2⟩)
              refine hK.out _ _ ?_ (fun hH2 => ?_)
              · exact keepS hx2 hH1
              clear hK K hH1
              refine held_take (i := 4) (d := 92) (oi := _) (v := ?_) rfl rfl (by kernel_rfl) (by kernel_rfl) (by kernel_rfl) (fun _ _ _ h => h) (Or.inl ⟨by rfl, ?_⟩) (by assumption) ?_
              rotate_left
              · (intro w hSw; (try dsimp only at hSw); go_simp; (try with_reducible rfl))
              simp only [Act.put, List.setIfInBounds_toArray, List.set_cons_zero, List.set_cons_succ]
              refine held_take (i := 5) (d := 93) (oi := _) (v := undef) rfl rfl (by kernel_rfl) (by kernel_rfl) (by kernel_rfl) (fun _ _ _ h => h) (Or.inr ⟨by rfl, rfl⟩) (by assumption) ?_
              simp only [Act.put, List.setIfInBounds_toArray, List.set_cons_zero, List.set_cons_succ]
              refine held_take (i := 6) (d := 94) (oi := _) (v := ?_) rfl rfl (by kernel_rfl) (by kernel_rfl) (by kernel_rfl) (fun _ _ _ h => h) (Or.inl ⟨by rfl, ?_⟩) (by assumption) ?_
              rotate_left
              · (intro w hSw; (try dsimp only at hSw); go_simp; (try with_reducible rfl))
              simp only [Act.put, List.setIfInBounds_toArray, List.set_cons_zero, List.set_cons_succ]
              refine held_take (i := 7) (d := 95) (oi := _) (v := ?_) rfl rfl (by kernel_rfl) (by kernel_rfl) (by kernel_rfl) (fun _ _ _ h => h) (Or.inl ⟨by rfl, ?_⟩) (by assumption) ?_
              rotate_left
              · (intro w hSw; (try dsimp only at hSw); go_simp; (try with_reducible rfl))
              simp only [Act.put, List.setIfInBounds_toArray, List.set_cons_zero, List.set_cons_succ]
              refine held_take (i := 8) (d := 4) (oi := _) (v := ?_) rfl rfl (by kernel_rfl) (by kernel_rfl) (by kernel_rfl) (fun _ _ _ h => h) (Or.inl ⟨by rfl, ?_⟩) (by assumption) ?_
              rotate_left
              · (intro w hSw; (try dsimp only at hSw); go_simp; (try with_reducible rfl))
              simp only [Act.put, List.setIfInBounds_toArray, List.set_cons_zero, List.set_cons_succ]
              refine wpAnyH_done (by kernel_rfl) ?_ _
              go_wp2
              go_ret
              exact ⟨rfl, X3.out.trans ((belS hH2).mono X3.out.size)⟩
          · have ht10 : ((t[t.length - 1].toNat : Int) == 10) = false := by rw [u8_ten]; simp [h10]
            obtain rfl : o = true := by rw [hol]; simp [h10]
            clear h10 hol
            cases e with
            | false =>
              obtain rfl : d = false := by simpa using hde
              clear hde
              go_wp2
              refine wp_region_held_drew (S := fun w' => w'.cell? ⟨w5.heap.size, 0, none⟩ = some (.map m) ∧ w'.cell? ⟨w5.heap.size, 1, none⟩ = some (.slice a2 n c2) ∧ w'.cell? ⟨w6.heap.size, 0, none⟩ = some (.map m') ∧ w'.cell? ⟨w6.heap.size, 1, none⟩ = some (.slice a3 n c3) ∧ Below W0.heap.size W0 w') (by kernel_rfl) hSd (fun hH0 => ?_)
              refine held_take (i := 0) (d := 88) (oi := _) (v := ?_) rfl rfl (by kernel_rfl) (by kernel_rfl) (by kernel_rfl) (fun _ _ _ h => h) (Or.inl ⟨by rfl, ?_⟩) (by assumption) ?_
              rotate_left
              · (intro w hSw; (try dsimp only at hSw); go_simp; (try with_reducible rfl))
              simp only [Act.put, List.setIfInBounds_toArray, List.set_cons_zero, List.set_cons_succ]
              refine held_take (i := 2) (d := 90) (oi := _) (v := ?_) rfl rfl (by kernel_rfl) (by kernel_rfl) (by kernel_rfl) (fun _ _ _ h => h) (Or.inl ⟨by rfl, ?_⟩) (by assumption) ?_
              rotate_left
              · (intro w hSw; (try dsimp only at hSw); go_simp; (try with_reducible rfl))
              simp only [Act.put, List.setIfInBounds_toArray, List.set_cons_zero, List.set_cons_succ]
              refine wpAnyH_ready (rs := [1]) (by kernel_rfl) (by simp) ?_
              refine AllReadyH.cons rfl (fun K hK => ?_) AllReadyH.nil
              go_simp
              go_wp2_with (go_at_call 20; ((with_reducible refine (EB.out _ (belS (m := m) (m' := m') (a2 := a2) (a3 := a3) (g4 := w5.heap.size) (g6 := w6.heap.size) (n := n) (c2 := c2) (c3 := c3) (by assumption))).mono ?_)); rintro e' x1 ⟨rfl, hx1⟩)
              refine hK.out _ _ ?_ (fun hH1 => ?_)
              · exact keepS hx1 hH0
              clear hK K hH0
              refine wpAnyH_ready (rs := [3]) (by kernel_rfl) (by simp) ?_
              refine AllReadyH.cons rfl (fun K hK => ?_) AllReadyH.nil
              go_simp
              go_wp2_with (go_at_call 20; ((with_reducible refine (EA.out _ (belS (m := m) (m' := m') (a2 := a2) (a3 := a3) (g4 := w5.heap.size) (g6 := w6.heap.size) (n := n) (c2 := c2) (c3 := c3) (by assumption))).mono ?_)); rintro e' x2 ⟨rfl, hx2⟩)
              refine hK.out _ _ ?_ (fun hH2 => ?_)
              · exact keepS hx2 hH1
              clear hK K hH1
              refine held_take (i := 4) (d := 92) (oi := _) (v := ?_) rfl rfl (by kernel_rfl) (by kernel_rfl) (by kernel_rfl) (fun _ _ _ h => h) (Or.inl ⟨by rfl, ?_⟩) (by assumption) ?_
              rotate_left
              · (intro w hSw; (try dsimp only at hSw); go_simp; (try with_reducible rfl))
              simp only [Act.put, List.setIfInBounds_toArray, List.set_cons_zero, List.set_cons_succ]
              refine held_take (i := 5) (d := 93) (oi := _) (v := ?_) rfl rfl (by kernel_rfl) (by kernel_rfl) (by kernel_rfl) (fun _ _ _ h => h) (Or.inl ⟨by rfl, ?_⟩) (by assumption) ?_
              rotate_left
              · (intro w hSw; (try dsimp only at hSw); go_simp; (try with_reducible rfl))
              simp only [Act.put, List.setIfInBounds_toArray, List.set_cons_zero, List.set_cons_succ]
              refine held_take (i := 6) (d := 94) (oi := _) (v := ?_) rfl rfl (by kernel_rfl) (by kernel_rfl) (by kernel_rfl) (fun _ _ _ h => h) (Or.inl ⟨by rfl, ?_⟩) (by assumption) ?_
              rotate_left
              · (intro w hSw; (try dsimp only at hSw); go_simp; (try with_reducible rfl))
              simp only [Act.put, List.setIfInBounds_toArray, List.set_cons_zero, List.set_cons_succ]
              refine held_take (i := 7) (d := 95) (oi := _) (v := ?_) rfl rfl (by kernel_rfl) (by kernel_rfl) (by kernel_rfl) (fun _ _ _ h => h) (Or.inl ⟨by rfl, ?_⟩) (by assumption) ?_
              rotate_left
              · (intro w hSw; (try dsimp only at hSw); go_simp; (try with_reducible rfl))
              simp only [Act.put, List.setIfInBounds_toArray, List.set_cons_zero, List.set_cons_succ]
              refine held_take (i := 8) (d := 4) (oi := _) (v := ?_) rfl rfl (by kernel_rfl) (by kernel_rfl) (by kernel_rfl) (fun _ _ _ h => h) (Or.inl ⟨by rfl, ?_⟩) (by assumption) ?_
              rotate_left
              · (intro w hSw; (try dsimp only at hSw); go_simp; (try with_reducible rfl))
              simp only [Act.put, List.setIfInBounds_toArray, List.set_cons_zero, List.set_cons_succ]
              refine wpAnyH_done (by kernel_rfl) ?_ _
              go_wp2
              go_ret
              exact ⟨rfl, X3.out.trans ((belS hH2).mono X3.out.size)⟩
            | true =>
              obtain rfl : d = true := by simpa using hde
              clear hde
              go_wp2
              refine wp_region_held_drew (S := fun w' => w'.cell? ⟨w5.heap.size, 0, none⟩ = some (.map m) ∧ w'.cell? ⟨w5.heap.size, 1, none⟩ = some (.slice a2 n c2) ∧ w'.cell? ⟨w6.heap.size, 0, none⟩ = some (.map m') ∧ w'.cell? ⟨w6.heap.size, 1, none⟩ = some (.slice a3 n c3) ∧ Below W0.heap.size W0 w') (by kernel_rfl) hSd (fun hH0 => ?_)
              refine held_take (i := 0) (d := 88) (oi := _) (v := ?_) rfl rfl (by kernel_rfl) (by kernel_rfl) (by kernel_rfl) (fun _ _ _ h => h) (Or.inl ⟨by rfl, ?_⟩) (by assumption) ?_
              rotate_left
              · (intro w hSw; (try dsimp only at hSw); go_simp; (try with_reducible rfl))
              simp only [Act.put, List.setIfInBounds_toArray, List.set_cons_zero, List.set_cons_succ]
              refine held_take (i := 2) (d := 90) (oi := _) (v := ?_) rfl rfl (by kernel_rfl) (by kernel_rfl) (by kernel_rfl) (fun _ _ _ h => h) (Or.inl ⟨by rfl, ?_⟩) (by assumption) ?_
              rotate_left
              · (intro w hSw; (try dsimp only at hSw); go_simp; (try with_reducible rfl))
              simp only [Act.put, List.setIfInBounds_toArray, List.set_cons_zero, List.set_cons_succ]
              refine wpAnyH_ready (rs := [1]) (by kernel_rfl) (by simp) ?_
              refine AllReadyH.cons rfl (fun K hK => ?_) AllReadyH.nil
              go_simp
              go_wp2_with (go_at_call 20; ((with_reducible refine (EB.out _ (belS (m := m) (m' := m') (a2 := a2) (a3 := a3) (g4 := w5.heap.size) (g6 := w6.heap.size) (n := n) (c2 := c2) (c3 := c3) (by assumption))).mono ?_)); rintro e' x1 ⟨rfl, hx1⟩)
              refine hK.out _ _ ?_ (fun hH1 => ?_)
              · exact keepS hx1 hH0
              clear hK K hH0
              refine wpAnyH_ready (rs := [3]) (by kernel_rfl) (by simp) ?_
              refine AllReadyH.cons rfl (fun K hK => ?_) AllReadyH.nil
              go_simp
              go_wp2_with (go_at_call 20; ((with_reducible refine (EA.out _ (belS (m := m) (m' := m') (a2 := a2) (a3 := a3) (g4 := w5.heap.size) (g6 := w6.heap.size) (n := n) (c2 := c2) (c3 := c3) (by assumption))).mono ?_)); rintro e' x2 ⟨rfl, hx2⟩)
              refine hK.out _ _ ?_ (fun hH2 => ?_)
              · exact keepS hx2 hH1
              clear hK K hH1
              refine held_take (i := 4) (d := 92) (oi := _) (v := ?_) rfl rfl (by kernel_rfl) (by kernel_rfl) (by kernel_rfl) (fun _ _ _ h => h) (Or.inl ⟨by rfl, ?_⟩) (by assumption) ?_
              rotate_left
              · (intro w hSw; (try dsimp only at hSw); go_simp; (try with_reducible rfl))
              simp only [Act.put, List.setIfInBounds_toArray, List.set_cons_zero, List.set_cons_succ]
              refine held_take (i := 5) (d := 93) (oi := _) (v := undef) rfl rfl (by kernel_rfl) (by kernel_rfl) (by kernel_rfl) (fun _ _ _ h => h) (Or.inr ⟨by rfl, rfl⟩) (by assumption) ?_
              simp only [Act.put, List.setIfInBounds_toArray, List.set_cons_zero, List.set_cons_succ]
              refine held_take (i := 6) (d := 94) (oi := _) (v := ?_) rfl rfl (by kernel_rfl) (by kernel_rfl) (by kernel_rfl) (fun _ _ _ h => h) (Or.inl ⟨by rfl, ?_⟩) (by assumption) ?_
              rotate_left
              · (intro w hSw; (try dsimp only at hSw); go_simp; (try with_reducible rfl))
              simp only [Act.put, List.setIfInBounds_toArray, List.set_cons_zero, List.set_cons_succ]
              refine held_take (i := 7) (d := 95) (oi := _) (v := ?_) rfl rfl (by kernel_rfl) (by kernel_rfl) (by kernel_rfl) (fun _ _ _ h => h) (Or.inl ⟨by rfl, ?_⟩) (by assumption) ?_
              rotate_left
              · (intro w hSw; (try dsimp only at hSw); go_simp; (try with_reducible rfl))
              simp only [Act.put, List.setIfInBounds_toArray, List.set_cons_zero, List.set_cons_succ]
              refine held_take (i := 8) (d := 4) (oi := _) (v := ?_) rfl rfl (by kernel_rfl) (by kernel_rfl) (by kernel_rfl) (fun _ _ _ h => h) (Or.inl ⟨by rfl, ?_⟩) (by assumption) ?_
              rotate_left
              · (intro w hSw; (try dsimp only at hSw); go_simp; (try with_reducible rfl))
              simp only [Act.put, List.setIfInBounds_toArray, List.set_cons_zero, List.set_cons_succ]
              refine wpAnyH_done (by kernel_rfl) ?_ _
              go_wp2
              go_ret
              exact ⟨rfl, X3.out.trans ((belS hH2).mono X3.out.size)⟩
  · have hd0 : decide ((500 : Int) < (t.length : Int)) = true := decide_eq_true (by omega)
    go_enter Try.func7, Try.ntmps7
    go_wp2_with (go_at_call 9; ((with_reducible refine (awake_any _).mono ?_)); rintro e' w1 ⟨rfl, hb2⟩)
    go_ret
    exact ⟨rfl, hb2⟩
end Go.Proofs.Yteggdhfchamffaa.patsetTwice
