/- The walk of PatsetOf. -/
import Derived.Test.YteggdhfchamffaaPi
import Derived.Test.YteggdhfchamffaaPg
import Derived.Test.YteggdhfchamffaaPh
import Derived.Test.YteggdhfchamffaaPj
namespace Go.Proofs.Yteggdhfchamffaa.patsetOf
open Go.RowKit
attribute [local go_sem ↓] Go.wp_at_zero Go.wp_at_succ

theorem keepS {W0 X Y : World} {m : Option Nat} {a1 a2 a3 : Option Addr} {b : List UInt8} {g8 g9 g10 n c2 c3 cap1 : Nat} {e : Bool} (hbs : Bs W0 W0.heap.size a1 b) (hb : Below X.heap.size X Y) (h : X.cell? ⟨g8, 0, none⟩ = some (.map m) ∧ X.cell? ⟨g8, 1, none⟩ = some (.slice a2 n c2) ∧ X.cell? ⟨g9, 0, none⟩ = some (.slice a3 n c3) ∧ X.cell? ⟨g9, 1, none⟩ = some (.bool e) ∧ X.cell? ⟨g10, 0, none⟩ = some (.map none) ∧ X.cell? ⟨g10, 1, none⟩ = some (.slice none 0 0) ∧ (convert 22 9 (.slice a1 b.length cap1)).run Try.prog X = .ok (.string (str b)) X ∧ Below W0.heap.size W0 X) : Y.cell? ⟨g8, 0, none⟩ = some (.map m) ∧ Y.cell? ⟨g8, 1, none⟩ = some (.slice a2 n c2) ∧ Y.cell? ⟨g9, 0, none⟩ = some (.slice a3 n c3) ∧ Y.cell? ⟨g9, 1, none⟩ = some (.bool e) ∧ Y.cell? ⟨g10, 0, none⟩ = some (.map none) ∧ Y.cell? ⟨g10, 1, none⟩ = some (.slice none 0 0) ∧ (convert 22 9 (.slice a1 b.length cap1)).run Try.prog Y = .ok (.string (str b)) Y ∧ Below W0.heap.size W0 Y := by
  obtain ⟨x0, x1, y0, y1, z0, z1, _, bel⟩ := h
  have k : ∀ (g j : Nat) (v : Value), X.cell? ⟨g, j, none⟩ = some v → Y.cell? ⟨g, j, none⟩ = some v := fun g j v hv => (hb.cell (p := ⟨g, j, none⟩) (World.block_lt_of_cell? X _ hv)).trans hv
  have bel2 := bel.trans (hb.mono bel.size)
  exact ⟨k _ _ _ x0, k _ _ _ x1, k _ _ _ y0, k _ _ _ y1, k _ _ _ z0, k _ _ _ z1, str_of_bs cap1 ((hbs.keep bel2).more bel2.size), bel2⟩
theorem belS {W0 X : World} {m : Option Nat} {a1 a2 a3 : Option Addr} {b : List UInt8} {g8 g9 g10 n c2 c3 cap1 : Nat} {e : Bool} (h : X.cell? ⟨g8, 0, none⟩ = some (.map m) ∧ X.cell? ⟨g8, 1, none⟩ = some (.slice a2 n c2) ∧ X.cell? ⟨g9, 0, none⟩ = some (.slice a3 n c3) ∧ X.cell? ⟨g9, 1, none⟩ = some (.bool e) ∧ X.cell? ⟨g10, 0, none⟩ = some (.map none) ∧ X.cell? ⟨g10, 1, none⟩ = some (.slice none 0 0) ∧ (convert 22 9 (.slice a1 b.length cap1)).run Try.prog X = .ok (.string (str b)) X ∧ Below W0.heap.size W0 X) : Below W0.heap.size W0 X := h.2.2.2.2.2.2.2

set_option maxRecDepth 100000 in
set_option maxHeartbeats 8000000 in
/-- Texts that are few and short. -/
theorem small (w : World) (xs : List TxV) (a0 : Option Addr) (cap0 : Nat) (hts : Ts w a0 xs) (b : List UInt8) (a1 : Option Addr) (cap1 : Nat) (hb1 : Bs w w.heap.size a1 b) (h0 : xs.length ≤ 60) (hx : ∀ x ∈ xs, x.text.length ≤ 300) (h1 : b.length ≤ 300) :
    Calls Try.prog 4 #[.slice a0 xs.length cap0, .slice a1 b.length cap1] w fun e w' => e = .returned (.bool true) ∧ Below w.heap.size w w' := by
  have hd1 : decide ((300 : Int) < (b.length : Int)) = false := decide_eq_false (by omega)
  obtain ⟨came, hcm⟩ : ∃ came, came = xs.map TxV.text := ⟨_, rfl⟩
  have hcl : came.length = xs.length := by rw [hcm]; simp
  have hcx : ∀ x ∈ came, x.length ≤ 300 := fun x h => by
    rw [hcm] at h
    obtain ⟨y, hy, rfl⟩ := List.mem_map.1 h
    exact hx y hy
  have hcl60 : came.length ≤ 60 := by omega
  have hpl := pats_len came
  obtain ⟨n, hn⟩ : ∃ n, n = (pats came).length := ⟨_, rfl⟩
  obtain ⟨e, he⟩ : ∃ e, e = decide ([] ∈ came) := ⟨_, rfl⟩
  obtain ⟨g, hg⟩ : ∃ g, g = decide (b ∈ came) := ⟨_, rfl⟩
  have HN := Lib.hid hn
  have HE := Lib.hid he
  have HG := Lib.hid hg
  have HC := Lib.hid hcm
  have HCL := Lib.hid hcl
  have HCX := Lib.hid hcx
  clear hn he hg hcm hcl hcx
  go_enter Try.func4, Try.ntmps4
  go_wp2_with fail
  refine (awake_any _).mono ?_
  rintro e' w1 ⟨rfl, hb2⟩
  have ts1 := hts.keep hb2
  have bt1 := (hb1.keep hb2).more hb2.size
  go_wp2_with fail
  refine (ltexts_any xs a0 cap0 w1 ts1 (by omega) (fun x h => Nat.le_trans (hx x h) (by unfold maxLen; omega))).mono ?_
  rintro e' w2 ⟨hb3, hcase⟩
  rcases hcase with ⟨hbad, _⟩ | ⟨_, aL, cL, rfl, hsL⟩
  · exact absurd hx hbad
  rw [decide_eq_true h0]
  have ts2 := ts1.keep hb3
  have bt2 := (bt1.keep hb3).more hb3.size
  have B2 := hb2.trans (hb3.mono hb2.size)
  rw [← HC.out] at hsL
  clear hb2 hb3 ts1 bt1 hts hb1
  go_wp2_with fail
  refine (of_any xs a0 cap0 w2 ts2 (by omega) (fun x h => Nat.le_trans (hx x h) (by omega))).mono ?_
  rw [← HC.out]
  rintro e' w3 ⟨m, a2, c2, rfl, hs3, hb4⟩
  rw [← HN.out]
  have hbn := below_new w3 (.cells #[.map m, .slice a2 n c2] 27)
  have hb5 := hb4.trans (hbn.mono hb4.size)
  have x1 := Box.new (n := n) (c := c2) hs3
  have sL := hsL.keep hb5
  have bt3 := (bt2.keep hb5).more hb5.size
  have B3 := B2.trans (hb5.mono B2.size)
  clear hb4 hbn hb5 hs3 ts2 hsL bt2 B2
  go_wp2_with fail
  rw [← HCL.out]
  refine (rof_any came aL cL _ sL (by omega)).mono ?_
  rintro e' w4 ⟨a3, c3, rfl, hs4, hb6⟩
  rw [← HN.out, ← HE.out]
  have hbn := below_new w4 (.cells #[.slice a3 n c3, .bool e] 32)
  have hbm := below_new (w4.alloc (.cells #[.slice a3 n c3, .bool e] 32)) (.cells #[.map none, .slice none 0 0] 27)
  have hb7 := hb6.trans ((hbn.trans (hbm.mono hbn.size)).mono hb6.size)
  have hb8 := hbn.trans (hbm.mono hbn.size)
  have X1 := Lib.hid (x1.keep hb7)
  have X2 := Lib.hid ((Blk2.new w4 32 (.slice a3 n c3) (.bool e)).alloc (.cells #[.map none, .slice none 0 0] 27))
  have x3 := Blk2.new (w4.alloc (.cells #[.slice a3 n c3, .bool e] 32)) 27 (.map none) (.slice none 0 0)
  rw [World.size_alloc] at x3
  have X3 := Lib.hid x3
  have XL := Lib.hid (sL.keep hb7)
  have XR := Lib.hid (hs4.keep hb8)
  have XB := Lib.hid ((bt3.keep hb7).more hb7.size)
  have X5 := Lib.hid (B3.trans (hb7.mono B3.size))
  have XS := Lib.hid X1.out.2
  clear hb6 hbn hbm hb7 hb8 x1 x3 sL hs4 bt3 B3
  go_wp2_with fail
  obtain ⟨W0, hW0⟩ : ∃ W0, W0 = ((w4.alloc (.cells #[.slice a3 n c3, .bool e] 32)).alloc (.cells #[.map none, .slice none 0 0] 27)) := ⟨_, rfl⟩
  rw [← hW0] at X1 X2 X3 XL XR XB X5 XS ⊢
  clear hW0
  have SAM : Hid (∀ X : World, Below W0.heap.size W0 X → Calls Try.prog 13 #[.agg #[.map m, .slice a2 n c2], .agg #[.slice a3 n c3, .bool e]] X fun e' w' => e' = .returned (.bool true) ∧ Below X.heap.size X w') := Lib.hid fun X h => by
    rw [HN.out, HE.out]; exact same_any m a2 a3 c2 c3 came X (XS.out.keep h) (XR.out.keep h) (by omega) (fun x hx => Nat.le_trans (HCX.out x hx) (by omega))
  have SAZ : Hid (∀ X : World, Calls Try.prog 13 #[.agg #[.map none, .slice none 0 0], .agg #[.slice none 0 0, .bool false]] X fun e' w' => e' = .returned (.bool true) ∧ Below X.heap.size X w') := Lib.hid fun X =>
    same_any none none none 0 0 [] X (isSet_zero X) (ss_nil _ _) (by simp) (fun x hx => by cases hx)
  have HAS : Hid (∀ X : World, Below W0.heap.size W0 X → Calls Try.prog 14 #[.agg #[.map m, .slice a2 n c2], .slice a1 b.length cap1] X fun e' w' => e' = .returned (.bool g) ∧ Below X.heap.size X w') := Lib.hid fun X h => by
    rw [HG.out]; exact has_any m a2 n c2 came b a1 cap1 X (XS.out.keep h) ((XB.out.keep h).more h.size) (by omega)
  have HAZ : Hid (∀ X : World, Below W0.heap.size W0 X → Calls Try.prog 14 #[.agg #[.map none, .slice none 0 0], .slice a1 b.length cap1] X fun e' w' => e' = .returned (.bool false) ∧ Below X.heap.size X w') := Lib.hid fun X h =>
    has_any none none 0 0 [] b a1 cap1 X (isSet_zero X) ((XB.out.keep h).more h.size) (by omega)
  have INN : Hid (∀ X : World, Below W0.heap.size W0 X → Calls Try.prog 12 #[.slice aL came.length cL, .string (str b)] X fun e' w' => e' = .returned (.bool g) ∧ Below X.heap.size X w') := Lib.hid fun X h => by
    rw [HG.out]
    refine (in_any came b aL cL X (XL.out.keep h) (by omega)).mono ?_
    rintro _ _ ⟨rfl, rfl⟩
    exact ⟨rfl, Below.refl _ _⟩
  have hSd : W0.drew.cell? ⟨w3.heap.size, 0, none⟩ = some (.map m) ∧ W0.drew.cell? ⟨w3.heap.size, 1, none⟩ = some (.slice a2 n c2) ∧ W0.drew.cell? ⟨w4.heap.size, 0, none⟩ = some (.slice a3 n c3) ∧ W0.drew.cell? ⟨w4.heap.size, 1, none⟩ = some (.bool e) ∧ W0.drew.cell? ⟨w4.heap.size + 1, 0, none⟩ = some (.map none) ∧ W0.drew.cell? ⟨w4.heap.size + 1, 1, none⟩ = some (.slice none 0 0) ∧ (convert 22 9 (.slice a1 b.length cap1)).run Try.prog W0.drew = .ok (.string (str b)) W0.drew ∧ Below W0.heap.size W0 W0.drew := ⟨X1.out.1.cells.1, X1.out.1.cells.2, X2.out.cells.1, X2.out.cells.2, X3.out.cells.1, X3.out.cells.2, str_of_bs (w := W0.drew) cap1 XB.out, (Below.refl _ _).drew⟩
  clear X1 X2 X3 XL XR XS hx h0 hd1
  go_region_held3 (fun w' => w'.cell? ⟨w3.heap.size, 0, none⟩ = some (.map m) ∧ w'.cell? ⟨w3.heap.size, 1, none⟩ = some (.slice a2 n c2) ∧ w'.cell? ⟨w4.heap.size, 0, none⟩ = some (.slice a3 n c3) ∧ w'.cell? ⟨w4.heap.size, 1, none⟩ = some (.bool e) ∧ w'.cell? ⟨w4.heap.size + 1, 0, none⟩ = some (.map none) ∧ w'.cell? ⟨w4.heap.size + 1, 1, none⟩ = some (.slice none 0 0) ∧ (convert 22 9 (.slice a1 b.length cap1)).run Try.prog w' = .ok (.string (str b)) w' ∧ Below W0.heap.size W0 w')
    (first | assumption | exact keepS XB.out (by assumption) (by assumption))
    (first
      | (go_at_call 13; ((with_reducible refine (SAM.out _ (belS (m := m) (a1 := a1) (a2 := a2) (a3 := a3) (b := b) (g8 := w3.heap.size) (g9 := w4.heap.size) (g10 := w4.heap.size + 1) (n := n) (c2 := c2) (c3 := c3) (cap1 := cap1) (e := e) (by assumption))).mono ?_)); rintro e' wx ⟨rfl, hwx⟩)
      | (go_at_call 13; ((with_reducible refine (SAZ.out _).mono ?_)); rintro e' wx ⟨rfl, hwx⟩)
      | (go_at_call 14; ((with_reducible refine (HAS.out _ (belS (m := m) (a1 := a1) (a2 := a2) (a3 := a3) (b := b) (g8 := w3.heap.size) (g9 := w4.heap.size) (g10 := w4.heap.size + 1) (n := n) (c2 := c2) (c3 := c3) (cap1 := cap1) (e := e) (by assumption))).mono ?_)); rintro e' wx ⟨rfl, hwx⟩)
      | (go_at_call 14; ((with_reducible refine (HAZ.out _ (belS (m := m) (a1 := a1) (a2 := a2) (a3 := a3) (b := b) (g8 := w3.heap.size) (g9 := w4.heap.size) (g10 := w4.heap.size + 1) (n := n) (c2 := c2) (c3 := c3) (cap1 := cap1) (e := e) (by assumption))).mono ?_)); rintro e' wx ⟨rfl, hwx⟩)
      | (go_at_call 12; ((with_reducible refine (INN.out _ (belS (m := m) (a1 := a1) (a2 := a2) (a3 := a3) (b := b) (g8 := w3.heap.size) (g9 := w4.heap.size) (g10 := w4.heap.size + 1) (n := n) (c2 := c2) (c3 := c3) (cap1 := cap1) (e := e) (by assumption))).mono ?_)); rintro e' wx ⟨rfl, hwx⟩))
  rename_i hHeld
  go_wp2
  go_ret
  exact ⟨rfl, X5.out.trans ((belS hHeld).mono X5.out.size)⟩

theorem walk (w : World) (xs : List TxV) (a0 : Option Addr) (cap0 : Nat) (hz0 : xs.length ≤ 6000000000000) (hx0 : ∀ x ∈ xs, x.text.length ≤ maxLen) (hts : Ts w a0 xs) (b : List UInt8) (a1 : Option Addr) (cap1 : Nat) (hm1 : b.length ≤ maxLen) (hb1 : Bs w w.heap.size a1 b) :
    Calls Try.prog 4 #[.slice a0 xs.length cap0, .slice a1 b.length cap1] w fun e w' => e = .returned (.bool true) ∧ Below w.heap.size w w' := by
  by_cases hall : xs.length ≤ 60 ∧ (∀ x ∈ xs, x.text.length ≤ 300) ∧ b.length ≤ 300
  · exact small w xs a0 cap0 hts b a1 cap1 hb1 hall.1 hall.2.1 hall.2.2
  · have HALL := Lib.hid hall
    have HX := Lib.hid hx0
    unfold maxLen at hm1
    clear hall hx0
    go_enter Try.func4, Try.ntmps4
    go_wp2_with fail
    refine (awake_any _).mono ?_
    rintro e' w1 ⟨rfl, hb2⟩
    have ts1 := hts.keep hb2
    go_wp2_with fail
    refine (ltexts_any xs a0 cap0 w1 ts1 hz0 HX.out).mono ?_
    rintro e' w2 ⟨hb3, hcase⟩
    have B2 := hb2.trans (hb3.mono hb2.size)
    rcases hcase with ⟨_, rfl⟩ | ⟨hok, aL, cL, rfl, _⟩
    · go_wp2
      go_ret
      exact ⟨rfl, B2⟩
    · by_cases h60 : xs.length ≤ 60
      · have h3 : 300 < b.length := by
          rcases Nat.lt_or_ge 300 b.length with h | h
          · exact h
          · exact absurd ⟨h60, hok, h⟩ HALL.out
        have hd1 : decide ((300 : Int) < (b.length : Int)) = true := decide_eq_true (by omega)
        rw [decide_eq_true h60]
        clear HALL hok
        go_wp2
        go_ret
        exact ⟨rfl, B2⟩
      · rw [decide_eq_false h60]
        clear HALL hok
        go_wp2
        go_ret
        exact ⟨rfl, B2⟩
end Go.Proofs.Yteggdhfchamffaa.patsetOf
