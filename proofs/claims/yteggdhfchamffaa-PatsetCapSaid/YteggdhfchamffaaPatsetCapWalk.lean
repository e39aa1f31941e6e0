/- The walk of PatsetCap. -/
import Derived.Test.YteggdhfchamffaaPi
import Derived.Test.YteggdhfchamffaaPj
import Derived.Test.YteggdhfchamffaaPn
import Derived.IntWalk
namespace Go.Proofs.Yteggdhfchamffaa.patsetCap
open Go.RowKit
attribute [local go_sem ↓] Go.wp_at_zero Go.wp_at_succ

theorem keepS {W0 X Y : World} {m m' : Option Nat} {a2 a3 : Option Addr} {g7 g9 n c2 c3 : Nat} (hb : Below X.heap.size X Y) (h : X.cell? ⟨g7, 0, none⟩ = some (.map m) ∧ X.cell? ⟨g7, 1, none⟩ = some (.slice a2 n c2) ∧ X.cell? ⟨g9, 0, none⟩ = some (.map m') ∧ X.cell? ⟨g9, 1, none⟩ = some (.slice a3 0 c3) ∧ Below W0.heap.size W0 X) : Y.cell? ⟨g7, 0, none⟩ = some (.map m) ∧ Y.cell? ⟨g7, 1, none⟩ = some (.slice a2 n c2) ∧ Y.cell? ⟨g9, 0, none⟩ = some (.map m') ∧ Y.cell? ⟨g9, 1, none⟩ = some (.slice a3 0 c3) ∧ Below W0.heap.size W0 Y := by
  obtain ⟨x0, x1, y0, y1, bel⟩ := h
  have k : ∀ (g j : Nat) (v : Value), X.cell? ⟨g, j, none⟩ = some v → Y.cell? ⟨g, j, none⟩ = some v := fun g j v hv => (hb.cell (p := ⟨g, j, none⟩) (World.block_lt_of_cell? X _ hv)).trans hv
  exact ⟨k _ _ _ x0, k _ _ _ x1, k _ _ _ y0, k _ _ _ y1, bel.trans (hb.mono bel.size)⟩
theorem belS {W0 X : World} {m m' : Option Nat} {a2 a3 : Option Addr} {g7 g9 n c2 c3 : Nat} (h : X.cell? ⟨g7, 0, none⟩ = some (.map m) ∧ X.cell? ⟨g7, 1, none⟩ = some (.slice a2 n c2) ∧ X.cell? ⟨g9, 0, none⟩ = some (.map m') ∧ X.cell? ⟨g9, 1, none⟩ = some (.slice a3 0 c3) ∧ Below W0.heap.size W0 X) : Below W0.heap.size W0 X := h.2.2.2.2

/-- How long a slice is. -/
def lenV : Value → Nat
  | .slice _ n _ => n
  | _ => 0

set_option maxRecDepth 100000 in
set_option maxHeartbeats 8000000 in
theorem walk (w : World) (b : List UInt8) (a0 : Option Addr) (cap0 : Nat) (hm0 : b.length ≤ maxLen) (hb0 : Bs w w.heap.size a0 b) (hn0 : a0 = none → cap0 = 0) (f : Bool) :
    Calls Try.prog 8 #[.slice a0 b.length cap0, .bool f] w fun e w' => e = .returned (.bool true) ∧ Below w.heap.size w w' := by
  unfold maxLen at hm0
  by_cases h0 : b.length ≤ 1024
  · go_enter Try.func8, Try.ntmps8
    go_wp2_with fail
    refine (awake_any _).mono ?_
    rintro e' w1 ⟨rfl, hb2⟩
    have bt1 := (hb0.keep hb2).more hb2.size
    go_wp2_with (at_builtin; refine app_bs rfl _ _ rfl w1.heap.size _ 0 [] rfl (World.ownsRow_nil _ _ _ _) a0 b cap0 w1.heap.size rfl bt1 hn0 (by omega) (Nat.le_refl _) ?_; intro v1 w2 hown1 hg1)
    have B2 : Below w1.heap.size w1 w2 := (Below.refl _ _).grown hg1 (Nat.le_refl _) (fun q hq => by cases hq)
    obtain ⟨hown2, _⟩ := own_text hown1 (l := b) (by simp)
    clear hown1 hg1 bt1
    go_loopw [6] (fun v wr => ∃ l : List UInt8, l.length ≤ 1024 ∧ wr.ownsRow w1.heap.size 5 1 v l.length (vals l) ∧ Below w1.heap.size w1 wr) (fun v _ => 1024 - lenV v)
    case atStart => exact ⟨b, h0, hown2, B2⟩
    case round =>
      obtain ⟨l, hl, hown, hbel⟩ := hrel
      obtain ⟨_, av, cv, rfl, htx, hnc⟩ := own_text hown rfl
      have hsz := hbel.size
      by_cases hlt : l.length < 1024
      · have hd : decide ((l.length : Int) < 1024) = true := decide_eq_true (by omega)
        go_wp2_with (at_builtin; refine app_bs rfl _ _ rfl w1.heap.size _ l.length (vals l) rfl (hown.alloc _) (some ⟨wr.heap.size, 0, none⟩) [97] 1 (wr.alloc (.cells #[.int .u8 97] 5)).heap.size rfl (bs_lit wr [97] (0, 0) _ rfl) (fun e => by cases e) (by simp; omega) (by simp; omega) ?_; intro v3 w3 hown3 hg3; obtain ⟨hown4, a4, c4, rfl, _, _⟩ := own_text hown3 (l := l ++ [97]) (by simp [vals]))
        go_roundw
        case rel => exact ⟨l ++ [97], by simp; omega, by simpa using hown4, (hbel.alloc hsz _).grown hg3 (by simp; omega) (fun q hq => own_ge hown hq)⟩
        case measure => simp [lenV]; omega
      · have hl4 : l.length = 1024 := by omega
        have HL := Lib.hid hl4
        have hd : decide ((l.length : Int) < 1024) = false := decide_eq_false (by omega)
        obtain ⟨n, hn⟩ : ∃ n, n = (pats (loaded f l)).length := ⟨_, rfl⟩
        obtain ⟨z, hz⟩ : ∃ z, z = bytesIn (pats (loaded f l)) := ⟨_, rfl⟩
        obtain ⟨y, hy⟩ : ∃ y, y = leastOf (pats (loaded f l)) := ⟨_, rfl⟩
        have HN := Lib.hid hn
        have hll := loaded_len f l
        have hpl := pats_len (loaded f l)
        have hpx : ∀ x ∈ pats (loaded f l), x.length ≤ 1024 := fun x h => loaded_mem f l x ((mem_pats _ x).1 h).1
        have hzb := bytesIn_le (pats (loaded f l)) 1024 hpx
        have hz1 : z ≤ 1048576 := by
          rw [hz]
          have := Nat.mul_le_mul_right 1024 (Nat.le_trans hpl hll)
          omega
        have hcm := cap_math (loaded f l)
        rw [← hn, ← hz, ← hy] at hcm
        have hn1 : n ≤ 1024 := by omega
        obtain ⟨p, hp⟩ : ∃ p, p = decide ((0 : Int) < (y : Int)) := ⟨_, rfl⟩
        rw [← hp] at hcm
        have hp2 : decide (0 < y) = p := by rw [hp]; exact decide_eq_decide.2 (by omega)
        have hc0 : code l = 0 := by unfold code; rw [if_neg (by omega)]
        have HC0 := Lib.hid hc0
        have PAT : Hid (∀ X m a2 c2, IsSet X m a2 (loaded f l) → Calls Try.prog 18 #[.agg #[.map m, .slice a2 n c2]] X fun e' w' => (∃ a' c', e' = .returned (.slice a' n c')) ∧ Below X.heap.size X w') := Lib.hid fun X m a2 c2 h => by
          rw [hn]
          refine (patterns_any (.map m) a2 c2 _ X h.2 (by omega) (fun x hx => Nat.le_trans (hpx x hx) (by omega))).mono ?_
          rintro _ _ ⟨a', c', _, rfl, _, _, hb⟩
          exact ⟨⟨a', c', rfl⟩, hb⟩
        have SIZ : Hid (∀ X m a2 c2, IsSet X m a2 (loaded f l) → Calls Try.prog 21 #[.agg #[.map m, .slice a2 n c2]] X fun e' w' => e' = .returned (.int .i64 (z : Int)) ∧ Below X.heap.size X w') := Lib.hid fun X m a2 c2 h => by
          rw [hn, hz]; exact size_any (.map m) a2 c2 _ X h.2 (by omega) (fun x hx => Nat.le_trans (hpx x hx) (by omega))
        have LEA : Hid (∀ X m a2 c2, IsSet X m a2 (loaded f l) → Calls Try.prog 22 #[.agg #[.map m, .slice a2 n c2]] X fun e' w' => e' = .returned (.int .i64 (y : Int)) ∧ Below X.heap.size X w') := Lib.hid fun X m a2 c2 h => by
          rw [hn, hy]; exact least_any (.map m) a2 c2 _ X h.2 (by omega)
        have PAZ : Hid (∀ X m a2 c2, IsSet X m a2 [] → Calls Try.prog 18 #[.agg #[.map m, .slice a2 0 c2]] X fun e' w' => (∃ a' c', e' = .returned (.slice a' 0 c')) ∧ Below X.heap.size X w') := Lib.hid fun X m a2 c2 h => by
          refine (patterns_any (.map m) a2 c2 [] X h.2 (by simp) (fun x hx => by cases hx)).mono ?_
          rintro _ _ ⟨a', c', _, rfl, _, _, hb⟩
          exact ⟨⟨a', c', rfl⟩, hb⟩
        have EMZ : Hid (∀ X m a2 c2, IsSet X m a2 [] → Calls Try.prog 20 #[.agg #[.map m, .slice a2 0 c2]] X fun e' w' => e' = .returned (.bool false) ∧ Below X.heap.size X w') := Lib.hid fun X m a2 c2 h => empty_any m a2 0 c2 [] X h
        clear hn hz hy hll hpl hpx hzb hp hc0 hl4 B2 hown2
        go_wp2_with fail
        refine (load_from f l av cv wr (by omega) htx.bs).mono ?_
        rintro e' w3 ⟨m, a2, c2, rfl, hs3, hb3, hfr⟩
        rw [← HN.out, HC0.out]
        have hbn := below_new w3 (.cells #[.map m, .slice a2 n c2] 27)
        have hb4 := hb3.trans (hbn.mono hb3.size)
        have x1 := Box.new (n := n) (c := c2) hs3
        have hown3 := own_keep hown hb4
        have B4 := hbel.trans (hb4.mono hsz)
        have hs3' := hb3.size
        have hob : ∀ q, (Value.slice av l.length cv).ownBlock = some q → q < wr.heap.size := fun q e => (own_block_lt hown e).2.1
        have HOB := Lib.hid hob
        clear hbn hb4 hs3 htx hob hb3
        go_wp2_with (at_builtin; refine app_bs rfl _ _ rfl w1.heap.size (.slice av l.length cv) l.length (vals l) rfl (hown3.alloc _) (some ⟨w3.heap.size + 1, 0, none⟩) [10] 1 ((w3.alloc (.cells #[.map m, .slice a2 n c2] 27)).alloc (.cells #[.int .u8 10] 5)).heap.size rfl (bs_lit_at (w3.alloc (.cells #[.map m, .slice a2 n c2] 27)) (w3.heap.size + 1) [10] (0, 0) _ (by simp) rfl) (fun e => by cases e) (by simp; omega) (by simp; omega) ?_; intro v5 w5 hown5 hg5)
        have hz5 := hg5.size
        rw [World.size_alloc, World.size_alloc] at hz5
        obtain ⟨_, a5, c5, rfl, htx5, _⟩ := own_text hown5 (l := l ++ [10]) (by simp [vals])
        have x2 := x1.keep (below_new _ (.cells #[.int .u8 10] 5))
        have X1 : Box w5 w3.heap.size m a2 n c2 (loaded f l) := ⟨x2.1.grown hg5 (fun e => by have := HOB.out _ e.symm; omega), x2.2.grown hfr hg5 HOB.out⟩
        have B5 : Below w1.heap.size w1 w5 := (B4.alloc (by simp; omega) _).grown hg5 (by simp; omega) (fun q hq => own_ge hown hq)
        have hl5 : (l ++ [10]).length = 1025 := by simp; exact HL.out
        have hc5 : code (l ++ [10]) = 12 := by unfold code; rw [if_pos (by omega)]
        have hlo5 : loaded f (l ++ [10]) = [] := by unfold loaded; rw [if_pos (by omega)]
        have HC5 := Lib.hid hc5
        have HLO5 := Lib.hid hlo5
        clear hc5 hlo5 hown5 hown3 hown x1 x2 B4 hg5 HOB hfr
        go_wp2_with fail
        refine (load_any f (l ++ [10]) a5 c5 w5 (by omega) htx5.bs).mono ?_
        rintro e' w6 ⟨m', a3, c3, rfl, hs6, hb6⟩
        rw [HLO5.out] at hs6 ⊢
        rw [HC5.out]
        have hb7 := hb6.trans ((below_new w6 (.cells #[.map m', .slice a3 0 c3] 27)).mono hb6.size)
        have Y1 := Lib.hid (X1.keep hb7)
        have Y2 := Lib.hid (Box.new (n := 0) (c := c3) hs6)
        have Y3 := Lib.hid (hb2.trans ((B5.trans (hb7.mono B5.size)).mono hb2.size))
        clear hb6 hb7 X1 hs6 B5 htx5 hl5 hbel hb2
        have hp0 : (pats []).length = 0 := rfl
        rw [hp0]
        obtain ⟨W0, hW0⟩ : ∃ W0, W0 = w6.alloc (.cells #[.map m', .slice a3 0 c3] 27) := ⟨_, rfl⟩
        rw [← hW0] at Y1 Y2 Y3
        have hSd : W0.drew.cell? ⟨w3.heap.size, 0, none⟩ = some (.map m) ∧ W0.drew.cell? ⟨w3.heap.size, 1, none⟩ = some (.slice a2 n c2) ∧ W0.drew.cell? ⟨w6.heap.size, 0, none⟩ = some (.map m') ∧ W0.drew.cell? ⟨w6.heap.size, 1, none⟩ = some (.slice a3 0 c3) ∧ Below W0.heap.size W0 W0.drew := ⟨Y1.out.1.cells.1, Y1.out.1.cells.2, Y2.out.1.cells.1, Y2.out.1.cells.2, (Below.refl _ _).drew⟩
        have PA : Hid (∀ X : World, Below W0.heap.size W0 X → Calls Try.prog 18 #[.agg #[.map m, .slice a2 n c2]] X fun e' w' => (∃ a' c', e' = .returned (.slice a' n c')) ∧ Below X.heap.size X w') := Lib.hid fun X h => PAT.out X m a2 c2 (Y1.out.2.keep h)
        have SI : Hid (∀ X : World, Below W0.heap.size W0 X → Calls Try.prog 21 #[.agg #[.map m, .slice a2 n c2]] X fun e' w' => e' = .returned (.int .i64 (z : Int)) ∧ Below X.heap.size X w') := Lib.hid fun X h => SIZ.out X m a2 c2 (Y1.out.2.keep h)
        have LE : Hid (∀ X : World, Below W0.heap.size W0 X → Calls Try.prog 22 #[.agg #[.map m, .slice a2 n c2]] X fun e' w' => e' = .returned (.int .i64 (y : Int)) ∧ Below X.heap.size X w') := Lib.hid fun X h => LEA.out X m a2 c2 (Y1.out.2.keep h)
        have PZ : Hid (∀ X : World, Below W0.heap.size W0 X → Calls Try.prog 18 #[.agg #[.map m', .slice a3 0 c3]] X fun e' w' => (∃ a' c', e' = .returned (.slice a' 0 c')) ∧ Below X.heap.size X w') := Lib.hid fun X h => PAZ.out X m' a3 c3 (Y2.out.2.keep h)
        have EZ : Hid (∀ X : World, Below W0.heap.size W0 X → Calls Try.prog 20 #[.agg #[.map m', .slice a3 0 c3]] X fun e' w' => e' = .returned (.bool false) ∧ Below X.heap.size X w') := Lib.hid fun X h => EMZ.out X m' a3 c3 (Y2.out.2.keep h)
        have hsum : IntKind.i64.wrap ((n : Int) + (z : Int)) = (n : Int) + (z : Int) := IntWalk.i64_in _ (by omega)
        clear PAT SIZ LEA PAZ EMZ Y1 Y2 hp0
        go_wp2_with fail
        rw [← hW0]
        clear hW0
        go_region_held3 (fun w' => w'.cell? ⟨w3.heap.size, 0, none⟩ = some (.map m) ∧ w'.cell? ⟨w3.heap.size, 1, none⟩ = some (.slice a2 n c2) ∧ w'.cell? ⟨w6.heap.size, 0, none⟩ = some (.map m') ∧ w'.cell? ⟨w6.heap.size, 1, none⟩ = some (.slice a3 0 c3) ∧ Below W0.heap.size W0 w')
          (first | assumption | exact keepS (by assumption) (by assumption))
          (first
            | (go_at_call 18; ((with_reducible refine (PA.out _ (belS (m := m) (m' := m') (a2 := a2) (a3 := a3) (g7 := w3.heap.size) (g9 := w6.heap.size) (n := n) (c2 := c2) (c3 := c3) (by assumption))).mono ?_)); rintro e' wx ⟨⟨_, _, rfl⟩, hwx⟩)
            | (go_at_call 18; ((with_reducible refine (PZ.out _ (belS (m := m) (m' := m') (a2 := a2) (a3 := a3) (g7 := w3.heap.size) (g9 := w6.heap.size) (n := n) (c2 := c2) (c3 := c3) (by assumption))).mono ?_)); rintro e' wx ⟨⟨_, _, rfl⟩, hwx⟩)
            | (go_at_call 21; ((with_reducible refine (SI.out _ (belS (m := m) (m' := m') (a2 := a2) (a3 := a3) (g7 := w3.heap.size) (g9 := w6.heap.size) (n := n) (c2 := c2) (c3 := c3) (by assumption))).mono ?_)); rintro e' wx ⟨rfl, hwx⟩)
            | (go_at_call 22; ((with_reducible refine (LE.out _ (belS (m := m) (m' := m') (a2 := a2) (a3 := a3) (g7 := w3.heap.size) (g9 := w6.heap.size) (n := n) (c2 := c2) (c3 := c3) (by assumption))).mono ?_)); rintro e' wx ⟨rfl, hwx⟩)
            | (go_at_call 20; ((with_reducible refine (EZ.out _ (belS (m := m) (m' := m') (a2 := a2) (a3 := a3) (g7 := w3.heap.size) (g9 := w6.heap.size) (n := n) (c2 := c2) (c3 := c3) (by assumption))).mono ?_)); rintro e' wx ⟨rfl, hwx⟩))
        rename_i hHeld
        go_wp2
        go_ret
        exact ⟨rfl, Y3.out.trans ((belS hHeld).mono Y3.out.size)⟩
  · have hd0 : decide ((1024 : Int) < (b.length : Int)) = true := decide_eq_true (by omega)
    go_enter Try.func8, Try.ntmps8
    go_wp2_with (go_at_call 9; ((with_reducible refine (awake_any _).mono ?_)); rintro e' w1 ⟨rfl, hb2⟩)
    go_ret
    exact ⟨rfl, hb2⟩
end Go.Proofs.Yteggdhfchamffaa.patsetCap
