/- The contract of the statements' own 'same'. -/
import Derived.Test.YteggdhfchamffaaPa
import Derived.Test.YteggdhfchamffaaPb
import Derived.Test.YteggdhfchamffaaPe
import Derived.Deep.RegionHeld3
import Derived.StillTailTactics
import Derived.Deep.DrawnRows
namespace Go.Proofs.Yteggdhfchamffaa
open Go.RowKit
attribute [local go_sem ↓] Go.wp_at_zero Go.wp_at_succ

theorem IsSet.ss {W : World} {m : Option Nat} {a : Option Addr} {came : List (List UInt8)} (h : IsSet W m a came) : Ss W a (pats came) := h.2
theorem sameS {w w2 X Y : World} {m : Option Nat} {a a2 : Option Addr} {n cap cap2 : Nat} {e : Bool} (hb : Below X.heap.size X Y) (h : X.cell? ⟨w.heap.size, 0, none⟩ = some (.map m) ∧ X.cell? ⟨w.heap.size, 1, none⟩ = some (.slice a n cap) ∧ X.cell? ⟨w.heap.size + 1, 0, none⟩ = some (.slice a2 n cap2) ∧ X.cell? ⟨w.heap.size + 1, 1, none⟩ = some (.bool e) ∧ Below w2.heap.size w2 X) : Y.cell? ⟨w.heap.size, 0, none⟩ = some (.map m) ∧ Y.cell? ⟨w.heap.size, 1, none⟩ = some (.slice a n cap) ∧ Y.cell? ⟨w.heap.size + 1, 0, none⟩ = some (.slice a2 n cap2) ∧ Y.cell? ⟨w.heap.size + 1, 1, none⟩ = some (.bool e) ∧ Below w2.heap.size w2 Y := by
  obtain ⟨x0, x1, y0, y1, bel⟩ := h
  have k : ∀ (g j : Nat) (v : Value), X.cell? ⟨g, j, none⟩ = some v → Y.cell? ⟨g, j, none⟩ = some v := fun g j v hv => (hb.cell (p := ⟨g, j, none⟩) (World.block_lt_of_cell? X _ hv)).trans hv
  exact ⟨k _ _ _ x0, k _ _ _ x1, k _ _ _ y0, k _ _ _ y1, bel.trans (hb.mono bel.size)⟩

theorem belS {w w2 X : World} {m : Option Nat} {a a2 : Option Addr} {n cap cap2 : Nat} {e : Bool} (h : X.cell? ⟨w.heap.size, 0, none⟩ = some (.map m) ∧ X.cell? ⟨w.heap.size, 1, none⟩ = some (.slice a n cap) ∧ X.cell? ⟨w.heap.size + 1, 0, none⟩ = some (.slice a2 n cap2) ∧ X.cell? ⟨w.heap.size + 1, 1, none⟩ = some (.bool e) ∧ Below w2.heap.size w2 X) : Below w2.heap.size w2 X := h.2.2.2.2
set_option maxRecDepth 100000 in
set_option maxHeartbeats 8000000 in
theorem same_any (m : Option Nat) (a a2 : Option Addr) (cap cap2 : Nat) (came : List (List UInt8)) (w : World) (hset : IsSet w m a came) (hs2 : Ss w a2 (pats came)) (hl : came.length ≤ 100000000) (hx : ∀ x ∈ came, x.length ≤ 1000000000) :
    Calls Try.prog 13 #[.agg #[.map m, .slice a (pats came).length cap], .agg #[.slice a2 (pats came).length cap2, .bool (decide ([] ∈ came))]] w fun e w' => e = .returned (.bool true) ∧ Below w.heap.size w w' := by
  have hpl : (pats came).length ≤ 100000000 := Nat.le_trans (pats_len came) hl
  have hpx : ∀ x ∈ pats came, x.length ≤ 1000000000 := fun x h => hx x ((mem_pats came x).1 h).1
  obtain ⟨n, hn⟩ : ∃ n, n = (pats came).length := ⟨_, rfl⟩
  obtain ⟨e, he⟩ : ∃ e, e = decide ([] ∈ came) := ⟨_, rfl⟩
  obtain ⟨z, hz⟩ : ∃ z, z = bytesIn (pats came) := ⟨_, rfl⟩
  obtain ⟨y, hy⟩ : ∃ y, y = leastOf (pats came) := ⟨_, rfl⟩
  have EMP : Hid (∀ X : World, IsSet X m a came → Calls Try.prog 20 #[.agg #[.map m, .slice a n cap]] X fun e' w' => e' = .returned (.bool e) ∧ Below X.heap.size X w') := Lib.hid fun X h => by rw [he]; exact empty_any m a n cap came X h
  have SIZ : Hid (∀ X : World, Ss X a (pats came) → Calls Try.prog 21 #[.agg #[.map m, .slice a n cap]] X fun e' w' => e' = .returned (.int .i64 (z : Int)) ∧ Below X.heap.size X w') := Lib.hid fun X h => by rw [hz, hn]; exact size_any _ a cap _ X h (by omega) hpx
  have RSI : Hid (∀ X : World, Ss X a2 (pats came) → Calls Try.prog 25 #[.agg #[.slice a2 n cap2, .bool e]] X fun e' w' => e' = .returned (.int .i64 (z : Int)) ∧ Below X.heap.size X w') := Lib.hid fun X h => by rw [hz, hn]; exact rsize_any _ a2 cap2 _ X h (by omega) hpx
  have LEA : Hid (∀ X : World, Ss X a (pats came) → Calls Try.prog 22 #[.agg #[.map m, .slice a n cap]] X fun e' w' => e' = .returned (.int .i64 (y : Int)) ∧ Below X.heap.size X w') := Lib.hid fun X h => by rw [hy, hn]; exact least_any _ a cap _ X h (by omega)
  have RLE : Hid (∀ X : World, Ss X a2 (pats came) → Calls Try.prog 26 #[.agg #[.slice a2 n cap2, .bool e]] X fun e' w' => e' = .returned (.int .i64 (y : Int)) ∧ Below X.heap.size X w') := Lib.hid fun X h => by rw [hy, hn]; exact rleast_any _ a2 cap2 _ X h (by omega)
  have PAT : Hid (∀ X : World, Ss X a (pats came) → Calls Try.prog 18 #[.agg #[.map m, .slice a n cap]] X (GivesTexts X (pats came))) := Lib.hid fun X h => by rw [hn]; exact patterns_any _ a cap _ X h hpl hpx
  rw [← hn, ← he]
  have HN := Lib.hid hn
  have HE := Lib.hid he
  have HX := Lib.hid hpx
  have hb0 : Below w.heap.size w ((w.alloc (.cells #[.map m, .slice a n cap] 27)).alloc (.cells #[.slice a2 n cap2, .bool e] 32)) := ((Below.refl _ _).alloc (Nat.le_refl _) _).alloc (by simp) _
  have hk1 : Blk2 ((w.alloc (.cells #[.map m, .slice a n cap] 27)).alloc (.cells #[.slice a2 n cap2, .bool e] 32)) w.heap.size 27 (.map m) (.slice a n cap) := (Blk2.new w 27 (.map m) (.slice a n cap)).alloc _
  have hk2 : Blk2 ((w.alloc (.cells #[.map m, .slice a n cap] 27)).alloc (.cells #[.slice a2 n cap2, .bool e] 32)) (w.heap.size + 1) 32 (.slice a2 n cap2) (.bool e) := by
    have := Blk2.new (w.alloc (.cells #[.map m, .slice a n cap] 27)) 32 (.slice a2 n cap2) (.bool e)
    rwa [World.size_alloc] at this
  have HS0 := Lib.hid (hset.keep hb0)
  have HR0 := Lib.hid (hs2.keep hb0)
  clear hset hs2 hn he hz hy hpx hx hl
  obtain ⟨c0, c1⟩ := hk1.cells
  obtain ⟨c2, c3⟩ := hk2.cells
  go_enter Try.func13, Try.ntmps13
  go_wp2_with (go_at_call 18; ((with_reducible refine (PAT.out _ HS0.out.ss).mono ?_)); rintro e' w2 ⟨a1, cap1, xs, rfl, hxs, hts, hb2⟩; rw [← HN.out])
  have hS2 : w2.drew.cell? ⟨w.heap.size, 0, none⟩ = some (.map m) ∧ w2.drew.cell? ⟨w.heap.size, 1, none⟩ = some (.slice a n cap) ∧ w2.drew.cell? ⟨w.heap.size + 1, 0, none⟩ = some (.slice a2 n cap2) ∧ w2.drew.cell? ⟨w.heap.size + 1, 1, none⟩ = some (.bool e) ∧ Below w2.heap.size w2 w2.drew := ⟨(hk1.keep hb2 (by simp; omega)).cells.1, (hk1.keep hb2 (by simp; omega)).cells.2, (hk2.keep hb2 (by simp)).cells.1, (hk2.keep hb2 (by simp)).cells.2, (Below.refl _ _).drew⟩
  have HS2 := Lib.hid (HS0.out.keep hb2)
  have HR2 := Lib.hid (HR0.out.keep hb2)
  have HXS := Lib.hid hxs
  have HTS := Lib.hid hts
  have hbw : Below w.heap.size w w2 := hb0.trans (hb2.mono hb0.size)
  clear HS0 HR0 hb0 hb2 hk1 hk2 c0 c1 c2 c3 hxs hts PAT
  go_region_held3 (fun w' => w'.cell? ⟨w.heap.size, 0, none⟩ = some (.map m) ∧ w'.cell? ⟨w.heap.size, 1, none⟩ = some (.slice a n cap) ∧ w'.cell? ⟨w.heap.size + 1, 0, none⟩ = some (.slice a2 n cap2) ∧ w'.cell? ⟨w.heap.size + 1, 1, none⟩ = some (.bool e) ∧ Below w2.heap.size w2 w')
    (first | assumption | exact sameS (by assumption) (by assumption))
    (first
      | (go_at_call 20; ((with_reducible refine (EMP.out _ (HS2.out.keep (belS (m := m) (a := a) (n := n) (cap := cap) (a2 := a2) (cap2 := cap2) (e := e) (w := w) (by assumption)))).mono ?_)); rintro e' wx ⟨rfl, hwx⟩)
      | (go_at_call 21; ((with_reducible refine (SIZ.out _ (HS2.out.keep (belS (m := m) (a := a) (n := n) (cap := cap) (a2 := a2) (cap2 := cap2) (e := e) (w := w) (by assumption))).ss).mono ?_)); rintro e' wx ⟨rfl, hwx⟩)
      | (go_at_call 25; ((with_reducible refine (RSI.out _ (HR2.out.keep (belS (m := m) (a := a) (n := n) (cap := cap) (a2 := a2) (cap2 := cap2) (e := e) (w := w) (by assumption)))).mono ?_)); rintro e' wx ⟨rfl, hwx⟩)
      | (go_at_call 22; ((with_reducible refine (LEA.out _ (HS2.out.keep (belS (m := m) (a := a) (n := n) (cap := cap) (a2 := a2) (cap2 := cap2) (e := e) (w := w) (by assumption))).ss).mono ?_)); rintro e' wx ⟨rfl, hwx⟩)
      | (go_at_call 26; ((with_reducible refine (RLE.out _ (HR2.out.keep (belS (m := m) (a := a) (n := n) (cap := cap) (a2 := a2) (cap2 := cap2) (e := e) (w := w) (by assumption)))).mono ?_)); rintro e' wx ⟨rfl, hwx⟩))
  rename_i hHeld
  have hS3 : wx.cell? ⟨w.heap.size, 0, none⟩ = some (.map m) ∧ wx.cell? ⟨w.heap.size, 1, none⟩ = some (.slice a n cap) ∧ wx.cell? ⟨w.heap.size + 1, 0, none⟩ = some (.slice a2 n cap2) ∧ wx.cell? ⟨w.heap.size + 1, 1, none⟩ = some (.bool e) ∧ Below w2.heap.size w2 wx := hHeld
  clear hHeld hS2 EMP SIZ RSI LEA RLE
  have hxl : xs.length = n := by rw [HN.out, ← HXS.out]; simp
  have HL := Lib.hid hxl
  clear hxl
  go_wp2
  go_loopw [6] (fun i wr => ∃ k : Nat, k ≤ n ∧ i = .int .i64 k ∧ wr.cell? ⟨w.heap.size, 0, none⟩ = some (.map m) ∧ wr.cell? ⟨w.heap.size, 1, none⟩ = some (.slice a n cap) ∧ wr.cell? ⟨w.heap.size + 1, 0, none⟩ = some (.slice a2 n cap2) ∧ wr.cell? ⟨w.heap.size + 1, 1, none⟩ = some (.bool e) ∧ Below w2.heap.size w2 wr) (fun i _ => n - (intOf i).toNat)
  case atStart => exact ⟨0, Nat.zero_le _, rfl, hS3⟩
  case round =>
    obtain ⟨k, hk, rfl, hSr⟩ := hrel
    have hbel := belS hSr
    have HSR := Lib.hid hSr
    obtain ⟨c0, c1, c2, c3, _⟩ := hSr
    by_cases hlt : k < n
    · have hkx : k < xs.length := by rw [HL.out]; exact hlt
      have hkp : k < (pats came).length := by rw [← HN.out]; exact hlt
      obtain ⟨⟨b1, o1, rfl, hbl1, hc1⟩, hbs1⟩ : (∃ b off, a1 = some ⟨b, off, none⟩ ∧ b < w2.heap.size ∧ ∀ i (h : i < xs.length), w2.cell? ⟨b, off + i, none⟩ = some (.slice xs[i].a xs[i].text.length xs[i].cap)) ∧ Bs w2 w2.heap.size xs[k].a xs[k].text :=
        ⟨HTS.out.1 (by omega), HTS.out.2 _ (List.getElem_mem hkx)⟩
      obtain ⟨b2, o2, rfl, hbl2, hc2⟩ := HR2.out (by omega)
      have hd1 := (hbel.cell (p := ⟨b1, o1 + k, none⟩) hbl1).trans (hc1 k hkx)
      have hd2 := (hbel.cell (p := ⟨b2, o2 + k, none⟩) hbl2).trans (hc2 k hkp)
      have hye : xs[k].text = (pats came)[k] := by
        have h1 := map_at xs k hkx
        rw [← h1]
        simp only [HXS.out]
      rw [← hye] at hd2
      have hin : xs[k].text ∈ came := by rw [hye]; exact ((mem_pats came _).1 (List.getElem_mem hkp)).1
      have hyl : xs[k].text.length ≤ 1000000000 := by rw [hye]; exact HX.out _ (List.getElem_mem hkp)
      clear hye hc1 hc2
      generalize xs[k].text = y at *
      generalize xs[k].a = ay at *
      generalize xs[k].cap = cy at *
      have hbsr := (hbs1.keep hbel).more hbel.size
      have hcv : (convert 22 9 (.slice ay y.length cy)).run Try.prog wr.drew = .ok (.string (str y)) wr.drew := str_of_bs (w := wr.drew) cy hbsr
      have HAS : Hid (∀ X : World, Below w2.heap.size w2 X → Calls Try.prog 14 #[.agg #[.map m, .slice a n cap], .slice ay y.length cy] X fun e' w' => e' = .returned (.bool true) ∧ Below X.heap.size X w') := Lib.hid fun X hX => by
        have := has_any m a n cap came y ay cy X (HS2.out.keep hX) ((hbs1.keep hX).more hX.size) hyl
        rwa [decide_eq_true hin] at this
      have HB := Lib.hid hbel
      clear hin hbs1 hbsr hbel hyl
      go_wp2
      go_still_tail 17, (by kernel_rfl)
      change wpList _ _ _ _ _ wr.drew
      have hSd : wr.drew.cell? ⟨w.heap.size, 0, none⟩ = some (.map m) ∧ wr.drew.cell? ⟨w.heap.size, 1, none⟩ = some (.slice a n cap) ∧ wr.drew.cell? ⟨w.heap.size + 1, 0, none⟩ = some (.slice (some ⟨b2, o2, none⟩) n cap2) ∧ wr.drew.cell? ⟨w.heap.size + 1, 1, none⟩ = some (.bool e) ∧ Below w2.heap.size w2 wr.drew := ⟨c0, c1, c2, c3, HB.out.drew⟩
      have HBD := Lib.hid (belS hSd)
      generalize wr.drew = w3 at *
      clear c0 c1 c2 c3 hd1 hd2 hcv HB HSR
      go_wp2_with (go_at_call 14; ((with_reducible refine (HAS.out _ HBD.out).mono ?_)); rintro e' w4 ⟨rfl, hb4⟩; have hS4 := sameS hb4 hSd)
      go_roundw
      case rel => exact ⟨k + 1, by omega, by go_num, hS4⟩
      case measure => simp [intOf]; omega
    · have HAN : Hid (∀ X : World, Below w2.heap.size w2 X → Calls Try.prog 14 #[.agg #[.map m, .slice a n cap], .slice none 0 0] X fun e' w' => e' = .returned (.bool e) ∧ Below X.heap.size X w') := Lib.hid fun X hX => by
        have := has_any m a n cap came [] none 0 X (HS2.out.keep hX) (bs_nil _ _ _) (by simp)
        rw [HE.out]; exact this
      have hSd : wr.drew.cell? ⟨w.heap.size, 0, none⟩ = some (.map m) ∧ wr.drew.cell? ⟨w.heap.size, 1, none⟩ = some (.slice a n cap) ∧ wr.drew.cell? ⟨w.heap.size + 1, 0, none⟩ = some (.slice a2 n cap2) ∧ wr.drew.cell? ⟨w.heap.size + 1, 1, none⟩ = some (.bool e) ∧ Below w2.heap.size w2 wr.drew := ⟨c0, c1, c2, c3, hbel.drew⟩
      clear c0 c1 c2 c3 hbel HSR
      go_wp2
      go_region_held3 (fun w' => w'.cell? ⟨w.heap.size, 0, none⟩ = some (.map m) ∧ w'.cell? ⟨w.heap.size, 1, none⟩ = some (.slice a n cap) ∧ w'.cell? ⟨w.heap.size + 1, 0, none⟩ = some (.slice a2 n cap2) ∧ w'.cell? ⟨w.heap.size + 1, 1, none⟩ = some (.bool e) ∧ Below w2.heap.size w2 w')
        (first | assumption | exact sameS (by assumption) (by assumption))
        ((go_at_call 14; ((with_reducible refine (HAN.out _ (belS (m := m) (a := a) (n := n) (cap := cap) (a2 := a2) (cap2 := cap2) (e := e) (w := w) (by assumption))).mono ?_)); rintro e' wy ⟨rfl, hwy⟩))
      rename_i hHeld
      go_wp2
      go_ret
      exact ⟨rfl, hbw.trans ((belS hHeld).mono hbw.size)⟩
end Go.Proofs.Yteggdhfchamffaa
