/- The walk of the law LinesParts. -/
import Derived.Test.YtcieikibfmelkaaWk
namespace Go.Proofs.Ytcieikibfmelkaa.linesParts
open Go.RowKit

theorem ls_nil (W : World) (a : Option Addr) : Ls W a [] := ⟨fun h => absurd h (by simp), fun x hx => by cases hx⟩

set_option maxRecDepth 100000 in
set_option maxHeartbeats 8000000 in
theorem small (w : World) (s : List UInt8) (a : Option Addr) (ca : Nat) (ha : Bs w w.heap.size a s) (hna : a = none → ca = 0) (u : List UInt8) (b : Option Addr) (cb : Nat) (hb : Bs w w.heap.size b u) (hnb : b = none → cb = 0)
    (hs : s.length ≤ 500) (hu : u.length ≤ 500) :
    Calls Try.prog 7 #[.slice a s.length ca, .slice b u.length cb] w fun e w' => e = .returned (.bool true) ∧ Below w.heap.size w w' := by
  have d1 : decide ((500 : Int) < (s.length : Int)) = false := decide_eq_false (by omega)
  have d2 : decide ((500 : Int) < (u.length : Int)) = false := decide_eq_false (by omega)
  go_enter Try.func7, Try.ntmps7
  go_wp2_with fail
  go_at_call 9
  refine (awake_any w).mono ?_
  rintro e w1 ⟨rfl, B1⟩
  have hA1 : Bs w1 w1.heap.size a s := (ha.keep B1).more B1.size
  go_wp2_with (first
    | (at_builtin; refine app_bs rfl (.tmp 22) (.tmp 23) rfl w1.heap.size _ 0 [] rfl (World.ownsRow_nil _ _ _ _) a s ca w1.heap.size rfl hA1 hna (by omega) (Nat.le_refl _) ?_; intro v2 w2 hown2 hg2; have hb2 := app_below (Below.refl w1.heap.size w1) (World.ownsRow_nil w1 w1.heap.size 5 1) hg2 (Nat.le_refl _) (Nat.le_refl _); have hs2 := hb2.size)
    | (at_builtin; refine app_bs rfl (.tmp 25) (.tmp 26) rfl w1.heap.size _ (0 + s.length) _ rfl (hown2.alloc _) (some ⟨w2.heap.size, 0, none⟩) [10] 1 _ rfl (bs_lit w2 [10] (0, 0) _ rfl) (fun e => by cases e) (by simp; omega) (by simp; omega) ?_; intro v3 w3 hown3 hg3; have hb3 := app_below (hb2.alloc hs2 _) (hown2.alloc _) hg3 (by simp; omega) (Nat.le_refl _))
    | fail)
  obtain ⟨o3, a3, c3, rfl, t3, n3⟩ := own_text (l := s ++ [10]) hown3 (by simp [vals])
  obtain ⟨p, hp⟩ : ∃ p, p = s ++ [10] := ⟨_, rfl⟩
  have hpl : p.length = s.length + 1 := by rw [hp]; simp
  have LP := lines_parts s u
  rw [← hp] at o3 t3 LP
  rw [← hp]
  have HPU : Hid (linesOf (p ++ u) = linesOf p ++ (linesOf u).map (Ln.shift p.length)) := Lib.hid (by rw [hp] at LP ⊢; exact LP)
  have hp0 : openB p = false := by rw [hp]; simp [openB]
  have hx0 : 0 < (linesOf p).length := by
    have h1 : 0 < nls (s ++ [10]) := by simp [nls]
    rw [lines_length, hp]; omega
  have hpb : p.length ≤ 501 := by omega
  have hlx := lines_le p
  have hlz := lines_le u
  obtain ⟨nx, hnx⟩ : ∃ nx, nx = (linesOf p).length := ⟨_, rfl⟩
  obtain ⟨nz, hnz⟩ : ∃ nz, nz = (linesOf u).length := ⟨_, rfl⟩
  have hny : (linesOf (p ++ u)).length = nx + nz := by rw [HPU.out, hnx, hnz]; simp
  have HNX := Lib.hid hnx
  have HNZ := Lib.hid hnz
  have HNY := Lib.hid hny
  rw [← hnx] at hx0 hlx
  rw [← hnz] at hlz
  have b3 := B1.trans (hb3.mono B1.size)
  have z13 := hb3.size
  clear hny hnx hnz LP hp hp0 hpl hown2 hown3 hg2 hg3 hb2 hb3 hs2 hA1
  refine (split_lsf p a3 c3 _ nx _ rfl HNX.out.symm (by omega) t3.bs).mono ?_
  rintro e w4 ⟨ax, cx, xs, rfl, hxl, hxm, hxc, hlx4, hb4⟩
  have B4 := b3.trans (hb4.mono b3.size)
  have o4 := own_keep o3 hb4
  have z4 := hb4.size
  have hblt : ∀ r, Value.ownBlock (.slice a3 p.length c3) = some r → r < w3.heap.size := fun r hr => (own_block_lt o3 hr).2.1
  have hB4 : Bs w4 w4.heap.size b u := (hb.keep B4).more B4.size
  have HXL := Lib.hid hxl
  have HXM := Lib.hid hxm
  have HBL := Lib.hid hblt
  have z1 : w1.heap.size ≤ w4.heap.size := by omega
  clear hxl hxm hblt
  go_wp2_with (first
    | (at_builtin; refine app_bs rfl (.tmp 32) (.tmp 33) rfl w1.heap.size _ p.length (vals p) rfl o4 b u cb w4.heap.size rfl hB4 hnb (by omega) z1 ?_; intro v5 w5 hown5 hg5)
    | fail)
  have g5 : w4.grownBy w5 (Value.ownBlock (.slice a3 p.length c3)) := hg5
  have L5 := hlx4.grown g5 HBL.out
  have B5 : Below w.heap.size w w5 := app_below B4 o4 g5 B4.size B1.size
  obtain ⟨o5, a5, c5, rfl, t5, n5⟩ := own_text (l := p ++ u) hown5 (by simp [vals])
  obtain ⟨q, hq⟩ : ∃ q, q = p ++ u := ⟨_, rfl⟩
  have hql : q.length = p.length + u.length := by rw [hq]; simp
  rw [← hq] at o5 t5 HNY HPU
  rw [← hq]
  have hqb : q.length ≤ 1001 := by omega
  clear hql hq hown5 hg5 g5 hlx4 o4 B4 hb4 HBL hB4
  refine (split_lsf q a5 c5 _ (nx + nz) _ rfl HNY.out (by omega) t5.bs).mono ?_
  rintro e w6 ⟨ay, cy, ys, rfl, hyl, hym, hyc, hly6, hb6⟩
  have L6 := L5.keep hb6
  have T6 := t5.keep hb6
  have B6 := B5.trans (hb6.mono B5.size)
  have HYL := Lib.hid hyl
  have HYM := Lib.hid hym
  clear hyl hym
  go_wp2_with fail
  refine (split_lsf u b cb _ nz _ rfl HNZ.out.symm (by omega) ((hb.keep B6).more B6.size)).mono ?_
  rintro e w7 ⟨az, cz, zs, rfl, hzl, hzm, hzc, hlz7, hb7⟩
  have X7 := (L6.keep hb7).ls
  have Y7 := (hly6.keep hb7).ls
  have Z7 := hlz7.ls
  have T7 := T6.keep hb7
  have B7 := B6.trans (hb7.mono B6.size)
  have HZL := Lib.hid hzl
  have HZM := Lib.hid hzm
  clear hzl hzm L5 L6 T6 B5 B6 hb6 hb7 hly6 hlz7
  have d3 : (((nx : Int) + (nz : Int)) != ((nx : Int) + (nz : Int))) = false := by simp
  go_wp2_with (go_at_call 12; refine (count_n q a5 c5 _ (nx + nz) _ rfl HNY.out (by omega) T7.bs).mono ?_; rintro e w' ⟨rfl, rfl⟩)
  have ht1 : (ys.take nx).map LnV.ln = xs.map LnV.ln := by
    rw [List.map_take, HYM.out, HPU.out, HXM.out, List.take_left' HNX.out.symm]
  have ht2 : (ys.drop nx).map LnV.ln = (zs.map LnV.ln).map (Ln.shift p.length) := by
    rw [List.map_drop, HYM.out, HPU.out, HZM.out, List.drop_left' HNX.out.symm]
  have hof : ∀ x ∈ ys.map LnV.ln, x.off ≤ 1000000000 := fun x hx => by
    rw [HYM.out] at hx
    exact offs_le q (by omega) x hx
  have hyl := HYL.out
  refine (same_n (ys.take nx) xs 0 nx nx ay ax cy cx _ (by simp; omega) HXL.out (by rw [ht1, map_shift_zero]) (Y7.take nx) X7 (fun x hx => hof x (by rw [List.map_take] at hx; exact List.mem_of_mem_take hx)) (by simp; omega)).mono ?_
  rintro e w8 ⟨rfl, hb8⟩
  have Y8 := Y7.keep hb8
  have Z8 := Z7.keep hb8
  have B8 := B7.trans (hb8.mono B7.size)
  obtain ⟨by_, oy, rfl, _⟩ := Y8.1 (by omega)
  have HT2 := Lib.hid ht2
  have HOF := Lib.hid hof
  have HYL2 := Lib.hid hyl
  clear ht1 ht2 hof hyl Y7 Z7 X7 T7 B7 hb8
  have hzz : nx + nz - nx = nz := by omega
  by_cases hcn : cy = nx
  · have hz0 : nz = 0 := by omega
    have hd : decide (cy = nx) = true := decide_eq_true hcn
    have HCN := Lib.hid hcn
    have HZ0 := Lib.hid hz0
    clear hcn hz0
    go_wp2_with fail
    have hzn : zs = [] := List.eq_nil_of_length_eq_zero (by rw [HZL.out, HZ0.out])
    refine (same_n [] zs p.length nz nz _ az 0 cz _ (by rw [HZ0.out]; rfl) HZL.out (by rw [hzn]; rfl) (ls_nil _ _) Z8 (fun x hx => by cases hx) (by simp)).mono ?_
    rintro e w9 ⟨rfl, hb9⟩
    go_wp2
    go_ret
    exact ⟨rfl, B8.trans (hb9.mono B8.size)⟩
  · have hd : decide (cy = nx) = false := decide_eq_false hcn
    go_wp2_with fail
    have hyl := HYL2.out
    have hds : Ls w8 (some ⟨by_, oy + nx * 3, none⟩) (ys.drop nx) := by
      by_cases hz : nx < ys.length
      · exact Y8.drop nx hz
      · rw [List.drop_of_length_le (by omega)]; exact ls_nil _ _
    refine (same_n (ys.drop nx) zs p.length nz nz _ az (cy - nx) cz _ (by simp; omega) HZL.out HT2.out hds Z8 (fun x hx => HOF.out x (by rw [List.map_drop] at hx; exact List.mem_of_mem_drop hx)) (by simp; omega)).mono ?_
    rintro e w9 ⟨rfl, hb9⟩
    go_wp2
    go_ret
    exact ⟨rfl, B8.trans (hb9.mono B8.size)⟩

set_option maxRecDepth 100000 in
set_option maxHeartbeats 4000000 in
theorem walk (w : World) (s : List UInt8) (a : Option Addr) (ca : Nat) (hms : s.length ≤ maxLen) (ha : Bs w w.heap.size a s) (hna : a = none → ca = 0) (u : List UInt8) (b : Option Addr) (cb : Nat) (hmu : u.length ≤ maxLen) (hb : Bs w w.heap.size b u) (hnb : b = none → cb = 0) :
    Calls Try.prog 7 #[.slice a s.length ca, .slice b u.length cb] w fun e w' => e = .returned (.bool true) ∧ Below w.heap.size w w' := by
  unfold maxLen at hms hmu
  by_cases hs : s.length ≤ 500
  · by_cases hu : u.length ≤ 500
    · exact small w s a ca ha hna u b cb hb hnb hs hu
    · have d1 : decide ((500 : Int) < (s.length : Int)) = false := decide_eq_false (by omega)
      have d2 : decide ((500 : Int) < (u.length : Int)) = true := decide_eq_true (by omega)
      go_enter Try.func7, Try.ntmps7
      go_wp2_with fail
      go_at_call 9
      refine (awake_any w).mono ?_
      rintro e w1 ⟨rfl, hb1⟩
      go_wp2
      go_ret
      exact ⟨rfl, hb1⟩
  · have d1 : decide ((500 : Int) < (s.length : Int)) = true := decide_eq_true (by omega)
    go_enter Try.func7, Try.ntmps7
    go_wp2_with fail
    go_at_call 9
    refine (awake_any w).mono ?_
    rintro e w1 ⟨rfl, hb1⟩
    go_wp2
    go_ret
    exact ⟨rfl, hb1⟩
end Go.Proofs.Ytcieikibfmelkaa.linesParts
