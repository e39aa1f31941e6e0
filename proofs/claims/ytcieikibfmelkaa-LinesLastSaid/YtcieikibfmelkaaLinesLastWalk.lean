/- The walk of the law LinesLast. -/
import Derived.Test.YtcieikibfmelkaaWk
namespace Go.Proofs.Ytcieikibfmelkaa.linesLast
open Go.RowKit

set_option maxRecDepth 100000 in
set_option maxHeartbeats 8000000 in
theorem opened (w : World) (t : List UInt8) (a : Option Addr) (ca : Nat) (ha : Bs w w.heap.size a t) (hna : a = none → ca = 0) (hs : t.length ≤ 800) (ho : openB t = true) :
    Calls Try.prog 8 #[.slice a t.length ca] w fun e w' => e = .returned (.bool true) ∧ Below w.heap.size w w' := by
  have d1 : decide ((800 : Int) < (t.length : Int)) = false := decide_eq_false (by omega)
  have ht0 : 0 < t.length := by
    rcases Nat.eq_zero_or_pos t.length with h | h
    · rw [openB_zero t h] at ho; cases ho
    · exact h
  have hlast : t[t.length - 1] ≠ 10 := by rw [openB_last t ht0] at ho; simpa using ho
  have d2 : ((t[t.length - 1].toNat : Int) != 10) = true := by rw [u8_ne_ten]; simp [hlast]
  obtain ⟨ls, o, c, hlx, hly⟩ := lines_open t ho
  obtain ⟨n, hn⟩ : ∃ n, n = ls.length := ⟨_, rfl⟩
  have hlx1 : (linesOf t).length = n + 1 := by rw [hlx, hn]; simp
  have hly1 : (linesOf (t ++ [10])).length = n + 1 := by rw [hly, hn]; simp
  have hn1 : n + 1 ≤ t.length := by rw [← hlx1]; exact lines_le t
  have HLX := Lib.hid hlx
  have HLY := Lib.hid hly
  have HLX1 := Lib.hid hlx1
  have HLY1 := Lib.hid hly1
  have HN := Lib.hid hn
  clear hlx hly hlx1 hly1 hn ho hlast
  obtain ⟨b, off, rfl, hbl, hc⟩ := ha ht0
  have HA := Lib.hid ha
  have HC := Lib.hid hc
  clear ha hc
  have hx : (t.length : Int) - 1 = ((t.length - 1 : Nat) : Int) := by omega
  have hq : ((t.length : Int) - 1).toNat = t.length - 1 := by omega
  go_enter Try.func8, Try.ntmps8
  go_wp2_with fail
  go_at_call 9
  refine (awake_any w).mono ?_
  rintro e w1 ⟨rfl, B1⟩
  have hA1 : Bs w1 w1.heap.size (some ⟨b, off, none⟩) t := (HA.out.keep B1).more B1.size
  go_wp2_with (first
    | (at_builtin; refine app_bs rfl (.tmp 16) (.tmp 17) rfl w1.heap.size _ 0 [] rfl (World.ownsRow_nil _ _ _ _) _ t ca w1.heap.size rfl hA1 hna (by omega) (Nat.le_refl _) ?_; intro v2 w2 hown2 hg2; have hb2 := app_below (Below.refl w1.heap.size w1) (World.ownsRow_nil w1 w1.heap.size 5 1) hg2 (Nat.le_refl _) (Nat.le_refl _); have hs2 := hb2.size)
    | (at_builtin; refine app_bs rfl (.tmp 19) (.tmp 20) rfl w1.heap.size _ (0 + t.length) _ rfl (hown2.alloc _) (some ⟨w2.heap.size, 0, none⟩) [10] 1 _ rfl (bs_lit w2 [10] (0, 0) _ rfl) (fun e => by cases e) (by simp; omega) (by simp; omega) ?_; intro v3 w3 hown3 hg3; have hb3 := app_below (hb2.alloc hs2 _) (hown2.alloc _) hg3 (by simp; omega) (Nat.le_refl _))
    | fail)
  obtain ⟨o3, a3, c3, rfl, t3, n3⟩ := own_text (l := t ++ [10]) hown3 (by simp [vals])
  obtain ⟨p, hp⟩ : ∃ p, p = t ++ [10] := ⟨_, rfl⟩
  have hpl : p.length = t.length + 1 := by rw [hp]; simp
  rw [← hp] at o3 t3 HLY HLY1
  rw [← hp]
  have b3 := B1.trans (hb3.mono B1.size)
  have hpb : p.length ≤ 801 := by omega
  clear hp hpl hown2 hown3 hg2 hg3 hb2 hb3 hs2 hA1
  refine (split_lsf t _ ca _ (n + 1) _ rfl HLX1.out (by omega) ((HA.out.keep b3).more b3.size)).mono ?_
  rintro e w4 ⟨ax, cx, xs, rfl, hxl, hxm, hxc, hlx4, hb4⟩
  have T4 := t3.keep hb4
  have B4 := b3.trans (hb4.mono b3.size)
  have HXL := Lib.hid hxl
  have HXM := Lib.hid hxm
  clear hxl hxm t3 o3
  go_wp2_with fail
  refine (split_lsf p a3 c3 _ (n + 1) _ rfl HLY1.out (by omega) T4.bs).mono ?_
  rintro e w5 ⟨ay, cy, ys, rfl, hyl, hym, hyc, hly5, hb5⟩
  have X5 := (hlx4.keep hb5).ls
  have Y5 := hly5.ls
  have B5 := B4.trans (hb5.mono B4.size)
  have HYL := Lib.hid hyl
  have HYM := Lib.hid hym
  clear hyl hym T4 B4 hb4 hb5 hlx4 hly5 b3
  have hck : w5.cell? ⟨b, off + (t.length - 1), none⟩ = some (.int .u8 (t[t.length - 1].toNat : Int)) := (B5.cell (p := ⟨b, _, none⟩) hbl).trans (HC.out _ (by omega))
  obtain ⟨bx, ox, rfl, hbx, hcx⟩ := X5.1 (by rw [HXL.out]; omega)
  obtain ⟨by_, oy, rfl, hby, hcy⟩ := Y5.1 (by rw [HYL.out]; omega)
  have hxl := HXL.out
  have hyl := HYL.out
  obtain ⟨x0, x1, x2⟩ := hcx n (by omega)
  obtain ⟨y0, y1, y2⟩ := hcy n (by omega)
  have hxn : (xs[n]'(by omega)).ln = ⟨o, c, false⟩ := by
    have e := congrArg (fun l => l[n]?) HXM.out
    rw [HLX.out] at e
    simpa [HN.out, show ls.length < xs.length by rw [← HN.out]; omega] using e
  have hyn : (ys[n]'(by omega)).ln = ⟨o, c, true⟩ := by
    have e := congrArg (fun l => l[n]?) HYM.out
    rw [HLY.out] at e
    simpa [HN.out, show ls.length < ys.length by rw [← HN.out]; omega] using e
  have htx := X5.2 (xs[n]'(by omega)) (List.getElem_mem _)
  have hty := Y5.2 (ys[n]'(by omega)) (List.getElem_mem _)
  rw [hxn] at x0 x1 x2 htx
  rw [hyn] at y0 y1 y2 hty
  generalize (xs[n]'(by omega)).a = A1 at *
  generalize (xs[n]'(by omega)).cap = C1 at *
  generalize (ys[n]'(by omega)).a = A2 at *
  generalize (ys[n]'(by omega)).cap = C2 at *
  simp only [] at x0 x1 x2 y0 y1 y2 htx hty
  have hk1 : ∀ q, (convert 22 9 (.slice A1 c.length C1)).run Try.prog (w5.drewN q) = .ok (.string (str c)) (w5.drewN q) := fun q => str_of_bs (w := w5.drewN q) C1 htx
  have hk2 : ∀ q, (convert 22 9 (.slice A2 c.length C2)).run Try.prog (w5.drewN q) = .ok (.string (str c)) (w5.drewN q) := fun q => str_of_bs (w := w5.drewN q) C2 hty
  have SAM : Hid (∀ q, Calls Try.prog 16 #[.slice (some ⟨bx, ox, none⟩) n cx, .slice (some ⟨by_, oy, none⟩) n cy, .int .i64 0] (w5.drewN q) fun e w' => e = .returned (.bool true) ∧ ∃ m, w' = (w5.drewN q).drewN m) := Lib.hid fun q => by
    refine same_q (xs.take n) (ys.take n) 0 n n _ _ cx cy (w5.drewN q) (by simp; omega) (by simp; omega) ?_ ((X5.keep (below_drews (Below.refl _ _) q)).take n) ((Y5.keep (below_drews (Below.refl _ _) q)).take n) ?_ (by simp; omega)
    · rw [map_shift_zero, List.map_take, List.map_take, HXM.out, HYM.out, HLX.out, HLY.out, List.take_left' HN.out.symm, List.take_left' HN.out.symm]
    · intro x hx
      rw [List.map_take, HXM.out] at hx
      exact offs_le t (by omega) x (List.mem_of_mem_take hx)
  have d3 : decide ((0 : Int) ≤ (n : Int)) = true := decide_eq_true (by omega)
  have d4 : (((n : Int) + 1) == ((n : Int) + 1)) = true := by simp
  have d5 : ((o : Int) == (o : Int)) = true := by simp
  clear hcx hcy hxn hyn X5 Y5 htx hty HXL HYL HXM HYM HLX HLY HLX1 HLY1 HN hxl hyl
  go_wp2
  go_quiet ((go_at_call 16; exact Calls.quiet_of (SAM.out _)))
  go_wp2
  go_ret
  exact ⟨rfl, below_drews B5 _⟩

set_option maxRecDepth 100000 in
set_option maxHeartbeats 8000000 in
theorem shutNone (w : World) (t : List UInt8) (a : Option Addr) (ca : Nat) (ha : Bs w w.heap.size a t) (hna : a = none → ca = 0) (hs : t.length ≤ 800) (ho : openB t = false) (h0 : t.length = 0) :
    Calls Try.prog 8 #[.slice a t.length ca] w fun e w' => e = .returned (.bool true) ∧ Below w.heap.size w w' := by
  have d1 : decide ((800 : Int) < (t.length : Int)) = false := decide_eq_false (by omega)
  have d2 : decide ((0 : Int) < (t.length : Int)) = false := decide_eq_false (by omega)
  have d2' : decide (0 < t.length) = false := decide_eq_false (by omega)
  have H0 := Lib.hid h0
  clear h0
  have hly := lines_shut t ho
  obtain ⟨n, hn⟩ : ∃ n, n = (linesOf t).length := ⟨_, rfl⟩
  have hly1 : (linesOf (t ++ [10])).length = n + 1 := by rw [hly, hn]; simp
  have hn1 : n ≤ t.length := by rw [hn]; exact lines_le t
  have HLY := Lib.hid hly
  have HLY1 := Lib.hid hly1
  have HN := Lib.hid hn
  clear hly hly1 hn ho
  go_enter Try.func8, Try.ntmps8
  go_wp2_with fail
  go_at_call 9
  refine (awake_any w).mono ?_
  rintro e w1 ⟨rfl, B1⟩
  have hA1 : Bs w1 w1.heap.size a t := (ha.keep B1).more B1.size
  go_wp2_with (first
    | (at_builtin; refine app_bs rfl (.tmp 16) (.tmp 17) rfl w1.heap.size _ 0 [] rfl (World.ownsRow_nil _ _ _ _) _ t ca w1.heap.size rfl hA1 hna (by omega) (Nat.le_refl _) ?_; intro v2 w2 hown2 hg2; have hb2 := app_below (Below.refl w1.heap.size w1) (World.ownsRow_nil w1 w1.heap.size 5 1) hg2 (Nat.le_refl _) (Nat.le_refl _); have hs2 := hb2.size)
    | (at_builtin; refine app_bs rfl (.tmp 19) (.tmp 20) rfl w1.heap.size _ (0 + t.length) _ rfl (hown2.alloc _) (some ⟨w2.heap.size, 0, none⟩) [10] 1 _ rfl (bs_lit w2 [10] (0, 0) _ rfl) (fun e => by cases e) (by simp; omega) (by simp; omega) ?_; intro v3 w3 hown3 hg3; have hb3 := app_below (hb2.alloc hs2 _) (hown2.alloc _) hg3 (by simp; omega) (Nat.le_refl _))
    | fail)
  obtain ⟨o3, a3, c3, rfl, t3, n3⟩ := own_text (l := t ++ [10]) hown3 (by simp [vals])
  obtain ⟨p, hp⟩ : ∃ p, p = t ++ [10] := ⟨_, rfl⟩
  have hpl : p.length = t.length + 1 := by rw [hp]; simp
  rw [← hp] at o3 t3 HLY HLY1
  rw [← hp]
  have b3 := B1.trans (hb3.mono B1.size)
  have hpb : p.length ≤ 801 := by omega
  clear hp hpl hown2 hown3 hg2 hg3 hb2 hb3 hs2 hA1
  refine (split_lsf t _ ca _ n _ rfl HN.out.symm (by omega) ((ha.keep b3).more b3.size)).mono ?_
  rintro e w4 ⟨ax, cx, xs, rfl, hxl, hxm, hxc, hlx4, hb4⟩
  have T4 := t3.keep hb4
  have B4 := b3.trans (hb4.mono b3.size)
  have HXL := Lib.hid hxl
  have HXM := Lib.hid hxm
  clear hxl hxm t3 o3
  go_wp2_with fail
  refine (split_lsf p a3 c3 _ (n + 1) _ rfl HLY1.out (by omega) T4.bs).mono ?_
  rintro e w5 ⟨ay, cy, ys, rfl, hyl, hym, hyc, hly5, hb5⟩
  have X5 := (hlx4.keep hb5).ls
  have Y5 := hly5.ls
  have B5 := B4.trans (hb5.mono B4.size)
  have HYL := Lib.hid hyl
  have HYM := Lib.hid hym
  clear hyl hym T4 B4 hb4 hb5 hlx4 hly5 b3
  obtain ⟨by_, oy, rfl, hby, hcy⟩ := Y5.1 (by rw [HYL.out]; omega)
  have SAM : Hid (Calls Try.prog 16 #[.slice ax n cx, .slice (some ⟨by_, oy, none⟩) n cy, .int .i64 0] w5 fun e w' => e = .returned (.bool true) ∧ ∃ m, w' = w5.drewN m) := Lib.hid (by
    have hxl := HXL.out
    have hyl := HYL.out
    refine same_q xs (ys.take n) 0 n n _ _ cx cy w5 hxl (by simp; omega) ?_ X5 (Y5.take n) ?_ (by omega)
    · rw [map_shift_zero, List.map_take, HXM.out, HYM.out, HLY.out, List.take_left' HN.out.symm]
    · intro x hx
      rw [HXM.out] at hx
      exact offs_le t (by omega) x hx)
  have hyl := HYL.out
  have hyn : (ys[n]'(by omega)).ln = ⟨t.length, [], true⟩ := by
    have e := congrArg (fun l => l[n]?) HYM.out
    rw [HLY.out] at e
    simpa [HN.out, show (linesOf t).length < ys.length by rw [← HN.out]; omega] using e
  obtain ⟨y0, y1, y2⟩ := hcy n (by omega)
  rw [hyn] at y0 y1 y2
  generalize (ys[n]'(by omega)).a = A2 at *
  generalize (ys[n]'(by omega)).cap = C2 at *
  simp only [List.length_nil] at y0 y1 y2
  have d4 : (((n : Int) + 1) == ((n : Int) + 1)) = true := by simp
  have d5 : ((t.length : Int) == (t.length : Int)) = true := by simp
  clear hcy hyn X5 Y5 HXL HYL HXM HYM HLY HLY1 HN hyl
  go_wp2_with (go_at_call 16; refine SAM.out.mono ?_; rintro e w6 ⟨rfl, q, rfl⟩)
  go_ret
  exact ⟨rfl, below_drews B5 _⟩

set_option maxRecDepth 100000 in
set_option maxHeartbeats 8000000 in
theorem shutSome (w : World) (t : List UInt8) (a : Option Addr) (ca : Nat) (ha : Bs w w.heap.size a t) (hna : a = none → ca = 0) (hs : t.length ≤ 800) (ho : openB t = false) (h0 : 0 < t.length) :
    Calls Try.prog 8 #[.slice a t.length ca] w fun e w' => e = .returned (.bool true) ∧ Below w.heap.size w w' := by
  have d1 : decide ((800 : Int) < (t.length : Int)) = false := decide_eq_false (by omega)
  have d2 : ((t[t.length - 1].toNat : Int) != 10) = false := by
    have h := openB_last t h0
    rw [ho] at h
    rw [u8_ne_ten]
    exact h.symm
  obtain ⟨b, off, rfl, hbl, hc⟩ := ha h0
  have HA := Lib.hid ha
  have HC := Lib.hid hc
  clear ha hc
  have hx : (t.length : Int) - 1 = ((t.length - 1 : Nat) : Int) := by omega
  have hq : ((t.length : Int) - 1).toNat = t.length - 1 := by omega
  have hly := lines_shut t ho
  obtain ⟨n, hn⟩ : ∃ n, n = (linesOf t).length := ⟨_, rfl⟩
  have hly1 : (linesOf (t ++ [10])).length = n + 1 := by rw [hly, hn]; simp
  have hn1 : n ≤ t.length := by rw [hn]; exact lines_le t
  have HLY := Lib.hid hly
  have HLY1 := Lib.hid hly1
  have HN := Lib.hid hn
  clear hly hly1 hn ho
  go_enter Try.func8, Try.ntmps8
  go_wp2_with fail
  go_at_call 9
  refine (awake_any w).mono ?_
  rintro e w1 ⟨rfl, B1⟩
  have hA1 : Bs w1 w1.heap.size (some ⟨b, off, none⟩) t := (HA.out.keep B1).more B1.size
  go_wp2_with (first
    | (at_builtin; refine app_bs rfl (.tmp 16) (.tmp 17) rfl w1.heap.size _ 0 [] rfl (World.ownsRow_nil _ _ _ _) _ t ca w1.heap.size rfl hA1 hna (by omega) (Nat.le_refl _) ?_; intro v2 w2 hown2 hg2; have hb2 := app_below (Below.refl w1.heap.size w1) (World.ownsRow_nil w1 w1.heap.size 5 1) hg2 (Nat.le_refl _) (Nat.le_refl _); have hs2 := hb2.size)
    | (at_builtin; refine app_bs rfl (.tmp 19) (.tmp 20) rfl w1.heap.size _ (0 + t.length) _ rfl (hown2.alloc _) (some ⟨w2.heap.size, 0, none⟩) [10] 1 _ rfl (bs_lit w2 [10] (0, 0) _ rfl) (fun e => by cases e) (by simp; omega) (by simp; omega) ?_; intro v3 w3 hown3 hg3; have hb3 := app_below (hb2.alloc hs2 _) (hown2.alloc _) hg3 (by simp; omega) (Nat.le_refl _))
    | fail)
  obtain ⟨o3, a3, c3, rfl, t3, n3⟩ := own_text (l := t ++ [10]) hown3 (by simp [vals])
  obtain ⟨p, hp⟩ : ∃ p, p = t ++ [10] := ⟨_, rfl⟩
  have hpl : p.length = t.length + 1 := by rw [hp]; simp
  rw [← hp] at o3 t3 HLY HLY1
  rw [← hp]
  have b3 := B1.trans (hb3.mono B1.size)
  have hpb : p.length ≤ 801 := by omega
  clear hp hpl hown2 hown3 hg2 hg3 hb2 hb3 hs2 hA1
  refine (split_lsf t _ ca _ n _ rfl HN.out.symm (by omega) ((HA.out.keep b3).more b3.size)).mono ?_
  rintro e w4 ⟨ax, cx, xs, rfl, hxl, hxm, hxc, hlx4, hb4⟩
  have T4 := t3.keep hb4
  have B4 := b3.trans (hb4.mono b3.size)
  have HXL := Lib.hid hxl
  have HXM := Lib.hid hxm
  clear hxl hxm t3 o3
  go_wp2_with fail
  refine (split_lsf p a3 c3 _ (n + 1) _ rfl HLY1.out (by omega) T4.bs).mono ?_
  rintro e w5 ⟨ay, cy, ys, rfl, hyl, hym, hyc, hly5, hb5⟩
  have X5 := (hlx4.keep hb5).ls
  have Y5 := hly5.ls
  have B5 := B4.trans (hb5.mono B4.size)
  have HYL := Lib.hid hyl
  have HYM := Lib.hid hym
  clear hyl hym T4 B4 hb4 hb5 hlx4 hly5 b3
  have hck : w5.cell? ⟨b, off + (t.length - 1), none⟩ = some (.int .u8 (t[t.length - 1].toNat : Int)) := (B5.cell (p := ⟨b, _, none⟩) hbl).trans (HC.out _ (by omega))
  obtain ⟨by_, oy, rfl, hby, hcy⟩ := Y5.1 (by rw [HYL.out]; omega)
  have SAM : Hid (Calls Try.prog 16 #[.slice ax n cx, .slice (some ⟨by_, oy, none⟩) n cy, .int .i64 0] w5 fun e w' => e = .returned (.bool true) ∧ ∃ m, w' = w5.drewN m) := Lib.hid (by
    have hxl := HXL.out
    have hyl := HYL.out
    refine same_q xs (ys.take n) 0 n n _ _ cx cy w5 hxl (by simp; omega) ?_ X5 (Y5.take n) ?_ (by omega)
    · rw [map_shift_zero, List.map_take, HXM.out, HYM.out, HLY.out, List.take_left' HN.out.symm]
    · intro x hx
      rw [HXM.out] at hx
      exact offs_le t (by omega) x hx)
  have hyl := HYL.out
  have hyn : (ys[n]'(by omega)).ln = ⟨t.length, [], true⟩ := by
    have e := congrArg (fun l => l[n]?) HYM.out
    rw [HLY.out] at e
    simpa [HN.out, show (linesOf t).length < ys.length by rw [← HN.out]; omega] using e
  obtain ⟨y0, y1, y2⟩ := hcy n (by omega)
  rw [hyn] at y0 y1 y2
  generalize (ys[n]'(by omega)).a = A2 at *
  generalize (ys[n]'(by omega)).cap = C2 at *
  simp only [List.length_nil] at y0 y1 y2
  have d4 : (((n : Int) + 1) == ((n : Int) + 1)) = true := by simp
  have d5 : ((t.length : Int) == (t.length : Int)) = true := by simp
  clear hcy hyn X5 Y5 HXL HYL HXM HYM HLY HLY1 HN hyl
  go_wp2_with (go_at_call 16; refine SAM.out.mono ?_; rintro e w6 ⟨rfl, q, rfl⟩)
  go_ret
  exact ⟨rfl, below_drews B5 _⟩

set_option maxRecDepth 100000 in
set_option maxHeartbeats 4000000 in
theorem walk (w : World) (t : List UInt8) (a : Option Addr) (ca : Nat) (hm : t.length ≤ maxLen) (ha : Bs w w.heap.size a t) (hna : a = none → ca = 0) :
    Calls Try.prog 8 #[.slice a t.length ca] w fun e w' => e = .returned (.bool true) ∧ Below w.heap.size w w' := by
  unfold maxLen at hm
  by_cases hs : t.length ≤ 800
  · cases ho : openB t with
    | true => exact opened w t a ca ha hna hs ho
    | false =>
      rcases Nat.eq_zero_or_pos t.length with h0 | h0
      · exact shutNone w t a ca ha hna hs ho h0
      · exact shutSome w t a ca ha hna hs ho h0
  · have d1 : decide ((800 : Int) < (t.length : Int)) = true := decide_eq_true (by omega)
    go_enter Try.func8, Try.ntmps8
    go_wp2_with fail
    go_at_call 9
    refine (awake_any w).mono ?_
    rintro e w1 ⟨rfl, hb1⟩
    go_wp2
    go_ret
    exact ⟨rfl, hb1⟩
end Go.Proofs.Ytcieikibfmelkaa.linesLast
