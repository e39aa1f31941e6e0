/- The contract of the generic function that makes one rising row of two. -/
import Derived.Test.YtkooanahgffjgaaPc
namespace Go.Proofs.Ytkooanahgffjgaa.Prs
open Go.RowKit
set_option maxRecDepth 100000
attribute [local go_sem ↓] eql_pairs neq_pairs

def slen : Value → Nat
  | .slice _ n _ => n
  | _ => 0
/-- What is left of both, and what has been put together of them. -/
def United (w : World) (xs ys : List Pr) (s0 s1 s7 : Value) (wr : World) : Prop :=
  ∃ (xr yr out : List Pr) (A B : Option Addr) (ca cb : Nat), s0 = .slice A xr.length ca ∧ s1 = .slice B yr.length cb ∧ (A = none → ca = 0) ∧ (B = none → cb = 0) ∧ xr.length ≤ ca ∧ yr.length ≤ cb ∧
    Ps w w.heap.size A xr ∧ Ps w w.heap.size B yr ∧ uni xs ys = out ++ uni xr yr ∧ out.length + xr.length + yr.length ≤ xs.length + ys.length ∧ wr.ownsRow w.heap.size 52 2 s7 out.length (cellsOf out) ∧ Below w.heap.size w wr
theorem Ps.tail {W : World} {B b o : Nat} {x : Pr} {xs : List Pr} (h : Ps W B (some ⟨b, o, none⟩) (x :: xs)) {c : Nat} (hc : xs.length + 1 ≤ c) : Ps W B (if c = 1 then some ⟨b, o, none⟩ else some ⟨b, o + 2, none⟩) xs := by
  split
  · obtain rfl : xs = [] := List.eq_nil_of_length_eq_zero (by omega)
    exact ps_nil _ _ _
  · exact h.drop 1
theorem tail_some {c b o : Nat} {P : Prop} (h : (if c = 1 then some (⟨b, o, none⟩ : Addr) else some ⟨b, o + 2, none⟩) = none) : P := by
  split at h <;> cases h
theorem own_snoc {W : World} {base : Nat} {v : Value} {out l : List Pr} (h : W.ownsRow base 52 2 v (out.length + l.length) (cellsOf (out ++ l))) : W.ownsRow base 52 2 v (out ++ l).length (cellsOf (out ++ l)) := by
  rw [List.length_append]; exact h
set_option maxRecDepth 100000 in
set_option maxHeartbeats 4000000 in
theorem unite_any (xs ys : List Pr) (a b : Option Addr) (ca cb : Nat) (w : World) (hl : xs.length + ys.length ≤ 1000000) (hx : Ps w w.heap.size a xs) (hy : Ps w w.heap.size b ys)
    (hca : xs.length ≤ ca) (hcb : ys.length ≤ cb) (hna : a = none → ca = 0) (hnb : b = none → cb = 0) :
    Calls Try.prog 51 #[.slice a xs.length ca, .slice b ys.length cb, .func (.func 52) #[] #[]] w (Gives w (uni xs ys)) := by
  obtain ⟨i0, hi, hz0, hz1, hz2⟩ := info_parts info27
  go_enter Try.func51, Try.ntmps51
  go_wp2_with (at_make; refine wpList_make_own w rfl _ _ 33 rfl w.heap.size 52 i0 (.agg #[.int .i64 0, .int .i64 0]) 2 Try.underlying33 hi hz0 hz1 .i64 .i64 _ (xs.length + ys.length) rfl rfl (by simp) (by rw [hz2]; omega) (by unfold maxLen; omega) (Nat.le_refl _) ?_; intro w1 hown hg1)
  have hb1 : Below w.heap.size w w1 := (Below.refl _ _).grown hg1 (Nat.le_refl _) (fun k hk => by cases hk)
  clear hg1
  go_loopw [0, 1, 7] (fun s0 s1 s7 wr => United w xs ys s0 s1 s7 wr) (fun s0 s1 _ _ => slen s0 + slen s1)
  case atStart => exact ⟨xs, ys, [], a, b, ca, cb, rfl, rfl, hna, hnb, hca, hcb, hx, hy, rfl, by simp, hown, hb1⟩
  case round =>
    clear hx hy hown hb1 hna hnb hca hcb
    obtain ⟨xr, yr, out, A, B, ca', cb', rfl, rfl, hna, hnb, hca, hcb, hx, hy, hu, hlen, hown, hbel⟩ := hrel
    have HU := Lib.hid hu
    clear hu
    have hsz := hbel.size
    match xr, yr with
    | [], yr =>
      have HX := Lib.hid hx
      have HY := Lib.hid hy
      have HN := Lib.hid hna
      have HM := Lib.hid hnb
      clear hna hnb hx hy
      simp only [List.length_nil, Nat.add_zero] at hlen hca
      simp only [List.length_nil]
      go_wp2_with (first
        | (at_builtin; refine app_ps rfl (.tmp 65) (.tmp 66) rfl w.heap.size _ out.length out rfl hown A [] ca' w.heap.size rfl (HX.out.keep hbel) HN.out (by simp; omega) hsz ?_; intro v3 w3 hown3 hg3; have hb3 := app_below hbel hown hg3 hsz (Nat.le_refl _); have hs3 := hb3.size; have hown3' : w3.ownsRow w.heap.size 52 2 v3 out.length (cellsOf out) := by simpa using hown3)
        | (at_builtin; refine app_ps rfl (.tmp 68) (.tmp 69) rfl w.heap.size v3 out.length out rfl hown3' B yr cb' w.heap.size rfl (HY.out.keep hb3) HM.out (by omega) hs3 ?_; intro v4 w4 hown4 hg4; have hb4 := app_below hb3 hown3' hg4 hs3 (Nat.le_refl _)))
      go_ret
      have e : uni xs ys = out ++ yr := by rw [HU.out, uni_nil]
      rw [e]
      obtain ⟨a2, c2, rfl, h1, h2, h3⟩ := own_ps hown4 (by simp)
      exact ⟨a2, c2, rfl, h1, h2, h3, hb4⟩
    | x :: xr, [] =>
      have HX := Lib.hid hx
      have HY := Lib.hid hy
      have HN := Lib.hid hna
      have HM := Lib.hid hnb
      clear hna hnb hx hy
      simp only [List.length_cons, List.length_nil, Nat.add_zero] at hlen hca hcb
      simp only [List.length_cons, List.length_nil]
      go_wp2_with (first
        | (at_builtin; refine app_ps rfl (.tmp 65) (.tmp 66) rfl w.heap.size _ out.length out rfl hown A (x :: xr) ca' w.heap.size rfl (HX.out.keep hbel) HN.out (by simp; omega) hsz ?_; intro v3 w3 hown3 hg3; have hb3 := app_below hbel hown hg3 hsz (Nat.le_refl _); have hs3 := hb3.size; have hown3' := own_snoc hown3)
        | (at_builtin; refine app_ps rfl (.tmp 68) (.tmp 69) rfl w.heap.size _ (out ++ (x :: xr)).length (out ++ (x :: xr)) rfl hown3' B [] cb' w.heap.size rfl (HY.out.keep hb3) HM.out (by simp; omega) hs3 ?_; intro v4 w4 hown4 hg4; have hb4 := app_below hb3 hown3' hg4 hs3 (Nat.le_refl _)))
      go_ret
      have e : uni xs ys = out ++ (x :: xr) ++ [] := by rw [HU.out, uni_nil_right]; simp
      rw [e]
      obtain ⟨a2, c2, rfl, h1, h2, h3⟩ := own_ps hown4 (by simp)
      exact ⟨a2, c2, rfl, h1, h2, h3, hb4⟩
    | x :: xr, y :: yr =>
      obtain ⟨b1, o1, rfl, hb1, hc1⟩ := hx.keep hbel (by simp)
      obtain ⟨b2, o2, rfl, hb2, hc2⟩ := hy.keep hbel (by simp)
      have h1 := hc1 0 (by simp)
      have h2 := hc2 0 (by simp)
      simp only [Nat.zero_mul, Nat.add_zero, List.getElem_cons_zero] at h1 h2
      obtain ⟨h11, h12⟩ := h1
      obtain ⟨h21, h22⟩ := h2
      clear hc1 hc2
      simp only [List.length_cons] at hlen hca hcb
      by_cases he : x = y
      · subst he
        have ht : prEq x.s x.e x.s x.e = true := by rw [prEq_eq]; simp
        have HUN : Hid (uni xs ys = (out ++ [x]) ++ uni xr yr) := Lib.hid (by rw [HU.out, uni_same]; simp)
        simp only [List.length_cons]
        go_wp2
        go_quiet (fail)
        have hbel2 : Below w.heap.size w (wr.drewN nq) := below_drews hbel nq
        have hown2 : (wr.drewN nq).ownsRow w.heap.size 52 2 u7 out.length (cellsOf out) := hown
        have h11' : (wr.drewN nq).cell? ⟨b1, o1, none⟩ = some (.int .i64 x.s) := h11
        have h12' : (wr.drewN nq).cell? ⟨b1, o1 + 1, none⟩ = some (.int .i64 x.e) := h12
        have hs2 : w.heap.size ≤ (wr.drewN nq).heap.size := hsz
        generalize wr.drewN nq = w2 at *
        clear h11 h12 h21 h22 hown hbel ht
        go_wp2_with (at_builtin; refine app_ps rfl _ _ rfl w.heap.size _ out.length out rfl (hown2.alloc _) (some ⟨w2.heap.size, 0, none⟩) [x] 1 _ rfl (ps_one w2 x (0, 0)) (fun e => by cases e) (by simp; omega) (by simp; omega) ?_; intro v3 w3 hown3 hg3; have hb3 := app_below (hbel2.alloc hs2 _) (hown2.alloc _) hg3 (by simp; omega) (Nat.le_refl _))
        go_quiet (fail)
        go_roundw
        case rel =>
          (repeat apply Exists.intro)
          exact ⟨⟨xr, yr, out ++ [x], _, _, _, _, rfl, rfl, tail_some, tail_some, by omega, by omega, hx.tail hca, hy.tail hcb, HUN.out, by simp; omega, own_snoc hown3, below_drews hb3 nq⟩, rfl⟩
        case measure => simp [slen]; omega
      · have ht : prEq x.s x.e y.s y.e = false := by rw [prEq_eq]; simp [he]
        have HUL : Hid (lt x y = true → uni xs ys = (out ++ [x]) ++ uni xr (y :: yr)) := Lib.hid (fun h => by rw [HU.out, uni_lt x y xr yr he h]; simp)
        have HUG : Hid (lt x y = false → uni xs ys = (out ++ [y]) ++ uni (x :: xr) yr) := Lib.hid (fun h => by rw [HU.out, uni_gt x y xr yr he h]; simp)
        clear he
        simp only [List.length_cons]
        go_wp2
        go_quiet (fail)
        have hbel2 : Below w.heap.size w (wr.drewN nq) := below_drews hbel nq
        have hown2 : (wr.drewN nq).ownsRow w.heap.size 52 2 u7 out.length (cellsOf out) := hown
        have h11' : (wr.drewN nq).cell? ⟨b1, o1, none⟩ = some (.int .i64 x.s) := h11
        have h12' : (wr.drewN nq).cell? ⟨b1, o1 + 1, none⟩ = some (.int .i64 x.e) := h12
        have h21' : (wr.drewN nq).cell? ⟨b2, o2, none⟩ = some (.int .i64 y.s) := h21
        have h22' : (wr.drewN nq).cell? ⟨b2, o2 + 1, none⟩ = some (.int .i64 y.e) := h22
        have hs2 : w.heap.size ≤ (wr.drewN nq).heap.size := hsz
        generalize wr.drewN nq = w2 at *
        clear h11 h12 h21 h22 hown hbel ht
        go_wp2
        go_still_tail 7, (by kernel_rfl)
        change wpList _ _ _ _ _ w2.drew
        have hbel3 : Below w.heap.size w w2.drew := below_drews hbel2 1
        have hown3 : w2.drew.ownsRow w.heap.size 52 2 u7 out.length (cellsOf out) := hown2
        generalize w2.drew = w3 at *
        have hs3 := hbel3.size
        clear h11' h12' h21' h22' hown2 hbel2 hs2
        cases hc : lt x y
        · have HC := Lib.hid hc
          clear hc
          go_wp2_with (first
            | (go_at_call 52; refine (less_any x y w3).mono ?_; rintro e w4 ⟨rfl, hb4⟩; rw [HC.out]; have hown4 := own_keep hown3 hb4; have hbel4 := hbel3.trans (hb4.mono hs3); have hs4 := hbel4.size; obtain ⟨_, _, e4, _, hc4⟩ := hy.keep hbel4 (by simp); cases e4; have h2 := hc4 0 (by simp); simp only [Nat.zero_mul, Nat.add_zero, List.getElem_cons_zero] at h2; obtain ⟨h21, h22⟩ := h2; clear hc4)
            | (at_builtin; refine app_ps rfl _ _ rfl w.heap.size _ out.length out rfl (hown4.alloc _) (some ⟨w4.heap.size, 0, none⟩) [y] 1 _ rfl (ps_one w4 y (0, 0)) (fun e => by cases e) (by simp; omega) (by simp; omega) ?_; intro v5 w5 hown5 hg5; have hb5 := app_below (hbel4.alloc hs4 _) (hown4.alloc _) hg5 (by simp; omega) (Nat.le_refl _)))
          go_roundw
          case rel => exact ⟨x :: xr, yr, out ++ [y], _, _, _, _, rfl, rfl, hna, tail_some, by simp; omega, by omega, hx, hy.tail hcb, HUG.out HC.out, by simp; omega, own_snoc hown5, hb5⟩
          case measure => simp [slen]
        · have HC := Lib.hid hc
          clear hc
          go_wp2_with (first
            | (go_at_call 52; refine (less_any x y w3).mono ?_; rintro e w4 ⟨rfl, hb4⟩; rw [HC.out]; have hown4 := own_keep hown3 hb4; have hbel4 := hbel3.trans (hb4.mono hs3); have hs4 := hbel4.size; obtain ⟨_, _, e4, _, hc4⟩ := hx.keep hbel4 (by simp); cases e4; have h2 := hc4 0 (by simp); simp only [Nat.zero_mul, Nat.add_zero, List.getElem_cons_zero] at h2; obtain ⟨h21, h22⟩ := h2; clear hc4)
            | (at_builtin; refine app_ps rfl _ _ rfl w.heap.size _ out.length out rfl (hown4.alloc _) (some ⟨w4.heap.size, 0, none⟩) [x] 1 _ rfl (ps_one w4 x (0, 0)) (fun e => by cases e) (by simp; omega) (by simp; omega) ?_; intro v5 w5 hown5 hg5; have hb5 := app_below (hbel4.alloc hs4 _) (hown4.alloc _) hg5 (by simp; omega) (Nat.le_refl _)))
          go_roundw
          case rel => exact ⟨xr, y :: yr, out ++ [x], _, _, _, _, rfl, rfl, tail_some, hnb, by omega, by simp; omega, hx.tail hca, hy, HUL.out HC.out, by simp; omega, own_snoc hown5, hb5⟩
          case measure => simp [slen]
end Go.Proofs.Ytkooanahgffjgaa.Prs
