/- The contracts of Sort and Merge. -/
import Derived.Test.YtkooanahgffjgaaPd
namespace Go.Proofs.Ytkooanahgffjgaa.Prs
open Go.RowKit
set_option maxRecDepth 100000
attribute [local go_sem ↓] Go.wp_at_zero Go.wp_at_succ

theorem sort_short (xs : List Pr) (a : Option Addr) (ca : Nat) (w : World) (h2 : xs.length < 2) (hx : Ps w w.heap.size a xs) (hna : a = none → ca = 0) :
    Calls Try.prog 35 #[.slice a xs.length ca] w (Gives w (norm xs)) := by
  have hd : decide (xs.length < 2) = true := by simpa using h2
  rw [norm_short xs h2]
  go_enter Try.func35, Try.ntmps35
  go_wp2_with (go_at_call 50; refine (clone_any xs a ca w (by omega) hx hna).mono ?_; rintro e w1 ⟨a1, c1, rfl, hc1, hn1, hp1, hb1⟩)
  go_ret
  exact ⟨a1, c1, rfl, hc1, hn1, hp1, hb1⟩
set_option maxRecDepth 100000 in
set_option maxHeartbeats 4000000 in
theorem sort_any (N : Nat) : ∀ (xs : List Pr) (a : Option Addr) (ca : Nat) (w : World), xs.length ≤ N → xs.length ≤ 1000000 → Ps w w.heap.size a xs → xs.length ≤ ca → (a = none → ca = 0) →
    Calls Try.prog 35 #[.slice a xs.length ca] w (Gives w (norm xs)) := by
  induction N with
  | zero =>
    intro xs a ca w hN _ hx _ hna
    exact sort_short xs a ca w (by omega) hx hna
  | succ N ih =>
    intro xs a ca w hN hl hx hca hna
    by_cases h2 : xs.length < 2
    · exact sort_short xs a ca w h2 hx hna
    · have hd : decide (xs.length < 2) = false := by simpa using h2
      obtain ⟨b, o, rfl, hb, _⟩ := hx (by omega)
      obtain ⟨h, hh⟩ : ∃ h, h = xs.length / 2 := ⟨_, rfl⟩
      have hdiv : (xs.length : Int) / 2 = (h : Int) := by omega
      have hh1 : 0 < h := by omega
      have hh2 : h < xs.length := by omega
      have HH := Lib.hid hh
      clear hh
      have i1 : (0 : Int) ≤ (h : Int) := by omega
      have i2 : (h : Int) ≤ (xs.length : Int) := by omega
      have i3 : (h : Int) ≤ (ca : Int) := by omega
      have i4 : (xs.length : Int) ≤ (ca : Int) := by omega
      have n1 : ¬ ca = h := by omega
      have n2 : ¬ h = ca := by omega
      have S1 : Hid (∀ w', Below w.heap.size w w' → Calls Try.prog 35 #[.slice (some ⟨b, o, none⟩) h ca] w' (Gives w' (norm (xs.take h)))) := Lib.hid (fun w' hb' => by
        have hlen : (xs.take h).length = h := by simp; omega
        have := ih (xs.take h) (some ⟨b, o, none⟩) ca w' (by omega) (by omega) (((hx.keep hb').more hb'.size).take h) (by omega) (fun e => by cases e)
        rwa [hlen] at this)
      have S2 : Hid (∀ w', Below w.heap.size w w' → Calls Try.prog 35 #[.slice (some ⟨b, o + h * 2, none⟩) (xs.length - h) (ca - h)] w' (Gives w' (norm (xs.drop h)))) := Lib.hid (fun w' hb' => by
        have hlen : (xs.drop h).length = xs.length - h := by simp
        have := ih (xs.drop h) (some ⟨b, o + h * 2, none⟩) (ca - h) w' (by omega) (by omega) (((hx.keep hb').more hb'.size).drop h) (by omega) (fun e => by cases e)
        rwa [hlen] at this)
      have HU := Lib.hid (norm_halves xs h)
      have l1 := norm_length (xs.take h)
      have l2 := norm_length (xs.drop h)
      simp only [List.length_take, List.length_drop] at l1 l2
      have l3 : (norm (xs.take h)).length + (norm (xs.drop h)).length ≤ 1000000 := by omega
      have hbd : Below w.heap.size w w.drew := below_drews (Below.refl _ _) 1
      clear hx ih l1 l2
      go_enter Try.func35, Try.ntmps35
      go_wp2
      go_region_with (first
        | (go_at_call 35; ((with_reducible refine (S1.out _ hbd).mono ?_)); rintro e w1 ⟨a1, c1, rfl, hc1, hn1, hp1, hb1⟩; have hbw1 := hbd.trans (hb1.mono hbd.size))
        | (go_at_call 35; ((with_reducible refine (S2.out _ hbw1).mono ?_)); rintro e w2 ⟨a2, c2, rfl, hc2, hn2, hp2, hb2⟩; have hbw2 := hbw1.trans (hb2.mono hbw1.size); have hp1' := hp1.keeps hb2)
        | (go_at_call 51; ((with_reducible refine (unite_any _ _ a1 a2 c1 c2 w2 l3 hp1' hp2 hc1 hc2 hn1 hn2).mono ?_)); rintro e w3 ⟨a3, c3, rfl, hc3, hn3, hp3, hb3⟩; have hbw3 := hbw2.trans (hb3.mono hbw2.size)))
      go_wp2
      go_ret
      rw [← HU.out]
      exact ⟨a3, c3, rfl, hc3, hn3, hp3, hbw3⟩
theorem sort_all (xs : List Pr) (a : Option Addr) (ca : Nat) (w : World) (hl : xs.length ≤ 1000000) (hx : Ps w w.heap.size a xs) (hca : xs.length ≤ ca) (hna : a = none → ca = 0) :
    Calls Try.prog 35 #[.slice a xs.length ca] w (Gives w (norm xs)) := sort_any xs.length xs a ca w (Nat.le_refl _) hl hx hca hna
end Go.Proofs.Ytkooanahgffjgaa.Prs
