/- The contracts of Rising, Fits, Empties and slices.Clone. -/
import Derived.Test.YthcmioobldpbjaaPa
import Derived.StillTailTactics
import Derived.IntWalk
import Derived.Lib.SliceRun
namespace Go.Proofs.Ythcmioobldpbjaa
open Go.RowKit
attribute [local go_sem ↓] eql_pairs neq_pairs

set_option maxHeartbeats 1000000 in
theorem rising_any (xs : List Pr) (a : Option Addr) (ca : Nat) (w : World) (hl : xs.length ≤ 1000000000) (hx : Ps w w.heap.size a xs) :
    Calls Try.prog 14 #[.slice a xs.length ca] w fun e w' => e = .returned (.bool (rising xs)) ∧ Below w.heap.size w w' := by
  go_enter Try.func14, Try.ntmps14
  go_wp2
  go_loopw [3] (fun i wr => ∃ k : Nat, i = .int .i64 ((k : Int) + 1) ∧ (k = 0 ∨ k + 1 ≤ xs.length) ∧ (∀ j (h : j + 1 < xs.length), j < k → lt xs[j] xs[j + 1] = true) ∧ Below w.heap.size w wr) (fun i _ => xs.length - (intOf i).toNat)
  case atStart => exact ⟨0, rfl, .inl rfl, (fun _ _ h => absurd h (by omega)), Below.refl _ _⟩
  case round =>
    obtain ⟨k, rfl, hk, hall, hbel⟩ := hrel
    have HALL := Lib.hid hall
    have HK := Lib.hid hk
    have hk2 : k ≤ 1000000000 := by omega
    clear hall hk
    by_cases hlt : k + 1 < xs.length
    · obtain ⟨b1, o1, rfl, hb1, hc1⟩ := (hx.keep hbel) (by omega)
      obtain ⟨h11, h12⟩ := hc1 k (by omega)
      obtain ⟨h21, h22⟩ := hc1 (k + 1) hlt
      clear hc1
      have HNO := Lib.hid (rising_no xs k hlt)
      have HYES : Hid (lt xs[k] xs[k + 1] = true → ∀ j (h : j + 1 < xs.length), j < k + 1 → lt xs[j] xs[j + 1] = true) := Lib.hid (fun hc j h hj => by
        by_cases e : j = k
        · subst e; exact hc
        · exact HALL.out j h (by omega))
      have hkl : (k : Int) + 1 < (xs.length : Int) := by omega
      have hkl0 : (k : Int) < (xs.length : Int) := by omega
      have hk0 : (0 : Int) ≤ (k : Int) + 1 := by omega
      have ht1 : ((k : Int) + 1).toNat = k + 1 := by omega
      have hw : IntKind.i64.wrap (k : Int) = k := IntWalk.i64_in _ (by omega)
      go_wp2
      go_still_tail 9, (by kernel_rfl)
      change wpList _ _ _ _ _ wr.drew
      have hbel2 : Below w.heap.size w wr.drew := below_drews hbel 1
      generalize wr.drew = w2 at *
      have hs2 := hbel2.size
      clear h11 h12 h21 h22 ht1 hw
      generalize xs[k] = p at *
      generalize xs[k + 1] = q at *
      cases hc : lt p q
      · have HC := Lib.hid hc
        clear hc
        go_wp2_with (go_at_call 15; refine (less_any p q w2).mono ?_; rintro e w3 ⟨rfl, hb3⟩; rw [HC.out])
        go_ret
        exact ⟨ret_bool (HNO.out HC.out).symm, hbel2.trans (hb3.mono hs2)⟩
      · have HC := Lib.hid hc
        clear hc
        go_wp2_with (go_at_call 15; refine (less_any p q w2).mono ?_; rintro e w3 ⟨rfl, hb3⟩; rw [HC.out])
        go_roundw
        case rel => exact ⟨k + 1, by go_num, .inr (by omega), HYES.out HC.out, hbel2.trans (hb3.mono hs2)⟩
        case measure => simp [intOf]; omega
    · have hkl : ¬ (k : Int) + 1 < (xs.length : Int) := by omega
      go_wp2
      go_ret
      refine ⟨ret_bool (((rising_at xs).2 fun i h => HALL.out i h ?_).symm), hbel⟩
      omega

set_option maxHeartbeats 1000000 in
theorem fits_any (xs : List Pr) (a : Option Addr) (ca : Nat) (n : Int) (w : World) (hl : xs.length ≤ 1000000000) (hx : Ps w w.heap.size a xs) :
    Calls Try.prog 17 #[.slice a xs.length ca, .int .i64 n] w fun e w' => e = .returned (.bool (fits xs n)) ∧ Below w.heap.size w w' := by
  go_enter Try.func17, Try.ntmps17
  go_wp2
  go_loopw [9] (fun i wr => ∃ k : Nat, k ≤ xs.length ∧ i = .int .i64 (k : Int) ∧ fits (xs.take k) n = true ∧ Below w.heap.size w wr) (fun i _ => xs.length - (intOf i).toNat)
  case atStart => exact ⟨0, Nat.zero_le _, rfl, rfl, Below.refl _ _⟩
  case round =>
    obtain ⟨k, hk, rfl, hall, hbel⟩ := hrel
    have HALL := Lib.hid hall
    clear hall
    have hsz := hbel.size
    by_cases hlt : k < xs.length
    · obtain ⟨b1, o1, rfl, hb1, hc1⟩ := (hx.keep hbel) (by omega)
      obtain ⟨h11, h12⟩ := hc1 k (by omega)
      clear hc1
      have hkl : (k : Int) < (xs.length : Int) := by omega
      have HF : Hid (fit n xs[k] = !(decide (xs[k].s < 0) || decide (xs[k].s > xs[k].e) || decide (xs[k].e > n))) := Lib.hid rfl
      have HT := Lib.hid (fits_take_succ xs n k hlt)
      have HN := Lib.hid (fits_false xs n k hlt)
      generalize xs[k] = p at *
      go_wp2
      · rename_i h1
        go_ret
        exact ⟨ret_bool (HN.out (by rw [HF.out]; simp; omega)).symm, hbel.alloc hsz _⟩
      · rename_i h1
        refine ⟨⟨k + 1, by omega, by go_num, ?_, hbel.alloc hsz _⟩, by simp [intOf]; omega⟩
        rw [HT.out, HALL.out, HF.out]; simp; omega
      · rename_i h1 h2
        go_ret
        exact ⟨ret_bool (HN.out (by rw [HF.out]; simp; omega)).symm, hbel.alloc hsz _⟩
      · rename_i h1
        go_ret
        exact ⟨ret_bool (HN.out (by rw [HF.out]; simp; omega)).symm, hbel.alloc hsz _⟩
    · have hkl : ¬ (k : Int) < (xs.length : Int) := by omega
      go_wp2
      go_ret
      have e : xs.take k = xs := List.take_of_length_le (by omega)
      exact ⟨ret_bool (by rw [← HALL.out, e]), hbel⟩

theorem und22 : Try.prog.underlying 22 = some (.slice 27) := by kernel_rfl
theorem eql_nil22 : ∀ (w : World) (a : Option Addr) (n c n' c' : Nat), (binOp .eql 22 (.slice a n c) (.slice none n' c')).run Try.prog w = .ok (.bool a.isNone) w :=
  fun w a n c n' c' => Lib.run_eql_slice_nil w _ _ a n c n' c' und22
theorem ps_none {W : World} {B : Nat} {xs : List Pr} (h : Ps W B none xs) : xs = [] := by
  rcases Nat.eq_zero_or_pos xs.length with h0 | h0
  · exact List.eq_nil_of_length_eq_zero h0
  · obtain ⟨_, _, e, _⟩ := h h0; cases e
set_option maxHeartbeats 1000000 in
theorem clone_any (xs : List Pr) (a : Option Addr) (ca : Nat) (w : World) (hl : xs.length ≤ 1000000) (hx : Ps w w.heap.size a xs) (hn : a = none → ca = 0) :
    Calls Try.prog 19 #[.slice a xs.length ca] w (Gives w xs) := by
  have hnil := eql_nil22
  cases a with
  | none =>
    obtain rfl := ps_none hx
    obtain rfl := hn rfl
    go_enter Try.func19, Try.ntmps19
    go_wp2
    go_ret
    exact ⟨none, 0, rfl, Nat.zero_le _, fun _ => rfl, ps_nil _ _ _, Below.refl _ _⟩
  | some ad =>
    have hb0 : Below w.heap.size w (w.alloc (.cells #[] 27)) := (Below.refl _ _).alloc (Nat.le_refl _) _
    have HX : Hid (Ps (w.alloc (.cells #[] 27)) (w.alloc (.cells #[] 27)).heap.size (some ad) xs) := Lib.hid (hx.keeps hb0)
    have hm : (w.alloc (.cells #[] 27)).ownsRow w.heap.size 27 2 (.slice (some ⟨w.heap.size, 0, none⟩) 0 0) 0 (cellsOf []) := World.ownsRow_made w #[] 0 (Nat.le_refl _) (Nat.zero_le _) rfl
    clear hx
    go_enter Try.func19, Try.ntmps19
    go_wp2_with (at_builtin; refine app_ps rfl _ _ rfl w.heap.size _ 0 [] rfl hm (some ad) xs ca _ rfl HX.out (fun e => by cases e) (by omega) (by simp) ?_; intro v2 w2 hown2 hg2; have hb2 := app_below hb0 hm hg2 (by simp) (Nat.le_refl _))
    go_ret
    obtain ⟨a2, c2, rfl, h1, h2, h3⟩ := own_ps (xs := xs) hown2 (by simp)
    exact ⟨a2, c2, rfl, h1, h2, h3, hb2⟩
end Go.Proofs.Ythcmioobldpbjaa
