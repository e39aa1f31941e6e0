/- fronts. -/
import Derived.Test.YtidclldacbelhaaIa
namespace Go.Proofs.Ytidclldacbelhaa.Cut
open Go.RowKit Go.Maps Go.Proofs.Ytidclldacbelhaa.Crt Go.Proofs.Ytidclldacbelhaa.Suf
set_option maxRecDepth 100000
set_option linter.unusedVariables false

def GivesFronts (w : World) (s : Tx) (e : Ending) (w' : World) : Prop :=
  ∃ g, w.heap.size ≤ g ∧ e = .returned (.slice (some ⟨g, 0, none⟩) s.length s.length) ∧ w'.heap[g]? = some (.cells (icells (zt s s.length)) 3 (0, 0)) ∧ Below w.heap.size w w'
set_option maxHeartbeats 8000000 in
theorem fronts_any (w : World) (s : Tx) (a : Option Addr) (cap : Nat) (ha : Bs w w.heap.size a s) (hl : s.length ≤ 1000000) :
    Calls Try.prog 19 #[.slice a s.length cap] w (GivesFronts w s) := by
  have HA := Lib.hid ha
  clear ha
  obtain ⟨i0, hi, hz0, hz1, hz2⟩ := info_parts Lnk.info3
  go_enter Try.func19, Try.ntmps19
  go_wp2_with (at_make; refine wpList_make_full _ rfl _ _ 43 rfl w.heap.size 3 i0 (.int .i64 0) 1 Lnk.und32 hi hz0 hz1 .i64 .i64 _ _ s.length rfl rfl (by simp) (by simp) (by rw [hz2]; omega) (by unfold maxLen; omega) (Nat.le_refl _) ?_; intro w1 hown hg1; have HR := Lib.hid (made_row hown); have HB := Lib.hid ((Below.refl w.heap.size w).grown hg1 (Nat.le_refl _) (fun k hk => by cases hk)); clear hown hg1)
  rw [← zt_start] at HR
  generalize hge : w.heap.size = g at *
  have HGE := Lib.hid hge
  clear hge
  go_loopw [4, 5, 6] (fun vf vt vp wr => ∃ f t k : Nat, 1 ≤ k ∧ (k ≤ s.length ∨ k = 1) ∧ vf = .int .i64 (f : Int) ∧ vt = .int .i64 (t : Int) ∧ vp = .int .i64 (k : Int) ∧ Box s k f t ∧ wr.heap[g]? = some (.cells (icells (zt s k)) 3 (0, 0)) ∧ Below g w wr) (fun _ _ vp _ => s.length + 1 - (intOf vp).toNat)
  case atStart => exact ⟨0, 0, 1, Nat.le_refl _, .inr rfl, rfl, rfl, rfl, box_start s 1, HR.out, HB.out⟩
  case round =>
    obtain ⟨f, t, k, hk1, hk2, rfl, rfl, rfl, hbox, hr, hbel⟩ := hrel
    have HR2 := Lib.hid hr
    have HB2 := Lib.hid hbel
    have HX := Lib.hid hbox
    clear hr hbel
    by_cases hlt : k < s.length
    · have hkl : (k : Int) < (s.length : Int) := by omega
      obtain ⟨htl, hfk, _⟩ := hbox
      have HZL := Lib.hid (zf_le s k)
      obtain ⟨Z, hZ⟩ : ∃ Z, Z = zf s k := ⟨_, rfl⟩
      rw [← hZ] at HZL
      have hZl := HZL.out
      have HA2 : Hid (∀ X, Below g w X → Bs X X.heap.size a s) := Lib.hid fun X hX => (HA.out.keep hX).more (by have := hX.size; have := HGE.out; omega)
      have hold : ∀ X : World, X.heap[g]? = some (.cells (icells (zt s k)) 3 (0, 0)) → ∃ x, X.cell? ⟨g, k, none⟩ = some (.int .i64 x) := fun X hX => ⟨_, by
        rw [cell_of_row X g _ _ 3 (0, 0) hX, icells_at _ k (by rw [zt_length]; exact hlt)]⟩
      have HOLD := Lib.hid hold
      clear hold
      by_cases hkt : k < t
      · have hkt2 : (k : Int) < (t : Int) := by omega
        obtain ⟨D, hD⟩ : ∃ D, D = k - f := ⟨_, rfl⟩
        obtain ⟨E, hE⟩ : ∃ E, E = t - k := ⟨_, rfl⟩
        have hwD : IntKind.i64.wrap ((k : Int) - (f : Int)) = (D : Int) := by rw [IntWalk.i64_in _ (by omega)]; omega
        have hwE : IntKind.i64.wrap ((t : Int) - (k : Int)) = (E : Int) := by rw [IntWalk.i64_in _ (by omega)]; omega
        have hDl : (D : Int) < (s.length : Int) := by omega
        have hcD : wr.cell? ⟨g, D, none⟩ = some (.int .i64 (zf s D : Int)) := by
          rw [cell_of_row wr g _ _ 3 (0, 0) HR2.out, icells_at _ D (by rw [zt_length]; omega), zt_at s k D _ (by omega) (by omega)]
        have hkn := HX.out.known hkt
        rw [← hD, ← hE, ← hZ] at hkn
        obtain ⟨Y, hY⟩ : ∃ Y, Y = zf s D := ⟨_, rfl⟩
        rw [← hY] at hcD hkn
        obtain ⟨K, hK⟩ : ∃ K, K = min Y E := ⟨_, rfl⟩
        rw [← hK] at hkn
        have hmin : min (Y : Int) (E : Int) = (K : Int) := by omega
        obtain ⟨P, hP⟩ : ∃ P, P = k + K := ⟨_, rfl⟩
        obtain ⟨L, hL⟩ : ∃ L, L = s.length - k := ⟨_, rfl⟩
        obtain ⟨M, hM⟩ : ∃ M, M = L - K := ⟨_, rfl⟩
        have hwP : IntKind.i64.wrap ((k : Int) + (K : Int)) = (P : Int) := by rw [IntWalk.i64_in _ (by omega)]; omega
        have hwL : IntKind.i64.wrap ((s.length : Int) - (k : Int)) = (L : Int) := by rw [IntWalk.i64_in _ (by omega)]; omega
        have hwM : IntKind.i64.wrap ((L : Int) - (K : Int)) = (M : Int) := by rw [IntWalk.i64_in _ (by omega)]; omega
        have hag := agr_agr s M K P
        obtain ⟨R, hR⟩ : ∃ R, R = agr s K P M := ⟨_, rfl⟩
        have hzm : zf s k = K + R := zf_more (by omega) (by rw [← hL, ← hP, ← hM, hR]; exact hag)
        rw [← hZ] at hzm
        have hwR : IntKind.i64.wrap ((K : Int) + (R : Int)) = (Z : Int) := by rw [IntWalk.i64_in _ (by omega)]; omega
        have HRUN := Lib.hid (run_any wr s a cap (HA2.out wr HB2.out) hl K P M (by omega) (by omega))
        rw [← hR] at HRUN
        have HZ := Lib.hid hZ
        have HH := Lib.hid (And.intro hk1 hlt)
        clear hZ hD hE hY hK hP hL hM hag hR hzm hkn htl hfk
        by_cases hpt : t < k + Z
        · have hpt2 : (t : Int) < (k : Int) + (Z : Int) := by omega
          have HN := Lib.hid (Box.new (s := s) HH.out.1 (by omega) HZ.out)
          go_wp2_with ((go_at_call 16; refine HRUN.out.mono ?_); rintro e w3 ⟨rfl, hd3⟩; obtain ⟨q3, hq3⟩ := hd3; have HR3 : Hid (w3.heap[g]? = some (.cells (icells (zt s k)) 3 (0, 0))) := Lib.hid (by rw [hq3]; exact HR2.out); have HB3 : Hid (Below g w w3) := Lib.hid (by rw [hq3]; exact below_drews HB2.out q3); clear hq3; obtain ⟨xo, hxo⟩ := HOLD.out w3 HR3.out; have hfz := row_frozen HR3.out k)
          exact ⟨⟨k, k + Z, k + 1, by omega, .inl (by have := HH.out.2; omega), rfl, by go_num, by go_num, HN.out, by rw [zt_next s k HH.out.1, ← HZ.out]; exact row_put HR3.out _ rfl, HB3.out.setCell (p := ⟨g, k, none⟩) (Nat.le_refl _) _⟩, by simp [intOf]; omega⟩
        · have hpt2 : ¬ (t : Int) < (k : Int) + (Z : Int) := by omega
          go_wp2_with ((go_at_call 16; refine HRUN.out.mono ?_); rintro e w3 ⟨rfl, hd3⟩; obtain ⟨q3, hq3⟩ := hd3; have HR3 : Hid (w3.heap[g]? = some (.cells (icells (zt s k)) 3 (0, 0))) := Lib.hid (by rw [hq3]; exact HR2.out); have HB3 : Hid (Below g w w3) := Lib.hid (by rw [hq3]; exact below_drews HB2.out q3); clear hq3; obtain ⟨xo, hxo⟩ := HOLD.out w3 HR3.out; have hfz := row_frozen HR3.out k)
          exact ⟨⟨f, t, k + 1, by omega, .inl (by have := HH.out.2; omega), rfl, rfl, by go_num, HX.out.later, by rw [zt_next s k HH.out.1, ← HZ.out]; exact row_put HR3.out _ rfl, HB3.out.setCell (p := ⟨g, k, none⟩) (Nat.le_refl _) _⟩, by simp [intOf]; omega⟩
      · have hkt2 : ¬ (k : Int) < (t : Int) := by omega
        obtain ⟨L, hL⟩ : ∃ L, L = s.length - k := ⟨_, rfl⟩
        have hwL : IntKind.i64.wrap ((s.length : Int) - (k : Int)) = (L : Int) := by rw [IntWalk.i64_in _ (by omega)]; omega
        have HRUN : Hid (Calls Try.prog 16 #[.func (.func 17) #[.slice a s.length cap] #[], .int .i64 0, .int .i64 (k : Int), .int .i64 (L : Int)] wr fun e w' => e = .returned (.int .i64 (Z : Int)) ∧ Drew wr w') := Lib.hid (by
          have h := run_any wr s a cap (HA2.out wr HB2.out) hl 0 k L (by omega) (by omega)
          have e : agr s 0 k L = Z := by rw [hZ, hL]; rfl
          rw [e] at h
          exact h)
        have hLl : L ≤ s.length := by omega
        have hLi : (L : Int) ≤ (s.length : Int) := by omega
        have hwL0 : IntKind.i64.wrap (L : Int) = (L : Int) := by rw [IntWalk.i64_in _ (by omega)]
        have hwk0 : IntKind.i64.wrap (k : Int) = (k : Int) := by rw [IntWalk.i64_in _ (by omega)]
        have hwZ0 : IntKind.i64.wrap (Z : Int) = (Z : Int) := by rw [IntWalk.i64_in _ (by omega)]
        have HZ := Lib.hid hZ
        have HH := Lib.hid (And.intro hk1 hlt)
        clear hZ hL htl hfk
        by_cases hpt : t < k + Z
        · have hpt2 : (t : Int) < (k : Int) + (Z : Int) := by omega
          have HN := Lib.hid (Box.new (s := s) HH.out.1 (by omega) HZ.out)
          go_wp2_with ((go_at_call 16; refine HRUN.out.mono ?_); rintro e w3 ⟨rfl, hd3⟩; obtain ⟨q3, hq3⟩ := hd3; have HR3 : Hid (w3.heap[g]? = some (.cells (icells (zt s k)) 3 (0, 0))) := Lib.hid (by rw [hq3]; exact HR2.out); have HB3 : Hid (Below g w w3) := Lib.hid (by rw [hq3]; exact below_drews HB2.out q3); clear hq3; obtain ⟨xo, hxo⟩ := HOLD.out w3 HR3.out; have hfz := row_frozen HR3.out k)
          exact ⟨⟨k, k + Z, k + 1, by omega, .inl (by have := HH.out.2; omega), rfl, by go_num, by go_num, HN.out, by rw [zt_next s k HH.out.1, ← HZ.out]; exact row_put HR3.out _ rfl, HB3.out.setCell (p := ⟨g, k, none⟩) (Nat.le_refl _) _⟩, by simp [intOf]; omega⟩
        · have hpt2 : ¬ (t : Int) < (k : Int) + (Z : Int) := by omega
          go_wp2_with ((go_at_call 16; refine HRUN.out.mono ?_); rintro e w3 ⟨rfl, hd3⟩; obtain ⟨q3, hq3⟩ := hd3; have HR3 : Hid (w3.heap[g]? = some (.cells (icells (zt s k)) 3 (0, 0))) := Lib.hid (by rw [hq3]; exact HR2.out); have HB3 : Hid (Below g w w3) := Lib.hid (by rw [hq3]; exact below_drews HB2.out q3); clear hq3; obtain ⟨xo, hxo⟩ := HOLD.out w3 HR3.out; have hfz := row_frozen HR3.out k)
          exact ⟨⟨f, t, k + 1, by omega, .inl (by have := HH.out.2; omega), rfl, rfl, by go_num, HX.out.later, by rw [zt_next s k HH.out.1, ← HZ.out]; exact row_put HR3.out _ rfl, HB3.out.setCell (p := ⟨g, k, none⟩) (Nat.le_refl _) _⟩, by simp [intOf]; omega⟩
    · have hkl : ¬ (k : Int) < (s.length : Int) := by omega
      have HF : Hid (zt s k = zt s s.length) := Lib.hid (zt_full s k (by omega))
      clear hbox
      go_wp2
      go_ret
      exact ⟨g, by rw [HGE.out]; exact Nat.le_refl _, rfl, by rw [← HF.out]; exact HR2.out, by rw [HGE.out]; exact HB2.out⟩
end Go.Proofs.Ytidclldacbelhaa.Cut
