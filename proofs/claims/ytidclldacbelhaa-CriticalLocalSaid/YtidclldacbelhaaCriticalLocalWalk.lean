/- The walk of CriticalLocal. -/
import Derived.Test.YtidclldacbelhaaIg
import Derived.Test.YtidclldacbelhaaIh
namespace Go.Proofs.Ytidclldacbelhaa.criticalLocal
open Go.Proofs.Ytidclldacbelhaa.Cut Go.Proofs.Ytidclldacbelhaa.Suf Go.Proofs.Ytidclldacbelhaa.Crt Go.RowKit Go.Maps
set_option maxRecDepth 100000
set_option linter.unusedVariables false
open Go.Proofs.Ytidclldacbelhaa.Reg

theorem fac_parts (s : Tx) : ∃ (i p : Nat) (b : Bool), facV s = .agg #[.int .i64 (i : Int), .int .i64 (p : Int), .bool b] ∧ (s ≠ [] → i = cutAt s ∧ p = movePer s ∧ b = smallB s) := by
  by_cases h : s = []
  · exact ⟨0, 0, false, by rw [facV, if_pos h]; rfl, fun h2 => absurd h h2⟩
  · exact ⟨cutAt s, movePer s, smallB s, by rw [facV, if_neg h], fun _ => ⟨rfl, rfl, rfl⟩⟩
set_option maxHeartbeats 8000000 in
theorem walk (w : World) (l : Tx) (a : Option Addr) (cap : Nat) (hm : l.length ≤ maxLen) (hb : Bs w w.heap.size a l) (hn0 : a = none → cap = 0) (hc0 : l.length ≤ cap) (x : Int) :
    Calls Try.prog 4 #[.slice a l.length cap, .int .i64 x] w fun e w' => e = .returned (.bool true) ∧ Below w.heap.size w w' := by
  have HAW := Lib.hid (awake_any w)
  have Hhb := Lib.hid hb
  clear hb
  go_enter Try.func4, Try.ntmps4
  go_wp2_with fail
  refine HAW.out.mono ?_
  rintro e' w1 ⟨rfl, hb1⟩
  have HW := Lib.hid hb1
  have HBl : Hid (∀ X, Below w1.heap.size w1 X → Bs X X.heap.size a l) := Lib.hid fun X hX => ((Hhb.out.keep hb1).keep (hX.mono hb1.size)).more (Nat.le_trans hb1.size hX.size)
  clear hb1 HAW Hhb
  by_cases h1 : l.length ≤ 200
  · have hkl : ¬ (200 : Int) < (l.length : Int) := by omega
    have HF : Hid (∀ X, Below w1.heap.size w1 X → Calls Try.prog 11 #[.slice a l.length cap, .int .i64 x] X fun e w' => e = .returned (.int .i64 (locI l x : Int)) ∧ Below X.heap.size X w') := Lib.hid (fun X hX => by
      by_cases hx : x < 0 ∨ (l.length : Int) < x
      · exact local_out X l a cap x hx
      · obtain ⟨k, rfl⟩ : ∃ k : Nat, x = (k : Int) := ⟨x.toNat, by omega⟩
        rw [locI_in l k (by omega)]
        exact local_in X l a cap (HBl.out X hX) hc0 hn0 (by omega) k (by omega))
    have HR : Hid (∀ X, Calls Try.prog 12 #[.string (str l), .int .i64 x] X fun e w' => e = .returned (.int .i64 (locI l x : Int)) ∧ Drew X w') := Lib.hid (fun X => by
      by_cases hx : x < 0 ∨ (l.length : Int) < x
      · exact rlocal_out X l x (by omega) hx
      · obtain ⟨k, rfl⟩ : ∃ k : Nat, x = (k : Int) := ⟨x.toNat, by omega⟩
        rw [locI_in l k (by omega)]
        exact rlocal_in X l (by omega) k (by omega))
    obtain ⟨V, hV⟩ : ∃ V, V = locI l x := ⟨_, rfl⟩
    rw [← hV] at HF HR
    clear hV hn0 hc0
    have hself : ((V : Int) == (V : Int)) = true := by simp
    have HB0 := Lib.hid (Below.refl w1.heap.size w1)
    go_wp2_with fail
    refine wp_region_held_drew (S := fun w' => Below w1.drew.heap.size w1.drew w') (by kernel_rfl) (Below.refl _ _) (fun hH0 => ?_)
    have B0 := Lib.hid (below_drews HB0.out 1)
    change Hid (Below _ _ w1.drew) at B0
    generalize w1.drew = x0 at *
    refine held_take (i := 0) (d := 12) (oi := _) (v := ?_) rfl rfl (by kernel_rfl) (by kernel_rfl) (by kernel_rfl) (fun _ _ _ h => h) (Or.inl ⟨by rfl, ?_⟩) (by assumption) ?_
    rotate_left
    · (intro w hSw; clear hSw; go_simp; (try with_reducible rfl))
    simp only [Act.put, List.setIfInBounds_toArray, List.set_cons_zero, List.set_cons_succ]
    refine held_take (i := 1) (d := 13) (oi := _) (v := ?_) rfl rfl (by kernel_rfl) (by kernel_rfl) (by kernel_rfl) (fun _ _ _ h => h) (Or.inl ⟨by rfl, ?_⟩) (by assumption) ?_
    rotate_left
    · (intro w hSw; clear hSw; go_simp; (try with_reducible rfl))
    simp only [Act.put, List.setIfInBounds_toArray, List.set_cons_zero, List.set_cons_succ]
    refine held_take (i := 3) (d := 15) (oi := _) (v := ?_) rfl rfl (by kernel_rfl) (by kernel_rfl) (by kernel_rfl) (fun _ _ _ h => h) (Or.inl ⟨by rfl, ?_⟩) (by assumption) ?_
    rotate_left
    · (intro w hSw; clear hSw; go_simp; (try with_reducible rfl))
    simp only [Act.put, List.setIfInBounds_toArray, List.set_cons_zero, List.set_cons_succ]
    refine held_take (i := 5) (d := 17) (oi := _) (v := ?_) rfl rfl (by kernel_rfl) (by kernel_rfl) (by kernel_rfl) (fun _ _ _ h => h) (Or.inl ⟨by rfl, ?_⟩) (by assumption) ?_
    rotate_left
    · (intro w hSw; clear hSw; go_simp; (try with_reducible rfl))
    simp only [Act.put, List.setIfInBounds_toArray, List.set_cons_zero, List.set_cons_succ]
    have HCV := Lib.hid (fun w' (h : Below x0.heap.size x0 w') => str_of_bs cap (HBl.out w' (B0.out.trans (h.mono B0.out.size))))
    refine held_take (i := 4) (d := 16) (oi := _) (v := ?_) rfl rfl (by kernel_rfl) (by kernel_rfl) (by kernel_rfl) (fun _ _ _ h => h) (Or.inl ⟨by rfl, ?_⟩) (by assumption) ?_
    rotate_left
    · (intro w hSw; have hcvw := HCV.out w hSw; clear hSw; go_simp; (try with_reducible rfl))
    simp only [Act.put, List.setIfInBounds_toArray, List.set_cons_zero, List.set_cons_succ]
    refine wpAnyH_ready (rs := [2]) (by kernel_rfl) (by simp) ?_
    refine AllReadyH.cons rfl (fun K hK => ?_) AllReadyH.nil
    go_simp
    go_wp2_with (go_at_call 11; (with_reducible refine (HF.out _ B0.out).mono ?_); rintro e x1 ⟨rfl, hb⟩)
    refine hK.out _ _ hb (fun _ => ?_)
    have B1 := Lib.hid (B0.out.trans (hb.mono B0.out.size))
    refine wpAnyH_more (S' := fun w' => Below x1.heap.size x1 w') (fun w' h => hb.trans (h.mono hb.size)) _ _ _ _ ?_
    have hH1 : Below x1.heap.size x1 x1 := Below.refl _ _
    clear hK K hH0 hb B0
    refine wpAnyH_ready (rs := [6]) (by kernel_rfl) (by simp) ?_
    refine AllReadyH.cons rfl (fun K hK => ?_) AllReadyH.nil
    go_simp
    go_wp2_with (go_at_call 12; (with_reducible refine (HR.out x1).mono ?_); rintro e x' ⟨rfl, q, rfl⟩)
    have hb : Below x1.heap.size x1 (x1.drewN q) := below_drews (Below.refl _ _) q
    generalize x1.drewN q = x2 at *
    refine hK.out _ _ hb (fun _ => ?_)
    have B2 := Lib.hid (B1.out.trans (hb.mono B1.out.size))
    refine wpAnyH_more (S' := fun w' => Below x2.heap.size x2 w') (fun w' h => hb.trans (h.mono hb.size)) _ _ _ _ ?_
    have hH2 : Below x2.heap.size x2 x2 := Below.refl _ _
    clear hK K hH1 hb B1
    refine held_take (i := 7) (d := 19) (oi := _) (v := ?_) rfl rfl (by kernel_rfl) (by kernel_rfl) (by kernel_rfl) (fun _ _ _ h => h) (Or.inl ⟨by rfl, ?_⟩) (by assumption) ?_
    rotate_left
    · (intro w hSw; clear hSw; go_simp; (try with_reducible rfl))
    simp only [Act.put, List.setIfInBounds_toArray, List.set_cons_zero, List.set_cons_succ]
    refine held_take (i := 8) (d := 4) (oi := _) (v := ?_) rfl rfl (by kernel_rfl) (by kernel_rfl) (by kernel_rfl) (fun _ _ _ h => h) (Or.inl ⟨by rfl, ?_⟩) (by assumption) ?_
    rotate_left
    · (intro w hSw; clear hSw; go_simp; (try with_reducible rfl))
    simp only [Act.put, List.setIfInBounds_toArray, List.set_cons_zero, List.set_cons_succ]
    refine wpAnyH_done (by kernel_rfl) ?_ _
    go_wp2
    go_ret
    exact ⟨rfl, HW.out.trans (B2.out.mono HW.out.size)⟩
  · have hkl : (200 : Int) < (l.length : Int) := by omega
    go_wp2
    go_ret
    exact ⟨rfl, HW.out⟩
end Go.Proofs.Ytidclldacbelhaa.criticalLocal
