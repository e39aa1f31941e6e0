/- Factor. -/
import Derived.Test.YtidclldacbelhaaId
namespace Go.Proofs.Ytidclldacbelhaa.Cut
open Go.RowKit Go.Maps Go.Proofs.Ytidclldacbelhaa.Crt Go.Proofs.Ytidclldacbelhaa.Suf Go.Proofs.Ytidclldacbelhaa.Reg
set_option maxRecDepth 100000
set_option linter.unusedVariables false

theorem end_any (w : World) (s : Tx) (a : Option Addr) (cap : Nat) (ha : Bs w w.heap.size a s) (hl : s.length ≤ 1000000) (t : Bool) :
    Calls Try.prog 15 #[.slice a s.length cap, .bool t] w fun e w' => e = .returned (.agg #[.int .i64 (bestTo t s s.length : Int), .int .i64 (per (s.drop (bestTo t s s.length)) : Int), .bool false]) ∧ Below w.heap.size w w' := by
  have HM := Lib.hid (fun X (hX : Below w.heap.size w X) => max_any X s a cap ((ha.keep hX).more hX.size) hl t)
  clear ha
  obtain ⟨I, hI⟩ : ∃ I, I = bestTo t s s.length := ⟨_, rfl⟩
  rw [← hI] at HM ⊢
  obtain ⟨P, hP⟩ : ∃ P, P = per (s.drop I) := ⟨_, rfl⟩
  rw [← hP] at HM ⊢
  clear hI hP
  go_enter Try.func15, Try.ntmps15
  go_wp2_with fail
  have hb0 : Below w.heap.size w (w.alloc (.cells #[.int .i64 0, .int .i64 0, .bool false] 25)) := (Below.refl _ _).alloc (Nat.le_refl _) _
  have hg0 := heap_alloc_new w (.cells #[.int .i64 0, .int .i64 0, .bool false] 25)
  have hsz : w.heap.size < (w.alloc (.cells #[.int .i64 0, .int .i64 0, .bool false] 25)).heap.size := by simp
  refine (HM.out _ hb0).mono ?_
  rintro e w1 ⟨rfl, hb⟩
  have hg1 : Blk3 w1 w.heap.size 25 (.int .i64 0) (.int .i64 0) (.bool false) := (hb.block w.heap.size hsz).trans hg0
  have HB := Lib.hid (hb0.trans (hb.mono (Nat.le_of_lt hsz)))
  obtain ⟨c0, c1, c2⟩ := hg1.cells
  obtain ⟨f0, f1, f2⟩ := hg1.free
  have HG := Lib.hid hg1
  clear hb hb0 hg0 hsz HM hg1
  have HPUT := Lib.hid (HG.out.put (.int .i64 (I : Int)) (.int .i64 (P : Int)) (.bool false))
  have HBP := Lib.hid (below_put3 HB.out (Nat.le_refl w.heap.size) (.int .i64 (I : Int)) (.int .i64 (P : Int)) (.bool false))
  unfold put3 at HPUT HBP
  go_wp2
  obtain ⟨d0, d1, d2⟩ := HPUT.out.cells
  refine bodyPost_ret (v := .agg #[.int .i64 (I : Int), .int .i64 (P : Int), .bool false]) (by simp [results, Try.results15, go_sem, d0, d1, d2]) rfl ⟨rfl, HBP.out⟩
theorem later_any (w : World) (i p j q : Nat) (b c : Bool) (hi : i ≤ 1000000) (hj : j ≤ 1000000) :
    Calls Try.prog 14 #[.agg #[.int .i64 (i : Int), .int .i64 (p : Int), .bool b], .agg #[.int .i64 (j : Int), .int .i64 (q : Int), .bool c]] w fun e w' => e = .returned (if i < j then .agg #[.int .i64 (j : Int), .int .i64 (q : Int), .bool c] else .agg #[.int .i64 (i : Int), .int .i64 (p : Int), .bool b]) ∧ Below w.heap.size w w' := by
  by_cases h : i < j
  · have h2 : (i : Int) < (j : Int) := by omega
    rw [if_pos h]
    clear h
    go_enter Try.func14, Try.ntmps14
    go_wp2
    refine bodyPost_ret (v := .agg #[.int .i64 (j : Int), .int .i64 (q : Int), .bool c]) (by simp [results, Try.results14, go_sem]) rfl ⟨rfl, (((Below.refl _ _).alloc (Nat.le_refl _) _).alloc (by simp) _).alloc (by simp; omega) _⟩
  · have h2 : ¬ (i : Int) < (j : Int) := by omega
    rw [if_neg h]
    clear h
    go_enter Try.func14, Try.ntmps14
    go_wp2
    refine bodyPost_ret (v := .agg #[.int .i64 (i : Int), .int .i64 (p : Int), .bool b]) (by simp [results, Try.results14, go_sem]) rfl ⟨rfl, (((Below.refl _ _).alloc (Nat.le_refl _) _).alloc (by simp) _).alloc (by simp; omega) _⟩
/-- What Factor answers. -/
def facV (s : Tx) : Value := if s = [] then .agg #[.int .i64 0, .int .i64 0, .bool false] else .agg #[.int .i64 (cutAt s : Int), .int .i64 (movePer s : Int), .bool (smallB s)]
theorem cut_pick (s : Tx) : (if bestTo false s s.length < bestTo true s s.length then Value.agg #[.int .i64 (bestTo true s s.length : Int), .int .i64 (per (s.drop (bestTo true s s.length)) : Int), .bool false] else .agg #[.int .i64 (bestTo false s s.length : Int), .int .i64 (per (s.drop (bestTo false s s.length)) : Int), .bool false]) = .agg #[.int .i64 (cutAt s : Int), .int .i64 (cutPer s : Int), .bool false] := by
  unfold cutPer cutAt
  split <;> rfl
set_option maxHeartbeats 4000000 in
theorem factor_any (w : World) (s : Tx) (a : Option Addr) (cap : Nat) (ha : Bs w w.heap.size a s) (hl : s.length ≤ 1000) :
    Calls Try.prog 9 #[.slice a s.length cap] w fun e w' => e = .returned (facV s) ∧ Below w.heap.size w w' := by
  have HA := Lib.hid ha
  have HM := Lib.hid (fun X (hX : Below w.heap.size w X) => end_any X s a cap ((ha.keep hX).more hX.size) (by omega))
  clear ha
  obtain ⟨C, hC⟩ : ∃ C, C = cutAt s := ⟨_, rfl⟩
  obtain ⟨Q, hQ⟩ : ∃ Q, Q = cutPer s := ⟨_, rfl⟩
  have hpick := cut_pick s
  rw [← hC, ← hQ] at hpick
  have hbl : ∀ t, bestTo t s s.length ≤ 1000000 := fun t => by
    by_cases e : s = []
    · rw [e]; show bestTo t [] 0 ≤ _; simp [bestTo]
    · have := (best_max (t := t) e).1; omega
  have HLA := Lib.hid (fun X => later_any X (bestTo false s s.length) (per (s.drop (bestTo false s s.length))) (bestTo true s s.length) (per (s.drop (bestTo true s s.length))) false false (hbl _) (hbl _))
  rw [hpick] at HLA
  clear hpick hbl
  obtain ⟨F, hF⟩ : ∃ F, F = bestTo false s s.length := ⟨_, rfl⟩
  obtain ⟨G, hG⟩ : ∃ G, G = bestTo true s s.length := ⟨_, rfl⟩
  obtain ⟨PF, hPF⟩ : ∃ P, P = per (s.drop F) := ⟨_, rfl⟩
  obtain ⟨PG, hPG⟩ : ∃ P, P = per (s.drop G) := ⟨_, rfl⟩
  have HM1 := Lib.hid (fun X hX => HM.out X hX false)
  have HM2 := Lib.hid (fun X hX => HM.out X hX true)
  rw [← hF, ← hPF] at HM1
  rw [← hG, ← hPG] at HM2
  rw [← hG, ← hF, ← hPF, ← hPG] at HLA
  clear HM hF hG hPF hPG
  have hb0 : Below w.heap.size w (w.alloc (.cells #[.int .i64 0, .int .i64 0, .bool false] 25)) := (Below.refl _ _).alloc (Nat.le_refl _) _
  have HG0 := Lib.hid (fun X (hX : Below (w.alloc (.cells #[.int .i64 0, .int .i64 0, .bool false] 25)).heap.size (w.alloc (.cells #[.int .i64 0, .int .i64 0, .bool false] 25)) X) => (hX.block w.heap.size (by simp)).trans (heap_alloc_new w (.cells #[.int .i64 0, .int .i64 0, .bool false] 25)))
  have HB0 := Lib.hid hb0
  clear hb0
  go_enter Try.func9, Try.ntmps9
  go_wp2_with fail
  generalize hw0 : w.alloc (.cells #[.int .i64 0, .int .i64 0, .bool false] 25) = w0 at *
  have hs0 : w.heap.size < w0.heap.size := by rw [← hw0]; simp
  clear hw0
  refine (HM1.out _ HB0.out).mono ?_
  rintro e w1 ⟨rfl, hb1⟩
  have HW1 := Lib.hid (HB0.out.trans (hb1.mono HB0.out.size))
  have HX1 := Lib.hid hb1
  clear hb1
  go_wp2_with fail
  refine (HM2.out _ HW1.out).mono ?_
  rintro e w2 ⟨rfl, hb2⟩
  have HW2 := Lib.hid (HW1.out.trans (hb2.mono HW1.out.size))
  have HX2 := Lib.hid (HX1.out.trans (hb2.mono HX1.out.size))
  clear hb2 HX1
  go_wp2_with fail
  refine (HLA.out _).mono ?_
  rintro e w3 ⟨rfl, hb3⟩
  have HW3 := Lib.hid (HW2.out.trans (hb3.mono HW2.out.size))
  have HX3 := Lib.hid (HX2.out.trans (hb3.mono HX2.out.size))
  clear hb3 HX2
  have hs3 := HX3.out.size
  have HR := Lib.hid (HG0.out _ HX3.out)
  clear HG0 HM1 HM2 HLA HX3
  by_cases h0 : s = []
  · subst h0
    have hc0 : C = 0 := by rw [hC]; rfl
    have hq0 : Q = 0 := by rw [hQ]; rfl
    subst hc0 hq0
    clear hC hQ
    have hbk : Blk3 (w3.alloc (.cells #[.int .i64 0, .int .i64 0, .bool false] 25)) w.heap.size 25 (.int .i64 0) (.int .i64 0) (.bool false) := (((Below.refl w3.heap.size w3).alloc (Nat.le_refl _) _).block w.heap.size (by omega)).trans HR.out
    have hbw := HW3.out.alloc (HW3.out.size) (.cells #[.int .i64 0, .int .i64 0, .bool false] 25)
    obtain ⟨c0, c1, c2⟩ := hbk.cells
    obtain ⟨f0, f1, f2⟩ := hbk.free
    have HPUT := Lib.hid (hbk.put (.int .i64 0) (.int .i64 0) (.bool false))
    have HBP := Lib.hid (below_put3 hbw (Nat.le_refl w.heap.size) (.int .i64 0) (.int .i64 0) (.bool false))
    unfold put3 at HPUT HBP
    clear hbk hbw
    go_wp2
    obtain ⟨d0, d1, d2⟩ := HPUT.out.cells
    refine bodyPost_ret (v := .agg #[.int .i64 0, .int .i64 0, .bool false]) (by simp [results, Try.results9, go_sem, d0, d1, d2]) rfl ⟨by rw [facV, if_pos rfl], HBP.out⟩
  · have hcl := cut_len h0
    obtain ⟨hq1, hql⟩ := cutPer_le h0
    have hsm := smallB_agr h0
    have HFV : Hid (facV s = .agg #[.int .i64 (C : Int), .int .i64 (movePer s : Int), .bool (smallB s)]) := Lib.hid (by rw [facV, if_neg h0, hC])
    have hmp : movePer s = if smallB s then Q else max C (s.length - C) + 1 := by rw [movePer, hQ, hC]
    rw [← hC] at hcl hql hsm
    rw [← hQ] at hq1 hql hsm
    have HRUN : Hid (∀ X, Below w.heap.size w X → Calls Try.prog 16 #[.func (.func 17) #[.slice a s.length cap] #[], .int .i64 0, .int .i64 (Q : Int), .int .i64 (C : Int)] X fun e w' => e = .returned (.int .i64 (agr s 0 Q C : Int)) ∧ Drew X w') := Lib.hid (fun X (hX : Below w.heap.size w X) => run_any X s a cap ((HA.out.keep hX).more hX.size) (by omega) 0 Q C (by omega) (by omega))
    obtain ⟨RR, hRR⟩ : ∃ RR, RR = agr s 0 Q C := ⟨_, rfl⟩
    rw [← hRR] at hsm HRUN
    obtain ⟨B, hB⟩ : ∃ B, B = smallB s := ⟨_, rfl⟩
    rw [← hB] at hsm hmp HFV
    have hkb : ((RR : Int) == (C : Int)) = B := by rw [hsm, Bool.eq_iff_iff]; simp; omega
    have hkb2 : (RR == C) = B := by rw [hsm, Bool.eq_iff_iff]; simp
    have HMP := Lib.hid hmp
    have HBK : Hid (Blk3 (w3.alloc (.cells #[.int .i64 (C : Int), .int .i64 (Q : Int), .bool false] 25)) w.heap.size 25 (.int .i64 0) (.int .i64 0) (.bool false)) := Lib.hid ((((Below.refl w3.heap.size w3).alloc (Nat.le_refl _) _).block w.heap.size (by omega)).trans HR.out)
    have HSK : Hid (Blk3 (w3.alloc (.cells #[.int .i64 (C : Int), .int .i64 (Q : Int), .bool false] 25)) w3.heap.size 25 (.int .i64 (C : Int)) (.int .i64 (Q : Int)) (.bool false)) := Lib.hid (heap_alloc_new w3 _)
    have HW4 := Lib.hid (HW3.out.alloc (HW3.out.size) (.cells #[.int .i64 (C : Int), .int .i64 (Q : Int), .bool false] 25))
    have hne : ((Q : Int) == 0) = false := by simp; omega
    have hne2 : ¬ (Q : Int) = 0 := by omega
    clear hRR hC hQ h0 hB hsm hmp
    go_wp2_with fail
    generalize hS0 : w3.heap.size = S0 at *
    generalize w3.alloc (.cells #[.int .i64 (C : Int), .int .i64 (Q : Int), .bool false] 25) = w4 at *
    have HS0 := Lib.hid hS0
    have HH3 := Lib.hid hs3
    have HH0 := Lib.hid hs0
    clear hS0 hs3 hs0
    have hmf : ∀ (fn : Fn) (first cap : Array Value) (w : World), (Instr.makeFunc fn first cap).run Try.prog w = .ok (.func fn first cap) w := fun _ _ _ _ => rfl
    obtain ⟨s0, s1, s2⟩ := HSK.out.cells
    have hSS : w4.drew.cell? ⟨S0, 0, none⟩ = some (.int .i64 (C : Int)) ∧ w4.drew.cell? ⟨S0, 1, none⟩ = some (.int .i64 (Q : Int)) := ⟨s0, s1⟩
    have HB5 := Lib.hid (below_drews HW4.out 1)
    change Hid (Below _ _ w4.drew) at HB5
    have HSK5 : Hid (Blk3 w4.drew S0 25 (.int .i64 (C : Int)) (.int .i64 (Q : Int)) (.bool false)) := HSK
    have HBK5 : Hid (Blk3 w4.drew w.heap.size 25 (.int .i64 0) (.int .i64 0) (.bool false)) := HBK
    clear s0 s1 s2
    have hne3 : w.heap.size < S0 := by have h1 := HS0.out; have h2 := HH3.out; have h3 := HH0.out; omega
    have HNE := Lib.hid hne3
    clear hne3
    refine wp_region_held_drew (S := fun w' => w'.cell? ⟨S0, 0, none⟩ = some (.int .i64 (C : Int)) ∧ w'.cell? ⟨S0, 1, none⟩ = some (.int .i64 (Q : Int))) (by kernel_rfl) hSS (fun hH0 => ?_)
    clear hSS
    generalize w4.drew = x0 at *
    refine held_take (i := 0) (d := 13) (oi := _) (v := ?_) rfl rfl (by kernel_rfl) (by kernel_rfl) (by kernel_rfl) (fun _ _ _ h => h) (Or.inl ⟨by rfl, ?_⟩) (by assumption) ?_
    rotate_left
    · (intro w hSw; obtain ⟨l0, l1⟩ := hSw; go_simp; (try with_reducible rfl))
    simp only [Act.put, List.setIfInBounds_toArray, List.set_cons_zero, List.set_cons_succ]
    refine held_take (i := 1) (d := 14) (oi := _) (v := ?_) rfl rfl (by kernel_rfl) (by kernel_rfl) (by kernel_rfl) (fun _ _ _ h => h) (Or.inl ⟨by rfl, ?_⟩) (by assumption) ?_
    rotate_left
    · (intro w hSw; obtain ⟨l0, l1⟩ := hSw; go_simp; (try with_reducible rfl))
    simp only [Act.put, List.setIfInBounds_toArray, List.set_cons_zero, List.set_cons_succ]
    refine held_take (i := 2) (d := 15) (oi := _) (v := ?_) rfl rfl (by kernel_rfl) (by kernel_rfl) (by kernel_rfl) (fun _ _ _ h => h) (Or.inl ⟨by rfl, ?_⟩) (by assumption) ?_
    rotate_left
    · (intro w hSw; obtain ⟨l0, l1⟩ := hSw; go_simp; (try with_reducible rfl))
    simp only [Act.put, List.setIfInBounds_toArray, List.set_cons_zero, List.set_cons_succ]
    refine held_take (i := 3) (d := 16) (oi := _) (v := ?_) rfl rfl (by kernel_rfl) (by kernel_rfl) (by kernel_rfl) (fun _ _ _ h => h) (Or.inl ⟨by rfl, ?_⟩) (by assumption) ?_
    rotate_left
    · (intro w hSw; obtain ⟨l0, l1⟩ := hSw; go_simp; (try with_reducible rfl))
    simp only [Act.put, List.setIfInBounds_toArray, List.set_cons_zero, List.set_cons_succ]
    refine held_take (i := 4) (d := 17) (oi := _) (v := ?_) rfl rfl (by kernel_rfl) (by kernel_rfl) (by kernel_rfl) (fun _ _ _ h => h) (Or.inl ⟨by rfl, ?_⟩) (by assumption) ?_
    rotate_left
    · (intro w hSw; obtain ⟨l0, l1⟩ := hSw; go_simp; (try with_reducible rfl))
    simp only [Act.put, List.setIfInBounds_toArray, List.set_cons_zero, List.set_cons_succ]
    refine held_take (i := 5) (d := 18) (oi := _) (v := ?_) rfl rfl (by kernel_rfl) (by kernel_rfl) (by kernel_rfl) (fun _ _ _ h => h) (Or.inl ⟨by rfl, ?_⟩) (by assumption) ?_
    rotate_left
    · (intro w hSw; obtain ⟨l0, l1⟩ := hSw; go_simp; (try with_reducible rfl))
    simp only [Act.put, List.setIfInBounds_toArray, List.set_cons_zero, List.set_cons_succ]
    refine held_take (i := 7) (d := 20) (oi := _) (v := ?_) rfl rfl (by kernel_rfl) (by kernel_rfl) (by kernel_rfl) (fun _ _ _ h => h) (Or.inl ⟨by rfl, ?_⟩) (by assumption) ?_
    rotate_left
    · (intro w hSw; obtain ⟨l0, l1⟩ := hSw; go_simp; (try with_reducible rfl))
    simp only [Act.put, List.setIfInBounds_toArray, List.set_cons_zero, List.set_cons_succ]
    refine held_take (i := 8) (d := 21) (oi := _) (v := ?_) rfl rfl (by kernel_rfl) (by kernel_rfl) (by kernel_rfl) (fun _ _ _ h => h) (Or.inl ⟨by rfl, ?_⟩) (by assumption) ?_
    rotate_left
    · (intro w hSw; obtain ⟨l0, l1⟩ := hSw; go_simp; (try with_reducible rfl))
    simp only [Act.put, List.setIfInBounds_toArray, List.set_cons_zero, List.set_cons_succ]
    refine wpAnyH_ready (rs := [6]) (by kernel_rfl) (by simp) ?_
    refine AllReadyH.cons rfl (fun K hK => ?_) AllReadyH.nil
    go_simp
    go_wp2_with (go_at_call 16; (with_reducible refine (HRUN.out _ HB5.out).mono ?_); rintro e x' ⟨rfl, hd⟩)
    obtain ⟨q, rfl⟩ := hd
    have hH1 : (x0.drewN q).cell? ⟨S0, 0, none⟩ = some (.int .i64 (C : Int)) ∧ (x0.drewN q).cell? ⟨S0, 1, none⟩ = some (.int .i64 (Q : Int)) := hH0
    refine hK.out _ _ hH1 (fun _ => ?_)
    clear hK hH0
    have HB6 := Lib.hid (below_drews HB5.out q)
    have HSK6 : Hid (Blk3 (x0.drewN q) S0 25 (.int .i64 (C : Int)) (.int .i64 (Q : Int)) (.bool false)) := HSK5
    have HBK6 : Hid (Blk3 (x0.drewN q) w.heap.size 25 (.int .i64 0) (.int .i64 0) (.bool false)) := HBK5
    generalize x0.drewN q = x1 at *
    refine held_take (i := 9) (d := 22) (oi := _) (v := ?_) rfl rfl (by kernel_rfl) (by kernel_rfl) (by kernel_rfl) (fun _ _ _ h => h) (Or.inl ⟨by rfl, ?_⟩) (by assumption) ?_
    rotate_left
    · (intro w hSw; obtain ⟨l0, l1⟩ := hSw; go_simp; (try with_reducible rfl))
    simp only [Act.put, List.setIfInBounds_toArray, List.set_cons_zero, List.set_cons_succ]
    refine held_take (i := 10) (d := 23) (oi := _) (v := ?_) rfl rfl (by kernel_rfl) (by kernel_rfl) (by kernel_rfl) (fun _ _ _ h => h) (Or.inl ⟨by rfl, ?_⟩) (by assumption) ?_
    rotate_left
    · (intro w hSw; obtain ⟨l0, l1⟩ := hSw; go_simp; (try with_reducible rfl))
    simp only [Act.put, List.setIfInBounds_toArray, List.set_cons_zero, List.set_cons_succ]
    obtain ⟨s0, s1, s2⟩ := HSK6.out.cells
    obtain ⟨f0, f1, f2⟩ := HSK6.out.free
    refine wpAnyH_ready (rs := [11]) (by kernel_rfl) (by simp) ?_
    refine AllReadyH.cons rfl (fun K hK => ?_) AllReadyH.nil
    go_simp
    clear s0 s1 s2 f0 f1 f2
    have HSK7 : Hid (Blk3 (x1.setCell ⟨S0, 2, none⟩ (.bool B)) S0 25 (.int .i64 (C : Int)) (.int .i64 (Q : Int)) (.bool B)) := Lib.hid (by have h := HSK6.out; unfold Blk3 at h ⊢; rw [heap_set_same h]; rfl)
    have HBK7 : Hid (Blk3 (x1.setCell ⟨S0, 2, none⟩ (.bool B)) w.heap.size 25 (.int .i64 0) (.int .i64 0) (.bool false)) := Lib.hid (by unfold Blk3; rw [Below.heap_setCell _ _ _ _ (show w.heap.size ≠ S0 by have := HNE.out; omega)]; exact HBK6.out)
    have HB7 := Lib.hid (HB6.out.setCell (p := ⟨S0, 2, none⟩) (show w.heap.size ≤ S0 by have := HNE.out; omega) (.bool B))
    obtain ⟨s0, s1, s2⟩ := HSK7.out.cells
    refine hK.out _ _ ⟨s0, s1⟩ (fun _ => ?_)
    clear hK
    refine wpAnyH_done (by kernel_rfl) ?_ _
    generalize x1.setCell ⟨S0, 2, none⟩ (.bool B) = x2 at *
    obtain ⟨f0, f1, f2⟩ := HSK7.out.free
    obtain ⟨b0, b1, b2⟩ := HBK7.out.cells
    obtain ⟨g0, g1, g2⟩ := HBK7.out.free
    have hne4 : ¬ w.heap.size = S0 := by have := HNE.out; omega
    have hne5 : ¬ S0 = w.heap.size := by have := HNE.out; omega
    have HCL := Lib.hid (And.intro hcl hql)
    cases B
    · obtain ⟨V, hV⟩ : ∃ V, V = max C (s.length - C) + 1 := ⟨_, rfl⟩
      have hmx : max (C : Int) ((s.length : Int) - (C : Int)) + 1 = (V : Int) := by omega
      have HE : Hid (facV s = .agg #[.int .i64 (C : Int), .int .i64 (V : Int), .bool false]) := Lib.hid (by rw [HFV.out, HMP.out, hV]; rfl)
      have HBK8 : Hid (Blk3 (x2.setCell ⟨S0, 1, none⟩ (.int .i64 (max (C : Int) ((s.length : Int) - (C : Int)) + 1))) w.heap.size 25 (.int .i64 0) (.int .i64 0) (.bool false)) := Lib.hid (by unfold Blk3; rw [Below.heap_setCell _ _ _ _ (show w.heap.size ≠ S0 by have := HNE.out; omega)]; exact HBK7.out)
      have HB8 := Lib.hid (HB7.out.setCell (p := ⟨S0, 1, none⟩) (show w.heap.size ≤ S0 by have := HNE.out; omega) (.int .i64 (max (C : Int) ((s.length : Int) - (C : Int)) + 1)))
      obtain ⟨c0, c1, c2⟩ := HBK8.out.cells
      obtain ⟨e0, e1, e2⟩ := HBK8.out.free
      have HPUT := Lib.hid (HBK8.out.put (.int .i64 (C : Int)) (.int .i64 (max (C : Int) ((s.length : Int) - (C : Int)) + 1)) (.bool false))
      have HBP := Lib.hid (below_put3 HB8.out (Nat.le_refl w.heap.size) (.int .i64 (C : Int)) (.int .i64 (max (C : Int) ((s.length : Int) - (C : Int)) + 1)) (.bool false))
      unfold put3 at HPUT HBP
      have HMX := Lib.hid hmx
      clear hmx hV
      go_wp2
      obtain ⟨d0, d1, d2⟩ := HPUT.out.cells
      refine bodyPost_ret (v := .agg #[.int .i64 (C : Int), .int .i64 (max (C : Int) ((s.length : Int) - (C : Int)) + 1), .bool false]) (by simp [results, Try.results9, go_sem, d0, d1, d2]) rfl ⟨by rw [HE.out, HMX.out], HBP.out⟩
    · have HE : Hid (facV s = .agg #[.int .i64 (C : Int), .int .i64 (Q : Int), .bool true]) := Lib.hid (by rw [HFV.out, HMP.out]; rfl)
      have HPUT := Lib.hid (HBK7.out.put (.int .i64 (C : Int)) (.int .i64 (Q : Int)) (.bool true))
      have HBP := Lib.hid (below_put3 HB7.out (Nat.le_refl w.heap.size) (.int .i64 (C : Int)) (.int .i64 (Q : Int)) (.bool true))
      unfold put3 at HPUT HBP
      go_wp2
      obtain ⟨d0, d1, d2⟩ := HPUT.out.cells
      refine bodyPost_ret (v := .agg #[.int .i64 (C : Int), .int .i64 (Q : Int), .bool true]) (by simp [results, Try.results9, go_sem, d0, d1, d2]) rfl ⟨by rw [HE.out], HBP.out⟩
end Go.Proofs.Ytidclldacbelhaa.Cut
