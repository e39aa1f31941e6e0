/- PickFirst, walked. -/
import Derived.Test.YtlmncljnnpnjmaaPickE
namespace Go.Proofs.Ytlmncljnnpnjmaa.pickFirst
open Go.RowKit Go.Proofs.Ytlmncljnnpnjmaa.Prs Adm Reg Pck
set_option maxRecDepth 100000
attribute [local go_sem ↓] eql_pairs neq_pairs
theorem further {l : List Pr} {f t : Int} {p : Pr} (h : firstOf l f = some p) (hft : f ≤ t) (htp : t ≤ p.s) : firstOf l t = some p := by
  rw [first_some] at h ⊢
  obtain ⟨h1, ⟨h2, h3⟩, h4⟩ := h
  exact ⟨h1, ⟨h2, htp⟩, fun q hq ho => h4 q hq ⟨ho.1, by have := ho.2; omega⟩⟩
theorem gone {l : List Pr} {f t : Int} (h : firstOf l f = none) (hft : f ≤ t) : firstOf l t = none := by
  rw [first_none] at h ⊢
  exact fun q hq ho => h q hq ⟨ho.1, by have := ho.2; omega⟩
theorem fst_no {l : List Pr} {f : Int} (h : fB l f = false) : firstOf l f = none ∧ fP l f = ⟨0, 0⟩ := by
  rw [← fst_is]
  unfold fB at h
  unfold fP
  cases e : fstB l f with
  | none => exact ⟨rfl, rfl⟩
  | some p => rw [e] at h; cases h
theorem fst_yes {l : List Pr} {f : Int} (h : fB l f = true) : firstOf l f = some (fP l f) := by
  rw [← fst_is]
  unfold fB at h
  unfold fP
  cases e : fstB l f with
  | none => rw [e] at h; cases h
  | some p => rfl
theorem yes_fst {l : List Pr} {f : Int} {p : Pr} (h : firstOf l f = some p) : fB l f = true ∧ fP l f = p := by
  rw [← fst_is] at h
  unfold fB fP
  rw [h]; exact ⟨rfl, rfl⟩
theorem no_fst {l : List Pr} {f : Int} (h : firstOf l f = none) : fB l f = false ∧ fP l f = ⟨0, 0⟩ := by
  rw [← fst_is] at h
  unfold fB fP
  rw [h]; exact ⟨rfl, rfl⟩
abbrev FirstAt (W : World) (l : List Pr) (al : Option Addr) (cl : Nat) (f : Int) (p : Pr) (b : Bool) : Prop :=
  ∀ X, Below W.heap.size W X → Calls Try.prog 10 #[.slice al l.length cl, .int .i64 f] X fun e w' => e = .returned (.tuple #[.agg #[.int .i64 p.s, .int .i64 p.e], .bool b]) ∧ Below X.heap.size X w'
set_option maxHeartbeats 4000000 in
theorem walk (W : World) (l : List Pr) (al : Option Addr) (cl : Nat) (hpl : Ps W W.heap.size al l) (a b : Int) :
    Calls Try.prog 8 #[.slice al l.length cl, .int .i64 a, .int .i64 b] W fun r w' => r = .returned (.bool true) ∧ Below W.heap.size W w' := by
  have HAW := Lib.hid (awake_any W)
  have HL := Lib.hid hpl
  clear hpl
  obtain ⟨f, hf⟩ : ∃ f, min a b = f := ⟨_, rfl⟩
  obtain ⟨t, ht⟩ : ∃ t, max a b = t := ⟨_, rfl⟩
  have hft : f ≤ t := by omega
  by_cases hB : l.length ≤ 80
  rotate_left
  · have hBi : ¬ (l.length : Int) ≤ 80 := by omega
    go_enter Try.func8, Try.ntmps8
    go_wp2_with (go_at_call 9; (with_reducible refine HAW.out.mono ?_); rintro r w1 ⟨rfl, hb1⟩)
    go_ret
    exact ⟨rfl, hb1⟩
  have hBi : (l.length : Int) ≤ 80 := by omega
  have hl6 : l.length ≤ 1000000 := by omega
  have CX : Hid (∀ g, FirstAt W l al cl g (fP l g) (fB l g)) := Lib.hid fun g X h => first_any g l al cl X hl6 (HL.out.keeps h)
  have CF := Lib.hid (CX.out f)
  have CT := Lib.hid (CX.out t)
  cases hz : fB l f
  · obtain ⟨h1, h2⟩ := fst_no hz
    obtain ⟨h3, h4⟩ := no_fst (gone h1 hft)
    rw [hz, h2] at CF
    rw [h3, h4] at CT
    have he : prEq 0 0 0 0 = true := by decide
    clear h1 h2 h3 h4 hz CX hft
    go_enter Try.func8, Try.ntmps8
    go_wp2_with (first
      | (go_at_call 9; (with_reducible refine HAW.out.mono ?_); rintro r w1 ⟨rfl, hb1⟩; have HB1 := Lib.hid hb1; clear hb1)
      | (go_at_call 10; (with_reducible refine (CF.out _ HB1.out).mono ?_); rintro r w2 ⟨rfl, hb2⟩; have HB2 := Lib.hid (HB1.out.trans (hb2.mono HB1.out.size)); have HP := Lib.hid (pb_new w2 0 0); have HB3 := Lib.hid (HB2.out.alloc HB2.out.size (.cells #[.int .i64 0, .int .i64 0] 25)); clear hb2 HB1 CF)
      | (go_at_call 10; (with_reducible refine (CT.out _ HB3.out).mono ?_); rintro r w3 ⟨rfl, hb3⟩; have HB4 := Lib.hid (HB3.out.trans (hb3.mono HB3.out.size)); have HP3 := Lib.hid (HP.out.keep hb3 HP.out.lt); have hbq : Below w3.heap.size w3 (w3.alloc (.cells #[.int .i64 0, .int .i64 0] 25)) := (Below.refl _ _).alloc (Nat.le_refl _) _; obtain ⟨c0, c1⟩ := (HP3.out.keep hbq HP3.out.lt).cells; have HB5 := Lib.hid (HB4.out.trans (hbq.mono HB4.out.size)); clear hb3 hbq))
    go_ret
    exact ⟨rfl, HB5.out⟩
  · have hyes := fst_yes hz
    rw [hz] at CF
    obtain ⟨p, hp⟩ : ∃ p, fP l f = p := ⟨_, rfl⟩
    obtain ⟨q, hq⟩ : ∃ q, fP l t = q := ⟨_, rfl⟩
    obtain ⟨z, hz2⟩ : ∃ z, fB l t = z := ⟨_, rfl⟩
    rw [hp] at CF hyes
    rw [hq, hz2] at CT
    obtain ⟨hpl, ⟨hpe, hfp⟩, _⟩ := first_some.1 hyes
    have CA := Lib.hid (CX.out p.s)
    obtain ⟨ha1, ha2⟩ := yes_fst (further hyes hfp (Int.le_refl _))
    rw [ha1, ha2] at CA
    have e1 : prEq p.s p.e p.s p.e = true := by rw [prEq_eq]; simp
    have e2 : decide (p.s < f) = false := decide_eq_false (by omega)
    have e3 : decide (p.e ≤ p.s) = false := decide_eq_false (by omega)
    obtain ⟨y, hy⟩ : ∃ y, decide (t ≤ p.s) = y := ⟨_, rfl⟩
    have HQ : Hid ((y = true → z = true ∧ q = p) ∧ (y = false → z = true → t ≤ q.s ∧ p.s < q.s)) := Lib.hid ⟨fun h => by
        rw [h] at hy
        obtain ⟨h1, h2⟩ := yes_fst (further hyes hft (of_decide_eq_true hy))
        exact ⟨by rw [← hz2, h1], by rw [← hq, h2]⟩, fun h h' => by
        rw [h] at hy
        have h1 := fst_yes (hz2.trans h')
        rw [hq] at h1
        have h2 := (first_some.1 h1).2.1.2
        have := of_decide_eq_false hy
        omega⟩
    clear hyes hpl hpe hfp ha1 ha2 hz CX hft hp hq hz2
    cases y
    · cases z
      · go_enter Try.func8, Try.ntmps8
        go_wp2_with (first
          | (go_at_call 9; (with_reducible refine HAW.out.mono ?_); rintro r w1 ⟨rfl, hb1⟩; have HB1 := Lib.hid hb1; clear hb1)
          | (go_at_call 10; (with_reducible refine (CF.out _ HB1.out).mono ?_); rintro r w2 ⟨rfl, hb2⟩; have HB2 := Lib.hid (HB1.out.trans (hb2.mono HB1.out.size)); have HP := Lib.hid (pb_new w2 p.s p.e); have HB3 := Lib.hid (HB2.out.alloc HB2.out.size (.cells #[.int .i64 p.s, .int .i64 p.e] 25)); clear hb2 HB1)
          | (go_at_call 10; (with_reducible refine (CT.out _ HB3.out).mono ?_); rintro r w3 ⟨rfl, hb3⟩; have HB4 := Lib.hid (HB3.out.trans (hb3.mono HB3.out.size)); have HP3 := Lib.hid (HP.out.keep hb3 HP.out.lt); have hbq : Below w3.heap.size w3 (w3.alloc (.cells #[.int .i64 q.s, .int .i64 q.e] 25)) := (Below.refl _ _).alloc (Nat.le_refl _) _; have HP4 := Lib.hid (HP3.out.keep hbq HP3.out.lt); have HQ4 := Lib.hid (pb_new w3 q.s q.e); obtain ⟨c0, c1⟩ := HP4.out.cells; have HB5 := Lib.hid (HB4.out.trans (hbq.mono HB4.out.size)); clear hb3 hbq HB3)
          | (go_at_call 10; (with_reducible refine (CA.out _ HB5.out).mono ?_); rintro r w4 ⟨rfl, hb4⟩; have HB6 := Lib.hid (HB5.out.trans (hb4.mono HB5.out.size)); have HP5 := Lib.hid (HP4.out.keep hb4 HP4.out.lt); have HQ5 := Lib.hid (HQ4.out.keep hb4 HQ4.out.lt); have hba : Below w4.heap.size w4 (w4.alloc (.cells #[.int .i64 p.s, .int .i64 p.e] 25)) := (Below.refl _ _).alloc (Nat.le_refl _) _; clear c0 c1; obtain ⟨c0, c1⟩ := (HP5.out.keep hba HP5.out.lt).cells; obtain ⟨c2, c3⟩ := (HQ5.out.keep hba HQ5.out.lt).cells; obtain ⟨c4, c5⟩ := (pb_new w4 p.s p.e).cells; have HB7 := Lib.hid (HB6.out.trans (hba.mono HB6.out.size)); clear hb4 hba))
        go_ret
        exact ⟨rfl, HB7.out⟩
      · obtain ⟨h1, h2⟩ := HQ.out.2 rfl rfl
        have e4 : decide (t ≤ q.s) = true := decide_eq_true h1
        have e5 : decide (p.s < q.s) = true := decide_eq_true h2
        clear h1 h2
        go_enter Try.func8, Try.ntmps8
        go_wp2_with (first
          | (go_at_call 9; (with_reducible refine HAW.out.mono ?_); rintro r w1 ⟨rfl, hb1⟩; have HB1 := Lib.hid hb1; clear hb1)
          | (go_at_call 10; (with_reducible refine (CF.out _ HB1.out).mono ?_); rintro r w2 ⟨rfl, hb2⟩; have HB2 := Lib.hid (HB1.out.trans (hb2.mono HB1.out.size)); have HP := Lib.hid (pb_new w2 p.s p.e); have HB3 := Lib.hid (HB2.out.alloc HB2.out.size (.cells #[.int .i64 p.s, .int .i64 p.e] 25)); clear hb2 HB1)
          | (go_at_call 10; (with_reducible refine (CT.out _ HB3.out).mono ?_); rintro r w3 ⟨rfl, hb3⟩; have HB4 := Lib.hid (HB3.out.trans (hb3.mono HB3.out.size)); have HP3 := Lib.hid (HP.out.keep hb3 HP.out.lt); have hbq : Below w3.heap.size w3 (w3.alloc (.cells #[.int .i64 q.s, .int .i64 q.e] 25)) := (Below.refl _ _).alloc (Nat.le_refl _) _; have HP4 := Lib.hid (HP3.out.keep hbq HP3.out.lt); have HQ4 := Lib.hid (pb_new w3 q.s q.e); obtain ⟨c0, c1⟩ := HP4.out.cells; have HB5 := Lib.hid (HB4.out.trans (hbq.mono HB4.out.size)); clear hb3 hbq HB3)
          | (go_at_call 10; (with_reducible refine (CA.out _ HB5.out).mono ?_); rintro r w4 ⟨rfl, hb4⟩; have HB6 := Lib.hid (HB5.out.trans (hb4.mono HB5.out.size)); have HP5 := Lib.hid (HP4.out.keep hb4 HP4.out.lt); have HQ5 := Lib.hid (HQ4.out.keep hb4 HQ4.out.lt); have hba : Below w4.heap.size w4 (w4.alloc (.cells #[.int .i64 p.s, .int .i64 p.e] 25)) := (Below.refl _ _).alloc (Nat.le_refl _) _; clear c0 c1; obtain ⟨c0, c1⟩ := (HP5.out.keep hba HP5.out.lt).cells; obtain ⟨c2, c3⟩ := (HQ5.out.keep hba HQ5.out.lt).cells; obtain ⟨c4, c5⟩ := (pb_new w4 p.s p.e).cells; have HB7 := Lib.hid (HB6.out.trans (hba.mono HB6.out.size)); clear hb4 hba))
        go_ret
        exact ⟨rfl, HB7.out⟩
    · obtain ⟨h1, h2⟩ := HQ.out.1 rfl
      have e6 : prEq q.s q.e p.s p.e = true := by rw [prEq_eq, h2]; simp
      subst h1
      clear h2
      go_enter Try.func8, Try.ntmps8
      go_wp2_with (first
        | (go_at_call 9; (with_reducible refine HAW.out.mono ?_); rintro r w1 ⟨rfl, hb1⟩; have HB1 := Lib.hid hb1; clear hb1)
        | (go_at_call 10; (with_reducible refine (CF.out _ HB1.out).mono ?_); rintro r w2 ⟨rfl, hb2⟩; have HB2 := Lib.hid (HB1.out.trans (hb2.mono HB1.out.size)); have HP := Lib.hid (pb_new w2 p.s p.e); have HB3 := Lib.hid (HB2.out.alloc HB2.out.size (.cells #[.int .i64 p.s, .int .i64 p.e] 25)); clear hb2 HB1)
        | (go_at_call 10; (with_reducible refine (CT.out _ HB3.out).mono ?_); rintro r w3 ⟨rfl, hb3⟩; have HB4 := Lib.hid (HB3.out.trans (hb3.mono HB3.out.size)); have HP3 := Lib.hid (HP.out.keep hb3 HP.out.lt); have hbq : Below w3.heap.size w3 (w3.alloc (.cells #[.int .i64 q.s, .int .i64 q.e] 25)) := (Below.refl _ _).alloc (Nat.le_refl _) _; have HP4 := Lib.hid (HP3.out.keep hbq HP3.out.lt); have HQ4 := Lib.hid (pb_new w3 q.s q.e); obtain ⟨c0, c1⟩ := HP4.out.cells; have HB5 := Lib.hid (HB4.out.trans (hbq.mono HB4.out.size)); clear hb3 hbq HB3)
        | (go_at_call 10; (with_reducible refine (CA.out _ HB5.out).mono ?_); rintro r w4 ⟨rfl, hb4⟩; have HB6 := Lib.hid (HB5.out.trans (hb4.mono HB5.out.size)); have HP5 := Lib.hid (HP4.out.keep hb4 HP4.out.lt); have HQ5 := Lib.hid (HQ4.out.keep hb4 HQ4.out.lt); have hba : Below w4.heap.size w4 (w4.alloc (.cells #[.int .i64 p.s, .int .i64 p.e] 25)) := (Below.refl _ _).alloc (Nat.le_refl _) _; clear c0 c1; obtain ⟨c0, c1⟩ := (HP5.out.keep hba HP5.out.lt).cells; obtain ⟨c2, c3⟩ := (HQ5.out.keep hba HQ5.out.lt).cells; obtain ⟨c4, c5⟩ := (pb_new w4 p.s p.e).cells; have HB7 := Lib.hid (HB6.out.trans (hba.mono HB6.out.size)); clear hb4 hba))
      go_ret
      exact ⟨rfl, HB7.out⟩
end Go.Proofs.Ytlmncljnnpnjmaa.pickFirst
