/- The walk of SuffixTwice. -/
import Derived.Test.YtpknaobmchmpdaaEg
namespace Go.Proofs.Ytpknaobmchmpdaa.suffixTwice
open Go.Proofs.Ytpknaobmchmpdaa.Suf Go.Proofs.Ytpknaobmchmpdaa.Crt Go.RowKit Go.Maps
set_option maxRecDepth 100000
set_option linter.unusedVariables false
open Go.Proofs.Ytpknaobmchmpdaa.Reg
attribute [local go_sem ↓] Go.wp_at_zero Go.wp_at_succ
set_option maxHeartbeats 2000000 in
theorem walk (w : World) (l : Tx) (a : Option Addr) (cap : Nat) (hm : l.length ≤ maxLen) (hb : Bs w w.heap.size a l) (hn0 : a = none → cap = 0) :
    Calls Try.prog 8 #[.slice a l.length cap] w fun e w' => e = .returned (.bool true) ∧ Below w.heap.size w w' := by
  have HAW := Lib.hid (awake_any w)
  have Hhb := Lib.hid hb
  clear hb
  go_enter Try.func8, Try.ntmps8
  go_wp2_with fail
  refine HAW.out.mono ?_
  rintro e' w1 ⟨rfl, hb1⟩
  have HW := Lib.hid hb1
  have HBl : Hid (∀ X, Below w1.heap.size w1 X → Bs X X.heap.size a l) := Lib.hid fun X hX => ((Hhb.out.keep hb1).keep (hX.mono hb1.size)).more (Nat.le_trans hb1.size hX.size)
  clear hb1 HAW Hhb
  by_cases h1 : l.length ≤ 150
  · by_cases h0 : l = []
    · have hkl : ¬ (150 : Int) < (l.length : Int) := by omega
      have hz : ((l.length : Int) == 0) = true := by rw [h0]; rfl
      go_wp2
      go_ret
      exact ⟨rfl, HW.out⟩
    · have hkl : ¬ (150 : Int) < (l.length : Int) := by omega
      have hz : ((l.length : Int) == 0) = false := by simpa using h0
      have HN0 := Lib.hid hn0
      clear hn0
      go_wp2_with (first
        | (at_builtin; refine app_bs rfl _ _ rfl w1.heap.size _ 0 [] rfl (World.ownsRow_nil _ _ _ _) a l cap _ rfl (HBl.out w1 (Below.refl _ _)) HN0.out (by omega) (Nat.le_refl _) ?_; intro v2 w2 hown2 hg2; have HO2 := Lib.hid hown2; have HW2 := Lib.hid ((Below.refl w1.heap.size w1).grown hg2 (Nat.le_refl _) (fun k hk => by cases hk)); clear hown2 hg2)
        | (at_builtin; refine app_bs rfl _ _ rfl w1.heap.size _ _ _ rfl HO2.out a l cap _ rfl (HBl.out w2 HW2.out) HN0.out (by omega) HW2.out.size ?_; intro v3 w3 hown3 hg3; have HO3 := Lib.hid hown3; have HW3 := Lib.hid (HW2.out.grown hg3 HW2.out.size (fun k hk => own_ge HO2.out hk)); clear hown3 hg3)
        | fail)
      obtain ⟨_, ac, cc, rfl, ht, _⟩ := own_text (l := l ++ l) HO3.out (by simp [vals])
      have HT := Lib.hid ht
      clear ht HO2 HO3 HW2
      have hpos := List.length_pos_iff.2 h0
      have hcn : l ++ l ≠ [] := fun e => h0 (List.append_eq_nil_iff.1 e).1
      have e1 : per (l ++ l) ≤ l.length := (per_least hcn).2 _ (twice_per h0)
      have e2 : per l ≤ per (l ++ l) := (per_least h0).2 _ (per_least hcn).1.front
      have e3 := per_fl hcn
      rw [List.length_append] at e3
      have e4 := borders_chain (l ++ l)
      rw [if_neg (show ¬ fl (l ++ l) = 0 by omega)] at e4
      have e5 := bordTo_len (l ++ l) (l ++ l).length
      change (borders (l ++ l)).length ≤ _ at e5
      rw [List.length_append] at e5
      have hcl : (l ++ l).length = l.length + l.length := List.length_append
      have HCL := Lib.hid hcl
      have HP := Lib.hid (fun X (hX : Below w3.heap.size w3 X) => period_any X (l ++ l) ac cc (HT.out.keep hX).bs (by omega))
      have HBO := Lib.hid (fun X (hX : Below w3.heap.size w3 X) => borders_any X (l ++ l) ac cc (HT.out.keep hX).bs (by omega))
      have HPB := Lib.hid (fun X (hX : Below w3.heap.size w3 X) => period_any X l a cap (HBl.out X (HW3.out.trans (hX.mono HW3.out.size))) (by omega))
      rw [e4] at e5 HBO
      obtain ⟨rest, hrest⟩ : ∃ rest, rest = borders ((l ++ l).take (fl (l ++ l))) := ⟨_, rfl⟩
      rw [← hrest] at HBO e5
      clear hrest e4 HT hcn h0 hcl
      generalize per (l ++ l) = p at *
      generalize fl (l ++ l) = f at *
      generalize per l = pl at *
      generalize (l ++ l).length = N at *
      go_wp2_with fail
      refine (HP.out _ (Below.refl _ _)).mono ?_
      rintro e4 w4 ⟨rfl, b4⟩
      have HW4 := Lib.hid b4
      clear b4
      go_wp2_with fail
      refine (HBO.out _ HW4.out).mono ?_
      rintro e5 w5 ⟨a5, c5, rfl, hi5, hn5, b5⟩
      have HW5 := Lib.hid (HW4.out.trans (b5.mono HW4.out.size))
      have HI5 := Lib.hid hi5
      clear b5 hi5
      have hlen : 0 < (ints (f :: rest)).length := by rw [ints_length, List.length_cons]; omega
      obtain ⟨b5, o5, rfl, hb5, hc5⟩ := HI5.out hlen
      have hc0 : w5.cell? ⟨b5, o5, none⟩ = some (.int .i64 (f : Int)) := hc5 0 hlen
      have HC5 := Lib.hid (show ∀ X, Below w5.heap.size w5 X → X.cell? ⟨b5, o5, none⟩ = some (.int .i64 (f : Int)) from fun X hX => (hX.cell (p := ⟨b5, o5, none⟩) hb5).trans hc0)
      clear hc5 hc0 HI5 hn5
      generalize (ints (f :: rest)).length = M at *
      have hcl := HCL.out
      have q1 : (p : Int) ≤ (l.length : Int) := by omega
      have q2 : (pl : Int) ≤ (p : Int) := by omega
      have q3 : (0 : Int) < (M : Int) := by omega
      have q4 : wrap64 ((N : Int) - (p : Int)) = (f : Int) := by rw [IntWalk.wrap64_in _ (by omega)]; omega
      have q6 : ((f : Int) == (f : Int)) = true := beq_self_eq_true _
      have q5 : (l.length : Int) ≤ (f : Int) := by omega
      have HQ := Lib.hid e1
      clear e5 hcl
      go_wp2_with fail
      refine (HPB.out _ HW5.out).mono ?_
      rintro e6 w6 ⟨rfl, b6⟩
      have hc6 := HC5.out _ b6
      have HW6 := Lib.hid (HW5.out.trans (b6.mono HW5.out.size))
      clear b6
      go_wp2
      go_ret
      exact ⟨rfl, HW.out.trans ((HW3.out.trans (HW6.out.mono HW3.out.size)).mono HW.out.size)⟩
  · have hkl : (150 : Int) < (l.length : Int) := by omega
    go_wp2
    go_ret
    exact ⟨rfl, HW.out⟩
end Go.Proofs.Ytpknaobmchmpdaa.suffixTwice
