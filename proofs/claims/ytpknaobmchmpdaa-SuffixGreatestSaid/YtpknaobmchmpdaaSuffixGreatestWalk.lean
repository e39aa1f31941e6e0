/- The walk of SuffixGreatest. -/
import Derived.Test.YtpknaobmchmpdaaEh
namespace Go.Proofs.Ytpknaobmchmpdaa.suffixGreatest
open Go.Proofs.Ytpknaobmchmpdaa.Suf Go.Proofs.Ytpknaobmchmpdaa.Crt Go.RowKit Go.Maps
set_option maxRecDepth 100000
set_option linter.unusedVariables false
open Go.Proofs.Ytpknaobmchmpdaa.Reg
attribute [local go_sem ↓] Go.wp_at_zero Go.wp_at_succ
set_option maxHeartbeats 16000000 in
theorem walk (w : World) (l : Tx) (a : Option Addr) (cap : Nat) (hm : l.length ≤ maxLen) (hb : Bs w w.heap.size a l) (hn0 : a = none → cap = 0) (hc0 : l.length ≤ cap) (t : Bool) (iv : Nat) (hi1 : iv < 65536) :
    Calls Try.prog 6 #[.slice a l.length cap, .bool t, .int .u16 (iv : Int)] w fun e w' => e = .returned (.bool true) ∧ Below w.heap.size w w' := by
  have HAW := Lib.hid (awake_any w)
  have Hhb := Lib.hid hb
  clear hb
  go_enter Try.func6, Try.ntmps6
  go_wp2_with fail
  refine HAW.out.mono ?_
  rintro e' w1 ⟨rfl, hb1⟩
  have HW := Lib.hid hb1
  have HBl : Hid (∀ X, Below w1.heap.size w1 X → Bs X X.heap.size a l) := Lib.hid fun X hX => ((Hhb.out.keep hb1).keep (hX.mono hb1.size)).more (Nat.le_trans hb1.size hX.size)
  clear hb1 HAW Hhb
  by_cases h1 : l.length ≤ 400
  · by_cases h0 : l = []
    · have hkl : ¬ (400 : Int) < (l.length : Int) := by omega
      have hz : ((l.length : Int) == 0) = true := by rw [h0]; rfl
      go_wp2
      go_ret
      exact ⟨rfl, HW.out⟩
    · have hkl : ¬ (400 : Int) < (l.length : Int) := by omega
      have hz : ((l.length : Int) == 0) = false := by simpa using h0
      have hd3 : decide ((400 : Int) < (l.length : Int)) = false := decide_eq_false (by omega)
      have hpos := List.length_pos_iff.2 h0
      obtain ⟨b1, o1, rfl, hbx, hcx⟩ := HBl.out w1 (Below.refl _ _) hpos
      clear hbx hcx hn0
      have hmx := best_max (t := t) h0
      have hpe := max_per hmx
      have HMX := Lib.hid hmx
      have HM := Lib.hid (max_any w1 l _ cap (HBl.out w1 (Below.refl _ _)) (by omega) t)
      have hat := hmx.1
      clear hmx
      generalize hA : bestTo t l l.length = A at *
      have hpl := per_least (s := l.drop A) (fun e => by have := congrArg List.length e; rw [List.length_drop, List.length_nil] at this; omega)
      have HPL := Lib.hid hpl
      generalize hP : per (l.drop A) = P at *
      have HPP := Lib.hid hP
      clear hA hP hpl
      obtain ⟨hp1, hp2⟩ := hpe
      obtain ⟨k, hk⟩ : ∃ k : Nat, iv % l.length = k := ⟨_, rfl⟩
      have hkl2 : k < l.length := by rw [← hk]; exact Nat.mod_lt _ hpos
      have hmod : (iv : Int) % (l.length : Int) = (k : Int) := by rw [← hk]; simp
      clear hk
      have hg1 : decide ((A : Int) < 0) = false := decide_eq_false (by omega)
      have hg2 : decide (l.length ≤ A) = false := decide_eq_false (by omega)
      have hg3 : decide ((P : Int) < 1) = false := decide_eq_false (by omega)
      have hg4 : decide ((l.length : Int) - (A : Int) < (P : Int)) = false := decide_eq_false (by omega)
      go_wp2_with fail
      refine HM.out.mono ?_
      rintro e2 w2 ⟨rfl, b2⟩
      have HW2 := Lib.hid b2
      clear b2 HM
      have HPER : Hid (∀ j, A ≤ j → j + P < l.length → at' l j = at' l (j + P)) := Lib.hid fun j h1 h2 => by
        have := HPL.out.1.2 (j - A) (by rw [List.length_drop]; omega)
        rw [List.getElem_drop, List.getElem_drop, ← at_eq, ← at_eq] at this
        rw [show A + (j - A) = j by omega, show A + (j - A + P) = j + P by omega] at this
        exact this
      have hslA := fun W => run_back b1 o1 l.length cap A hat hc0 W
      have hslK := fun W => run_back b1 o1 l.length cap k hkl2 hc0 W
      have HBE : Hid (∀ X, Below w2.heap.size w2 X → Bs X X.heap.size (some ⟨b1, o1, none⟩) l) := Lib.hid fun X hX => HBl.out X (HW2.out.trans (hX.mono HW2.out.size))
      have hcvA : ∀ q c, (convert 22 9 (.slice (some ⟨b1, o1 + A, none⟩) (l.length - A) c)).run Try.prog (w2.drewN q) = .ok (.string (str (l.drop A))) (w2.drewN q) := fun q c => str_back (HBE.out _ (below_drews (Below.refl _ _) q)) A c
      have hcvK : ∀ q c, (convert 22 9 (.slice (some ⟨b1, o1 + k, none⟩) (l.length - k) c)).run Try.prog (w2.drewN q) = .ok (.string (str (l.drop k))) (w2.drewN q) := fun q c => str_back (HBE.out _ (below_drews (Below.refl _ _) q)) k c
      have HAL := Lib.hid hat
      by_cases hka : k = A
      · have hne : ((k : Int) != (A : Int)) = false := by simp; omega
        clear hka hcvK hslK hcvA
        go_wp2
        go_quiet (fail)
        have HD := Lib.hid ((Drew.refl w2).more nq)
        generalize w2.drewN nq = w4 at *
        go_wp2
        go_loopw [11] (fun v wr => ∃ j : Nat, A ≤ j ∧ j + P ≤ l.length ∧ v = .int .i64 (j : Int) ∧ Drew w2 wr) (fun v _ => l.length - (intOf v).toNat)
        case atStart => exact ⟨A, Nat.le_refl _, hp2, rfl, HD.out⟩
        case round =>
          obtain ⟨j, hj1, hj2, rfl, hdr⟩ := hrel
          have HB2 : Hid (Below w2.heap.size w2 wr) := Lib.hid (by obtain ⟨q, rfl⟩ := hdr; exact below_drews (Below.refl _ _) q)
          have HDR := Lib.hid hdr
          clear hdr
          by_cases hlt : j + P < l.length
          · have hjl : (j : Int) < (l.length : Int) - (P : Int) := by omega
            obtain ⟨B, hB⟩ : ∃ B, B = j + P := ⟨_, rfl⟩
            have hwB : IntKind.i64.wrap ((j : Int) + (P : Int)) = (B : Int) := by rw [IntWalk.i64_in _ (by omega)]; omega
            have hj3 : j < l.length := by omega
            have hj4 : (j : Int) < (l.length : Int) := by omega
            have hB1 : B < l.length := by omega
            have hB2 : (B : Int) < (l.length : Int) := by omega
            have hc1 : wr.cell? ⟨b1, o1 + j, none⟩ = some (.int .u8 ((at' l j).toNat : Int)) := by
              obtain ⟨b', o', e, _, hc⟩ := HBE.out _ HB2.out hpos
              cases e
              rw [at_eq hj3]; exact hc j hj3
            have hc2 : wr.cell? ⟨b1, o1 + B, none⟩ = some (.int .u8 ((at' l j).toNat : Int)) := by
              obtain ⟨b', o', e, _, hc⟩ := HBE.out _ HB2.out hpos
              cases e
              rw [HPER.out j hj1 hlt, ← hB, at_eq hB1]; exact hc B hB1
            have HBD := Lib.hid hB
            have hbe := u8_bne (at' l j) (at' l j)
            rw [decide_eq_false (fun h => h rfl)] at hbe
            clear hB
            go_wp2
            clear hjl
            go_quiet (fail)
            go_wp2
            exact ⟨⟨j + 1, by omega, by omega, by go_num, HDR.out.more _⟩, by simp [intOf]; omega⟩
          · have hjl : ¬ (j : Int) < (l.length : Int) - (P : Int) := by omega
            have HPC := Lib.hid (fun X (hX : Below w2.heap.size w2 X) => period_any X (l.drop A) _ (cap - A) (bs_back (HBE.out X hX) A) (by rw [List.length_drop]; omega))
            rw [HPP.out, List.length_drop] at HPC
            have hself : ((P : Int) == (P : Int)) = true := beq_self_eq_true _
            go_wp2_with fail
            refine (HPC.out _ HB2.out).mono ?_
            rintro e5 w5 ⟨rfl, b5⟩
            go_wp2
            go_ret
            exact ⟨rfl, HW.out.trans ((HW2.out.trans ((HB2.out.trans (b5.mono HB2.out.size)).mono HW2.out.size)).mono HW.out.size)⟩
      · have hne : ((k : Int) != (A : Int)) = true := by simp; omega
        have HR := Lib.hid (fun X => rless_any X (l.drop k) (l.drop A) (by rw [List.length_drop]; omega) (by rw [List.length_drop]; omega) t)
        rw [HMX.out.2 k hkl2 hka] at HR
        clear hka
        go_wp2
        go_quiet ((go_at_call 18; exact Calls.quiet_of (HR.out _)))
        have HD := Lib.hid ((Drew.refl w2).more nq)
        generalize w2.drewN nq = w4 at *
        go_wp2
        go_loopw [11] (fun v wr => ∃ j : Nat, A ≤ j ∧ j + P ≤ l.length ∧ v = .int .i64 (j : Int) ∧ Drew w2 wr) (fun v _ => l.length - (intOf v).toNat)
        case atStart => exact ⟨A, Nat.le_refl _, hp2, rfl, HD.out⟩
        case round =>
          obtain ⟨j, hj1, hj2, rfl, hdr⟩ := hrel
          have HB2 : Hid (Below w2.heap.size w2 wr) := Lib.hid (by obtain ⟨q, rfl⟩ := hdr; exact below_drews (Below.refl _ _) q)
          have HDR := Lib.hid hdr
          clear hdr
          by_cases hlt : j + P < l.length
          · have hjl : (j : Int) < (l.length : Int) - (P : Int) := by omega
            obtain ⟨B, hB⟩ : ∃ B, B = j + P := ⟨_, rfl⟩
            have hwB : IntKind.i64.wrap ((j : Int) + (P : Int)) = (B : Int) := by rw [IntWalk.i64_in _ (by omega)]; omega
            have hj3 : j < l.length := by omega
            have hj4 : (j : Int) < (l.length : Int) := by omega
            have hB1 : B < l.length := by omega
            have hB2 : (B : Int) < (l.length : Int) := by omega
            have hc1 : wr.cell? ⟨b1, o1 + j, none⟩ = some (.int .u8 ((at' l j).toNat : Int)) := by
              obtain ⟨b', o', e, _, hc⟩ := HBE.out _ HB2.out hpos
              cases e
              rw [at_eq hj3]; exact hc j hj3
            have hc2 : wr.cell? ⟨b1, o1 + B, none⟩ = some (.int .u8 ((at' l j).toNat : Int)) := by
              obtain ⟨b', o', e, _, hc⟩ := HBE.out _ HB2.out hpos
              cases e
              rw [HPER.out j hj1 hlt, ← hB, at_eq hB1]; exact hc B hB1
            have HBD := Lib.hid hB
            have hbe := u8_bne (at' l j) (at' l j)
            rw [decide_eq_false (fun h => h rfl)] at hbe
            clear hB
            go_wp2
            clear hjl
            go_quiet (fail)
            go_wp2
            exact ⟨⟨j + 1, by omega, by omega, by go_num, HDR.out.more _⟩, by simp [intOf]; omega⟩
          · have hjl : ¬ (j : Int) < (l.length : Int) - (P : Int) := by omega
            have HPC := Lib.hid (fun X (hX : Below w2.heap.size w2 X) => period_any X (l.drop A) _ (cap - A) (bs_back (HBE.out X hX) A) (by rw [List.length_drop]; omega))
            rw [HPP.out, List.length_drop] at HPC
            have hself : ((P : Int) == (P : Int)) = true := beq_self_eq_true _
            go_wp2_with fail
            refine (HPC.out _ HB2.out).mono ?_
            rintro e5 w5 ⟨rfl, b5⟩
            go_wp2
            go_ret
            exact ⟨rfl, HW.out.trans ((HW2.out.trans ((HB2.out.trans (b5.mono HB2.out.size)).mono HW2.out.size)).mono HW.out.size)⟩
  · have hkl : (400 : Int) < (l.length : Int) := by omega
    go_wp2
    go_ret
    exact ⟨rfl, HW.out⟩
end Go.Proofs.Ytpknaobmchmpdaa.suffixGreatest
