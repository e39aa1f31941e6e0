/- Max. -/
import Derived.Test.YtpknaobmchmpdaaEe
namespace Go.Proofs.Ytpknaobmchmpdaa.Suf
open Go.RowKit Go.Maps Go.Proofs.Ytpknaobmchmpdaa.Crt
set_option maxRecDepth 100000
set_option linter.unusedVariables false

set_option maxHeartbeats 1000000 in
theorem max_any (w : World) (s : Tx) (a : Option Addr) (cap : Nat) (ha : Bs w w.heap.size a s) (hl : s.length ≤ 1000000) (t : Bool) :
    Calls Try.prog 10 #[.slice a s.length cap, .bool t] w fun e w' => e = .returned (.tuple #[.int .i64 (bestTo t s s.length : Int), .int .i64 (per (s.drop (bestTo t s s.length)) : Int)]) ∧ Below w.heap.size w w' := by
  have HA := Lib.hid ha
  have HO := Lib.hid (orderof_any w t)
  clear ha
  by_cases h0 : s = []
  · subst h0
    have hz : (([] : Tx).length : Int) = 0 := rfl
    go_enter Try.func10, Try.ntmps10
    go_wp2
    exact bodyPost_ret (v := .tuple #[.int .i64 0, .int .i64 0]) (by simp [results, Try.results10, go_sem]) rfl ⟨rfl, Below.refl _ _⟩
  · have hp := List.length_pos_iff.2 h0
    have hz : ((s.length : Int) == 0) = false := by simp; omega
    have HI := Lib.hid (inv_start t s h0)
    clear h0
    go_enter Try.func10, Try.ntmps10
    go_wp2_with (go_at_call 19; refine HO.out.mono ?_; rintro e w1 ⟨fn, caps, rfl, ho, hb⟩; have HO1 := Lib.hid ho; have HB1 := Lib.hid hb; clear ho hb)
    have hsz := HB1.out.size
    have hbw : Below w.heap.size w (w1.alloc (.cells #[.func (.func fn) #[] caps] 41)) := HB1.out.alloc hsz _
    have HA2 := Lib.hid (HA.out.keep hbw)
    have HO2 := Lib.hid (HO1.out.keep ((Below.refl _ _).alloc (Nat.le_refl _) (.cells #[.func (.func fn) #[] caps] 41)))
    obtain ⟨hc, _⟩ := cell_of1 (heap_alloc_new w1 (.cells #[.func (.func fn) #[] caps] 41))
    have HC := Lib.hid hc
    have HW := Lib.hid hbw
    have hcf := HO1.out.1
    have HCF := Lib.hid hcf
    clear hbw HA HB1 HO HO1 hc hcf
    generalize w1.heap.size = g at *
    generalize w1.alloc (.cells #[.func (.func fn) #[] caps] 41) = w2 at *
    obtain ⟨b1, o1, rfl, hb1, hcs⟩ := HA2.out hp
    have HS : Hid (∀ i, i < s.length → w2.cell? ⟨b1, o1 + i, none⟩ = some (.int .u8 ((at' s i).toNat : Int))) := Lib.hid fun i hi => by
      rw [at_eq hi]; exact hcs i hi
    clear hcs HA2
    go_loopw [7, 8, 9, 10] (fun vi vp vj vk wr => ∃ i j k p : Nat, vi = .int .i64 (i : Int) ∧ vp = .int .i64 (p : Int) ∧ vj = .int .i64 (j : Int) ∧ vk = .int .i64 (k : Int) ∧ Inv t s i j k p ∧ Drew w2 wr) (fun vi _ vj vk _ => 3 * s.length + 3 - ((intOf vi).toNat + 2 * (intOf vj).toNat + (intOf vk).toNat))
    case atStart => exact ⟨0, 1, 0, 1, rfl, rfl, rfl, rfl, HI.out, Drew.refl _⟩
    case round =>
      obtain ⟨i, j, k, p, rfl, rfl, rfl, rfl, hinv, hdr⟩ := hrel
      have HD := Lib.hid hdr
      have HIN := Lib.hid hinv
      obtain ⟨c, hc1, hjc⟩ := hinv.times
      have hpj : i + p ≤ j := by
        have := Nat.mul_le_mul_left p hc1
        omega
      have hkp := hinv.kp
      have hen := hinv.end'
      have hij := hinv.ij
      clear hinv hdr hjc hc1
      by_cases hlt : j + k < s.length
      · have hkl : (j : Int) + (k : Int) < (s.length : Int) := by omega
        obtain ⟨A, hA⟩ : ∃ A, A = i + k := ⟨_, rfl⟩
        obtain ⟨B, hB⟩ : ∃ B, B = j + k := ⟨_, rfl⟩
        have hwA : IntKind.i64.wrap ((i : Int) + (k : Int)) = (A : Int) := by rw [IntWalk.i64_in _ (by omega)]; omega
        have hwB : IntKind.i64.wrap ((j : Int) + (k : Int)) = (B : Int) := by rw [IntWalk.i64_in _ (by omega)]; omega
        have hA1 : A < s.length := by omega
        have hA2 : (A : Int) < (s.length : Int) := by omega
        have hB1 : B < s.length := by omega
        have hB2 : (B : Int) < (s.length : Int) := by omega
        have hc1 : wr.cell? ⟨b1, o1 + A, none⟩ = some (.int .u8 ((at' s A).toNat : Int)) := by obtain ⟨q, rfl⟩ := HD.out; exact HS.out A hA1
        have hc2 : wr.cell? ⟨b1, o1 + B, none⟩ = some (.int .u8 ((at' s B).toNat : Int)) := by obtain ⟨q, rfl⟩ := HD.out; exact HS.out B hB1
        have HLS : Hid (ltB t (at' s B) (at' s A) = true → Inv t s i (j + k + 1) 0 (j + k + 1 - i)) := Lib.hid fun h => HIN.out.lesser hlt (by rw [← hA, ← hB]; exact h)
        have HGR : Hid (ltB t (at' s A) (at' s B) = true → Inv t s j (j + 1) 0 1) := Lib.hid fun h => HIN.out.greater hlt (by rw [← hA, ← hB]; exact h)
        have HEQ : Hid (ltB t (at' s B) (at' s A) = false → ltB t (at' s A) (at' s B) = false → at' s (j + k) = at' s (i + k)) := Lib.hid fun h1 h2 => by
          rw [← hA, ← hB]
          rcases ltB_tri t (at' s A) (at' s B) with h | h | h
          · rw [h2] at h; cases h
          · exact h.symm
          · rw [h1] at h; cases h
        have HAB : Hid (A = i + k ∧ B = j + k) := Lib.hid ⟨hA, hB⟩
        clear hA hB
        go_wp2
        clear hkl
        go_quiet (fail)
        have HD3 := Lib.hid (HD.out.more nq)
        clear hc1 hc2 hwA hwB hA1 hA2 hB1 hB2
        generalize wr.drewN nq = w3 at *
        have hc : w3.cell? ⟨g, 0, none⟩ = some (.func (.func fn) #[] caps) := by obtain ⟨q, rfl⟩ := HD3.out; exact HC.out
        have HB3 : Hid (Below w2.heap.size w2 w3) := Lib.hid (by obtain ⟨q, rfl⟩ := HD3.out; exact below_drews (Below.refl _ _) q)
        have hcf := HCF.out
        have HO3 := Lib.hid (HO2.out.2 w3 HB3.out (at' s B) (at' s A))
        have HO4 := Lib.hid (HO2.out.2 w3 HB3.out (at' s A) (at' s B))
        cases hlb : ltB t (at' s B) (at' s A)
        · rw [hlb] at HO3
          cases hgb : ltB t (at' s A) (at' s B)
          · rw [hgb] at HO4
            have HE := Lib.hid (HEQ.out hlb hgb)
            clear hlb hgb
            by_cases hkp2 : k + 1 = p
            · have HNX := Lib.hid (HIN.out.whole hlt HE.out hkp2)
              have hd : ((k : Int) + 1 == (p : Int)) = true := by simp; omega
              have HK2 := Lib.hid hkp2
              clear hkp2
              go_wp2_with (first | (refine HO3.out.mono ?_; rintro e w4 ⟨rfl, rfl⟩) | (refine HO4.out.mono ?_; rintro e w4 ⟨rfl, rfl⟩))
              have hkp2 := HK2.out
              exact ⟨⟨i, j + p, 0, p, rfl, rfl, by go_num, rfl, HNX.out, HD3.out⟩, by simp [intOf]; omega⟩
            · have HNX := Lib.hid (HIN.out.same hlt HE.out (by omega))
              have hd : ((k : Int) + 1 == (p : Int)) = false := by simp; omega
              clear hkp2
              go_wp2_with (first | (refine HO3.out.mono ?_; rintro e w4 ⟨rfl, rfl⟩) | (refine HO4.out.mono ?_; rintro e w4 ⟨rfl, rfl⟩))
              exact ⟨⟨i, j, k + 1, p, rfl, rfl, rfl, by go_num, HNX.out, HD3.out⟩, by simp [intOf]; omega⟩
          · rw [hgb] at HO4
            have HNX := Lib.hid (HGR.out hgb)
            clear hlb hgb
            go_wp2_with (first | (refine HO3.out.mono ?_; rintro e w4 ⟨rfl, rfl⟩) | (refine HO4.out.mono ?_; rintro e w4 ⟨rfl, rfl⟩))
            exact ⟨⟨j, j + 1, 0, 1, rfl, rfl, by go_num, rfl, HNX.out, HD3.out⟩, by simp [intOf]; omega⟩
        · rw [hlb] at HO3
          have HNX := Lib.hid (HLS.out hlb)
          clear hlb
          go_wp2_with (refine HO3.out.mono ?_; rintro e w4 ⟨rfl, rfl⟩)
          exact ⟨⟨i, j + k + 1, 0, j + k + 1 - i, rfl, by go_num, by go_num, rfl, HNX.out, HD3.out⟩, by simp [intOf]; omega⟩
      · have hkl : ¬ (j : Int) + (k : Int) < (s.length : Int) := by omega
        obtain ⟨h1, h2⟩ := HIN.out.done (by omega)
        have HE : Hid (bestTo t s s.length = i ∧ per (s.drop i) = p) := Lib.hid ⟨best_is h1, per_is (fun e => by have := congrArg List.length e; rw [List.length_drop, List.length_nil] at this; have := h1.1; omega) h2⟩
        clear h1 h2
        go_wp2
        refine bodyPost_ret (v := .tuple #[.int .i64 (i : Int), .int .i64 (p : Int)]) (by simp [results, Try.results10, go_sem]) rfl ⟨by rw [HE.out.1, HE.out.2], ?_⟩
        obtain ⟨q, rfl⟩ := HD.out
        exact below_drews HW.out q
end Go.Proofs.Ytpknaobmchmpdaa.Suf
