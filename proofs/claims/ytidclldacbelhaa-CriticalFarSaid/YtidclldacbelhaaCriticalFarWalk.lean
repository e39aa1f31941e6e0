/- The walk of CriticalFar. -/
import Derived.Test.YtidclldacbelhaaIh
namespace Go.Proofs.Ytidclldacbelhaa.criticalFar
open Go.Proofs.Ytidclldacbelhaa.Cut Go.Proofs.Ytidclldacbelhaa.Suf Go.Proofs.Ytidclldacbelhaa.Crt Go.RowKit Go.Maps
set_option maxRecDepth 100000
set_option linter.unusedVariables false

theorem fac_parts (s : Tx) : ∃ (i p : Nat) (b : Bool), facV s = .agg #[.int .i64 (i : Int), .int .i64 (p : Int), .bool b] ∧ (s ≠ [] → i = cutAt s ∧ p = movePer s ∧ b = smallB s) := by
  by_cases h : s = []
  · exact ⟨0, 0, false, by rw [facV, if_pos h]; rfl, fun h2 => absurd h h2⟩
  · exact ⟨cutAt s, movePer s, smallB s, by rw [facV, if_neg h], fun _ => ⟨rfl, rfl, rfl⟩⟩
set_option maxHeartbeats 8000000 in
theorem walk (w : World) (l : Tx) (a : Option Addr) (cap : Nat) (hm : l.length ≤ maxLen) (hb : Bs w w.heap.size a l) :
    Calls Try.prog 7 #[.slice a l.length cap] w fun e w' => e = .returned (.bool true) ∧ Below w.heap.size w w' := by
  have HAW := Lib.hid (awake_any w)
  have Hhb := Lib.hid hb
  clear hb
  go_enter Try.func7, Try.ntmps7
  go_wp2_with fail
  refine HAW.out.mono ?_
  rintro e' w1 ⟨rfl, hb1⟩
  have HW := Lib.hid hb1
  have HBl : Hid (∀ X, Below w1.heap.size w1 X → Bs X X.heap.size a l) := Lib.hid fun X hX => ((Hhb.out.keep hb1).keep (hX.mono hb1.size)).more (Nat.le_trans hb1.size hX.size)
  clear hb1 HAW Hhb
  by_cases h1 : l.length ≤ 200
  · by_cases h0 : l = []
    · have hkl : ¬ (200 : Int) < (l.length : Int) := by omega
      have hz : ((l.length : Int) == 0) = true := by rw [h0]; rfl
      go_wp2
      go_ret
      exact ⟨rfl, HW.out⟩
    · have hkl : ¬ (200 : Int) < (l.length : Int) := by omega
      have hz : ((l.length : Int) == 0) = false := by simpa using h0
      have HF := Lib.hid (factor_any w1 l a cap (HBl.out w1 (Below.refl _ _)) (by omega))
      obtain ⟨i, p, b, hV, hp⟩ := fac_parts l
      obtain ⟨rfl, rfl, rfl⟩ := hp h0
      have hcl := cut_len h0
      obtain ⟨hq1, hql⟩ := cutPer_le h0
      have hsm : smallB l = true → Crt.Per l (movePer l) := fun h => by rw [movePer, if_pos h, ← small_is h0 ((smallB_iff h0).1 h)]; exact (per_least h0).1
      have hmv : movePer l = if smallB l then cutPer l else max (cutAt l) (l.length - cutAt l) + 1 := rfl
      rw [hV] at HF
      obtain ⟨C, hC⟩ : ∃ C, C = cutAt l := ⟨_, rfl⟩
      obtain ⟨Q, hQ⟩ : ∃ Q, Q = cutPer l := ⟨_, rfl⟩
      obtain ⟨M, hM⟩ : ∃ M, M = movePer l := ⟨_, rfl⟩
      rw [← hC] at HF hcl hmv hql
      rw [← hQ] at hmv hql hq1
      rw [← hM] at HF hsm hmv
      cases hB : smallB l
      · rw [hB] at HF hmv
        rw [if_neg (by simp)] at hmv
        clear hV hp hC hQ hB hsm h0 hM
        go_wp2_with fail
        refine HF.out.mono ?_
        rintro e w2 ⟨rfl, hb2⟩
        have HB2 := Lib.hid hb2
        clear hb2
        have hb3 : Below w2.heap.size w2 (w2.alloc (.cells #[.int .i64 (C : Int), .int .i64 (M : Int), .bool false] 25)) := (Below.refl _ _).alloc (Nat.le_refl _) _
        have hg3 : Blk3 (w2.alloc (.cells #[.int .i64 (C : Int), .int .i64 (M : Int), .bool false] 25)) w2.heap.size 25 (.int .i64 (C : Int)) (.int .i64 (M : Int)) (.bool false) := heap_alloc_new w2 _
        have HB3 := Lib.hid (HB2.out.trans (hb3.mono HB2.out.size))
        have HB4 := Lib.hid (HW.out.trans (HB3.out.mono HW.out.size))
        obtain ⟨c0, c1, c2⟩ := hg3.cells
        have HG3 := Lib.hid hg3
        clear hb3 hg3 HB2
        have hmx : max (C : Int) ((l.length : Int) - (C : Int)) + 1 = (M : Int) := by omega
        have hself : ((M : Int) == (M : Int)) = true := by simp
        have hML : (M : Int) ≤ (l.length : Int) + 1 := by omega
        clear hmv
        go_wp2
        go_ret
        exact ⟨rfl, HB4.out⟩
      · rw [hB] at HF hmv hsm
        rw [if_pos rfl] at hmv
        have HPER := Lib.hid (hsm rfl)
        clear hV hp hC hQ hB hsm h0 hM
        go_wp2_with fail
        refine HF.out.mono ?_
        rintro e w2 ⟨rfl, hb2⟩
        have HB2 := Lib.hid hb2
        clear hb2
        subst hmv
        have hb3 : Below w2.heap.size w2 (w2.alloc (.cells #[.int .i64 (C : Int), .int .i64 (M : Int), .bool true] 25)) := (Below.refl _ _).alloc (Nat.le_refl _) _
        have hg3 : Blk3 (w2.alloc (.cells #[.int .i64 (C : Int), .int .i64 (M : Int), .bool true] 25)) w2.heap.size 25 (.int .i64 (C : Int)) (.int .i64 (M : Int)) (.bool true) := heap_alloc_new w2 _
        have HB3 := Lib.hid (HB2.out.trans (hb3.mono HB2.out.size))
        have HB4 := Lib.hid (HW.out.trans (HB3.out.mono HW.out.size))
        obtain ⟨c0, c1, c2⟩ := hg3.cells
        have HG3 := Lib.hid hg3
        clear hb3 hg3 HB2
        have hn1 : ¬ (M : Int) < 1 := by omega
        have hn2 : ¬ (l.length : Int) < (M : Int) := by omega
        have hd1 : decide ((M : Int) < 1) = false := decide_eq_false hn1
        have hd2 : decide ((l.length : Int) < (M : Int)) = false := decide_eq_false hn2
        go_wp2_with fail
        clear c0 c1 c2
        generalize w2.alloc (.cells #[.int .i64 (C : Int), .int .i64 (M : Int), .bool true] 25) = w3 at *
        go_loopw [5] (fun v wr => ∃ j : Nat, M ≤ j ∧ j ≤ l.length ∧ v = .int .i64 (j : Int) ∧ Drew w3 wr) (fun v _ => l.length - (intOf v).toNat)
        case atStart => exact ⟨M, Nat.le_refl _, by omega, rfl, Drew.refl _⟩
        case round =>
          obtain ⟨j, hj1, hj2, rfl, hdr⟩ := hrel
          have HD := Lib.hid hdr
          clear hdr
          by_cases hjl : j < l.length
          · have hjl2 : (j : Int) < (l.length : Int) := by omega
            obtain ⟨b1, o1, rfl, hbx, hcs⟩ := HBl.out w3 HB3.out (by omega)
            obtain ⟨D, hD⟩ : ∃ D, D = j - M := ⟨_, rfl⟩
            have hDl : D < l.length := by omega
            have hDi : (D : Int) < (l.length : Int) := by omega
            have hwD : IntKind.i64.wrap ((j : Int) - (M : Int)) = (D : Int) := by rw [IntWalk.i64_in _ (by omega)]; omega
            have hk1 : wr.cell? ⟨b1, o1 + j, none⟩ = some (.int .u8 ((at' l j).toNat : Int)) := by obtain ⟨q, rfl⟩ := HD.out; rw [at_eq hjl]; exact hcs j hjl
            have hk2 : wr.cell? ⟨b1, o1 + D, none⟩ = some (.int .u8 ((at' l D).toNat : Int)) := by obtain ⟨q, rfl⟩ := HD.out; rw [at_eq hDl]; exact hcs D hDl
            have he : at' l D = at' l j := by
              have := HPER.out.2 D (by omega)
              rw [at_eq hDl, at_eq hjl, this]
              congr 1
              omega
            rw [he] at hk2
            have hbn : (((at' l j).toNat : Int) != ((at' l j).toNat : Int)) = false := by simp
            have hcq : wr.cell? ⟨w2.heap.size, 1, none⟩ = some (.int .i64 (M : Int)) := by obtain ⟨q, rfl⟩ := HD.out; exact HG3.out.cells.2.1
            clear hcs hbx hD he
            go_wp2
            go_quiet (fail)
            go_wp2
            exact ⟨⟨j + 1, by omega, by omega, by go_num, HD.out.more _⟩, by simp [intOf]; omega⟩
          · have hjl2 : ¬ (j : Int) < (l.length : Int) := by omega
            go_wp2
            go_ret
            exact ⟨rfl, by obtain ⟨q, rfl⟩ := HD.out; exact below_drews HB4.out q⟩
  · have hkl : (200 : Int) < (l.length : Int) := by omega
    go_wp2
    go_ret
    exact ⟨rfl, HW.out⟩
end Go.Proofs.Ytidclldacbelhaa.criticalFar
