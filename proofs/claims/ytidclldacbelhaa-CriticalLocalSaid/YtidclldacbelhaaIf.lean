/- The reference's Factor and Local. -/
import Derived.Test.YtidclldacbelhaaIe
namespace Go.Proofs.Ytidclldacbelhaa.Cut
open Go.RowKit Go.Maps Go.Proofs.Ytidclldacbelhaa.Crt Go.Proofs.Ytidclldacbelhaa.Suf Go.Proofs.Ytidclldacbelhaa.Reg
set_option maxRecDepth 100000
set_option linter.unusedVariables false

theorem str_mid (x : Tx) (p k : Nat) : (str x).extract p (p + k) = str ((x.drop p).take k) := by
  unfold str
  rw [ByteArray.extract_mk]
  congr 1
  show (List.take (p + k - p) (x.drop p)).toArray = _
  rw [Nat.add_sub_cancel_left]
theorem str_emp (l : Tx) : (str l).toList.isEmpty = decide (l = []) := by
  rw [ByteArray.toList_eq]; show l.isEmpty = _; cases l <;> simp
set_option maxHeartbeats 4000000 in
theorem rfactor_any (w : World) (s : Tx) (hl : s.length ≤ 1000) :
    Calls Try.prog 10 #[.string (str s)] w fun e w' => e = .returned (facV s) ∧ Below w.heap.size w w' := by
  have hz := str_size s
  have hemp := str_emp s
  by_cases h0 : s = []
  · subst h0
    rw [decide_eq_true rfl] at hemp
    have hbk : Blk3 (w.alloc (.cells #[.int .i64 0, .int .i64 0, .bool false] 27)) w.heap.size 27 (.int .i64 0) (.int .i64 0) (.bool false) := heap_alloc_new w _
    obtain ⟨c0, c1, c2⟩ := hbk.cells
    go_enter Try.func10, Try.ntmps10
    go_wp2
    refine bodyPost_ret (v := .agg #[.int .i64 0, .int .i64 0, .bool false]) (by simp [results, Try.results10, go_sem, c0, c1, c2]) rfl ⟨by rw [facV, if_pos rfl], (Below.refl _ _).alloc (Nat.le_refl _) _⟩
  · rw [decide_eq_false h0] at hemp
    have HM := Lib.hid (fun X t => rmax_any X s (by omega) t)
    obtain ⟨F, hF⟩ : ∃ F, F = bestTo false s s.length := ⟨_, rfl⟩
    obtain ⟨G, hG⟩ : ∃ G, G = bestTo true s s.length := ⟨_, rfl⟩
    obtain ⟨PF, hPF⟩ : ∃ P, P = per (s.drop F) := ⟨_, rfl⟩
    obtain ⟨PG, hPG⟩ : ∃ P, P = per (s.drop G) := ⟨_, rfl⟩
    have HM1 := Lib.hid (fun X => HM.out X false)
    have HM2 := Lib.hid (fun X => HM.out X true)
    rw [← hF, ← hPF] at HM1
    rw [← hG, ← hPG] at HM2
    have hcut : cutAt s = if F < G then G else F := by rw [cutAt, hF, hG]
    have hcp : cutPer s = if F < G then PG else PF := by
      rw [cutPer, hcut]; split
      · rw [hPG]
      · rw [hPF]
    obtain ⟨hq1, hql⟩ := cutPer_le h0
    have HFV : Hid (facV s = .agg #[.int .i64 (cutAt s : Int), .int .i64 (movePer s : Int), .bool (smallB s)]) := Lib.hid (by rw [facV, if_neg h0])
    have hsm : smallB s = decide (s.take (cutAt s) = (s.drop (cutPer s)).take (cutAt s)) := rfl
    have hmp : movePer s = if smallB s then cutPer s else max (cutAt s) (s.length - cutAt s) + 1 := rfl
    clear HM hF hG hPF hPG
    go_enter Try.func10, Try.ntmps10
    go_wp2_with fail
    have hb0 : Below w.heap.size w (w.alloc (.cells #[.int .i64 0, .int .i64 0, .bool false] 27)) := (Below.refl _ _).alloc (Nat.le_refl _) _
    have hg0 : Blk3 (w.alloc (.cells #[.int .i64 0, .int .i64 0, .bool false] 27)) w.heap.size 27 (.int .i64 0) (.int .i64 0) (.bool false) := heap_alloc_new w _
    have HB0 := Lib.hid hb0
    have HG0 := Lib.hid hg0
    clear hb0 hg0
    generalize w.alloc (.cells #[.int .i64 0, .int .i64 0, .bool false] 27) = w0 at *
    refine (HM1.out _).mono ?_
    rintro e w1 ⟨rfl, hd1⟩
    have HD1 := Lib.hid hd1
    clear hd1
    go_wp2_with fail
    refine (HM2.out _).mono ?_
    rintro e w2 ⟨rfl, hd2⟩
    have HD2 := Lib.hid (HD1.out.trans hd2)
    clear hd2 HD1 HM1 HM2
    have HB2 : Hid (Below w.heap.size w w2) := Lib.hid (by obtain ⟨q, rfl⟩ := HD2.out; exact below_drews HB0.out q)
    have HG2 : Hid (Blk3 w2 w.heap.size 27 (.int .i64 0) (.int .i64 0) (.bool false)) := Lib.hid (by obtain ⟨q, rfl⟩ := HD2.out; exact HG0.out)
    clear HD2 HB0 HG0
    by_cases hfg : F < G
    · rw [if_pos hfg] at hcut hcp
      have hfg2 : (F : Int) < (G : Int) := by omega
      have hCl : G + PG ≤ s.length := by rw [hcut, hcp] at hql; omega
      rw [hcut, hcp] at hsm hmp
      rw [hcut] at HFV
      have hCi : (G : Int) ≤ (s.length : Int) := by omega
      obtain ⟨E, hE⟩ : ∃ E, E = PG + G := ⟨_, rfl⟩
      have hwE : IntKind.i64.wrap ((PG : Int) + (G : Int)) = (E : Int) := by rw [IntWalk.i64_in _ (by omega)]; omega
      have hEi : (E : Int) ≤ (s.length : Int) := by omega
      have hQE : (PG : Int) ≤ (E : Int) := by omega
      have hx1 := Tri.str_take s G
      have hx2 := str_mid s PG G
      rw [← hE] at hx2
      have hbe := Tri.str_beq (s.take G) ((s.drop PG).take G)
      rw [← hsm] at hbe
      obtain ⟨B, hB⟩ : ∃ B, B = smallB s := ⟨_, rfl⟩
      rw [← hB] at hbe hmp HFV
      have HMP := Lib.hid hmp
      have HCL := Lib.hid hCl
      clear hcut hcp hql hsm hmp hCl hE hB
      go_wp2_with fail
      go_quiet (fail)
      have HB3 := Lib.hid (below_drews HB2.out nq)
      have HG3 : Hid (Blk3 (w2.drewN nq) w.heap.size 27 (.int .i64 0) (.int .i64 0) (.bool false)) := HG2
      generalize w2.drewN nq = w3 at *
      obtain ⟨c0, c1, c2⟩ := HG3.out.cells
      obtain ⟨f0, f1, f2⟩ := HG3.out.free
      cases B
      · have hCl := HCL.out
        obtain ⟨D, hD⟩ : ∃ D, D = s.length - G := ⟨_, rfl⟩
        have hwD : IntKind.i64.wrap ((s.length : Int) - (G : Int)) = (D : Int) := by rw [IntWalk.i64_in _ (by omega)]; omega
        have hmp := HMP.out
        rw [if_neg (by simp), ← hD] at hmp
        by_cases hCD : G < D
        · have hCD2 : (G : Int) < (D : Int) := by omega
          have HE : Hid (facV s = .agg #[.int .i64 (G : Int), .int .i64 ((D : Int) + 1), .bool false]) := Lib.hid (by rw [HFV.out, hmp, show max G D + 1 = D + 1 by omega]; rfl)
          have HPUT := Lib.hid (HG3.out.put (.int .i64 (G : Int)) (.int .i64 ((D : Int) + 1)) (.bool false))
          have HBP := Lib.hid (below_put3 HB3.out (Nat.le_refl w.heap.size) (.int .i64 (G : Int)) (.int .i64 ((D : Int) + 1)) (.bool false))
          unfold put3 at HPUT HBP
          have hDl : (D : Int) ≤ (s.length : Int) := by omega
          clear hmp hD hCl hCD
          go_wp2
          obtain ⟨d0, d1, d2⟩ := HPUT.out.cells
          refine bodyPost_ret (v := .agg #[.int .i64 (G : Int), .int .i64 ((D : Int) + 1), .bool false]) (by simp [results, Try.results10, go_sem, d0, d1, d2]) rfl ⟨by rw [HE.out], HBP.out⟩
        · have hCD2 : ¬ (G : Int) < (D : Int) := by omega
          have HE : Hid (facV s = .agg #[.int .i64 (G : Int), .int .i64 ((G : Int) + 1), .bool false]) := Lib.hid (by rw [HFV.out, hmp, show max G D + 1 = G + 1 by omega]; rfl)
          have HPUT := Lib.hid (HG3.out.put (.int .i64 (G : Int)) (.int .i64 ((G : Int) + 1)) (.bool false))
          have HBP := Lib.hid (below_put3 HB3.out (Nat.le_refl w.heap.size) (.int .i64 (G : Int)) (.int .i64 ((G : Int) + 1)) (.bool false))
          unfold put3 at HPUT HBP
          clear hmp hD hCl hCD
          go_wp2
          obtain ⟨d0, d1, d2⟩ := HPUT.out.cells
          refine bodyPost_ret (v := .agg #[.int .i64 (G : Int), .int .i64 ((G : Int) + 1), .bool false]) (by simp [results, Try.results10, go_sem, d0, d1, d2]) rfl ⟨by rw [HE.out], HBP.out⟩
      · have HE : Hid (facV s = .agg #[.int .i64 (G : Int), .int .i64 (PG : Int), .bool true]) := Lib.hid (by rw [HFV.out, HMP.out]; rfl)
        have HPUT := Lib.hid (HG3.out.put (.int .i64 (G : Int)) (.int .i64 (PG : Int)) (.bool true))
        have HBP := Lib.hid (below_put3 HB3.out (Nat.le_refl w.heap.size) (.int .i64 (G : Int)) (.int .i64 (PG : Int)) (.bool true))
        unfold put3 at HPUT HBP
        go_wp2
        obtain ⟨d0, d1, d2⟩ := HPUT.out.cells
        refine bodyPost_ret (v := .agg #[.int .i64 (G : Int), .int .i64 (PG : Int), .bool true]) (by simp [results, Try.results10, go_sem, d0, d1, d2]) rfl ⟨by rw [HE.out], HBP.out⟩
    · rw [if_neg hfg] at hcut hcp
      have hfg2 : ¬ (F : Int) < (G : Int) := by omega
      have hCl : F + PF ≤ s.length := by rw [hcut, hcp] at hql; omega
      rw [hcut, hcp] at hsm hmp
      rw [hcut] at HFV
      have hCi : (F : Int) ≤ (s.length : Int) := by omega
      obtain ⟨E, hE⟩ : ∃ E, E = PF + F := ⟨_, rfl⟩
      have hwE : IntKind.i64.wrap ((PF : Int) + (F : Int)) = (E : Int) := by rw [IntWalk.i64_in _ (by omega)]; omega
      have hEi : (E : Int) ≤ (s.length : Int) := by omega
      have hQE : (PF : Int) ≤ (E : Int) := by omega
      have hx1 := Tri.str_take s F
      have hx2 := str_mid s PF F
      rw [← hE] at hx2
      have hbe := Tri.str_beq (s.take F) ((s.drop PF).take F)
      rw [← hsm] at hbe
      obtain ⟨B, hB⟩ : ∃ B, B = smallB s := ⟨_, rfl⟩
      rw [← hB] at hbe hmp HFV
      have HMP := Lib.hid hmp
      have HCL := Lib.hid hCl
      clear hcut hcp hql hsm hmp hCl hE hB
      go_wp2_with fail
      go_quiet (fail)
      have HB3 := Lib.hid (below_drews HB2.out nq)
      have HG3 : Hid (Blk3 (w2.drewN nq) w.heap.size 27 (.int .i64 0) (.int .i64 0) (.bool false)) := HG2
      generalize w2.drewN nq = w3 at *
      obtain ⟨c0, c1, c2⟩ := HG3.out.cells
      obtain ⟨f0, f1, f2⟩ := HG3.out.free
      cases B
      · have hCl := HCL.out
        obtain ⟨D, hD⟩ : ∃ D, D = s.length - F := ⟨_, rfl⟩
        have hwD : IntKind.i64.wrap ((s.length : Int) - (F : Int)) = (D : Int) := by rw [IntWalk.i64_in _ (by omega)]; omega
        have hmp := HMP.out
        rw [if_neg (by simp), ← hD] at hmp
        by_cases hCD : F < D
        · have hCD2 : (F : Int) < (D : Int) := by omega
          have HE : Hid (facV s = .agg #[.int .i64 (F : Int), .int .i64 ((D : Int) + 1), .bool false]) := Lib.hid (by rw [HFV.out, hmp, show max F D + 1 = D + 1 by omega]; rfl)
          have HPUT := Lib.hid (HG3.out.put (.int .i64 (F : Int)) (.int .i64 ((D : Int) + 1)) (.bool false))
          have HBP := Lib.hid (below_put3 HB3.out (Nat.le_refl w.heap.size) (.int .i64 (F : Int)) (.int .i64 ((D : Int) + 1)) (.bool false))
          unfold put3 at HPUT HBP
          have hDl : (D : Int) ≤ (s.length : Int) := by omega
          clear hmp hD hCl hCD
          go_wp2
          obtain ⟨d0, d1, d2⟩ := HPUT.out.cells
          refine bodyPost_ret (v := .agg #[.int .i64 (F : Int), .int .i64 ((D : Int) + 1), .bool false]) (by simp [results, Try.results10, go_sem, d0, d1, d2]) rfl ⟨by rw [HE.out], HBP.out⟩
        · have hCD2 : ¬ (F : Int) < (D : Int) := by omega
          have HE : Hid (facV s = .agg #[.int .i64 (F : Int), .int .i64 ((F : Int) + 1), .bool false]) := Lib.hid (by rw [HFV.out, hmp, show max F D + 1 = F + 1 by omega]; rfl)
          have HPUT := Lib.hid (HG3.out.put (.int .i64 (F : Int)) (.int .i64 ((F : Int) + 1)) (.bool false))
          have HBP := Lib.hid (below_put3 HB3.out (Nat.le_refl w.heap.size) (.int .i64 (F : Int)) (.int .i64 ((F : Int) + 1)) (.bool false))
          unfold put3 at HPUT HBP
          clear hmp hD hCl hCD
          go_wp2
          obtain ⟨d0, d1, d2⟩ := HPUT.out.cells
          refine bodyPost_ret (v := .agg #[.int .i64 (F : Int), .int .i64 ((F : Int) + 1), .bool false]) (by simp [results, Try.results10, go_sem, d0, d1, d2]) rfl ⟨by rw [HE.out], HBP.out⟩
      · have HE : Hid (facV s = .agg #[.int .i64 (F : Int), .int .i64 (PF : Int), .bool true]) := Lib.hid (by rw [HFV.out, HMP.out]; rfl)
        have HPUT := Lib.hid (HG3.out.put (.int .i64 (F : Int)) (.int .i64 (PF : Int)) (.bool true))
        have HBP := Lib.hid (below_put3 HB3.out (Nat.le_refl w.heap.size) (.int .i64 (F : Int)) (.int .i64 (PF : Int)) (.bool true))
        unfold put3 at HPUT HBP
        go_wp2
        obtain ⟨d0, d1, d2⟩ := HPUT.out.cells
        refine bodyPost_ret (v := .agg #[.int .i64 (F : Int), .int .i64 (PF : Int), .bool true]) (by simp [results, Try.results10, go_sem, d0, d1, d2]) rfl ⟨by rw [HE.out], HBP.out⟩
end Go.Proofs.Ytidclldacbelhaa.Cut
