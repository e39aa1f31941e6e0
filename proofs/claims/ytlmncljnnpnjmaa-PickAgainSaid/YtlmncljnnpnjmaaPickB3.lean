/- Stage 23: the reference's first piece. -/
import Derived.Test.YtlmncljnnpnjmaaPickB2
import Derived.Test.YtlmncljnnpnjmaaGQ
namespace Go.Proofs.Ytlmncljnnpnjmaa.Pck
open Go.RowKit Go.Proofs.Ytlmncljnnpnjmaa.Prs Adm Reg
set_option maxRecDepth 100000
def fstV (l : List Pr) (f : Int) : Value := .tuple #[pv ((fstB l f).getD ⟨0, 0⟩), .bool (fstB l f).isSome]
set_option maxHeartbeats 1000000 in
theorem rfirst_any (f : Int) (l : List Pr) (al : Option Addr) (cl : Nat) (w : World) (hll : l.length ≤ 1000000) (hx : Ps w w.heap.size al l) :
    Calls Try.prog 11 #[.slice al l.length cl, .int .i64 f] w fun e w' => e = .returned (fstV l f) ∧ Below w.heap.size w w' := by
  have HX := Lib.hid hx
  clear hx
  have hB0 := (Below.refl w.heap.size w).alloc (Nat.le_refl _) (.cells #[.int .i64 0, .int .i64 0] 25)
  have hK0 := Pat.Blk2.new w 25 (.int .i64 0) (.int .i64 0)
  obtain ⟨W1, hW1⟩ : ∃ W1, w.alloc (.cells #[.int .i64 0, .int .i64 0] 25) = W1 := ⟨_, rfl⟩
  rw [hW1] at hB0 hK0
  have HB0 := Lib.hid hB0
  have HK0 := Lib.hid hK0
  have HW := Lib.hid hW1
  clear hB0 hK0 hW1
  go_enter Try.func11, Try.ntmps11
  go_wp2
  rw [HW.out]
  go_loopg [6] l.length (fun gf s6 wr => ∃ k : Nat, k + gf = l.length ∧ s6 = .int .i64 k ∧ (l.take k).find? (betB l f) = none ∧ Pat.Blk2 wr w.heap.size 25 (.int .i64 0) (.int .i64 0) ∧ Below w.heap.size w wr)
  case atStart => exact ⟨0, by simp, rfl, by simp, HK0.out, HB0.out⟩
  case round =>
    obtain ⟨k, hk, rfl, hno, hblk, hbel⟩ := hrel
    have HB := Lib.hid hbel
    have HK := Lib.hid hblk
    cases gk with
    | zero =>
      obtain rfl : k = l.length := by omega
      have hni : ¬ ((l.length : Int) < (l.length : Int)) := by omega
      rw [List.take_length] at hno
      have HN : Hid (fstV l f = .tuple #[pv ⟨0, 0⟩, .bool false]) := Lib.hid (by unfold fstV fstB; rw [hno]; rfl)
      obtain ⟨c0, c1⟩ := hblk.cells
      obtain ⟨f0, f1⟩ := hblk.free
      have h2 := hblk.put0 (.int .i64 0)
      obtain ⟨c2, c3⟩ := h2.cells
      obtain ⟨f2, f3⟩ := h2.free
      obtain ⟨c4, c5⟩ := (h2.put1 (.int .i64 0)).cells
      have HE : Hid (Below w.heap.size w ((wr.setCell ⟨w.heap.size, 0, none⟩ (.int .i64 0)).setCell ⟨w.heap.size, 1, none⟩ (.int .i64 0))) := Lib.hid ((hbel.setCell (p := ⟨w.heap.size, 0, none⟩) (Nat.le_refl _) _).setCell (p := ⟨w.heap.size, 1, none⟩) (Nat.le_refl _) _)
      clear hno hbel hblk h2
      go_wp2
      refine bodyPost_ret (v := .tuple #[pv ⟨0, 0⟩, .bool false]) ?_ rfl ⟨by rw [HN.out], HE.out⟩
      simp [results, Try.results11, go_sem, c4, c5]
    | succ gf =>
      have hlt : k < l.length := by omega
      have hli : (k : Int) < (l.length : Int) := by omega
      have hx1 := HX.out.keeps hbel
      obtain ⟨b, o, rfl, hbl, hc⟩ := HX.out (by omega)
      obtain ⟨p, hp⟩ : ∃ p, l[k]? = some p := ⟨_, List.getElem?_eq_getElem hlt⟩
      have hpk : l[k] = p := by rw [List.getElem?_eq_getElem hlt] at hp; exact Option.some.inj hp
      have HD : Hid (∀ X, Below w.heap.size w X → X.cell? ⟨b, o + k * 2, none⟩ = some (.int .i64 p.s) ∧ X.cell? ⟨b, o + k * 2 + 1, none⟩ = some (.int .i64 p.e)) := Lib.hid fun X h => by
        have h2 := hc k hlt
        rw [hpk] at h2
        exact ⟨(h.cell (p := ⟨b, o + k * 2, none⟩) hbl).trans h2.1, (h.cell (p := ⟨b, o + k * 2 + 1, none⟩) hbl).trans h2.2⟩
      obtain ⟨d0, d1⟩ := HD.out wr hbel
      have CB := Lib.hid (rbetter_any f p l _ cl wr hll hx1)
      have HF : Hid ((l.take (k + 1)).find? (betB l f) = if betB l f p then some p else none) := Lib.hid (by rw [List.take_add_one, hp, List.find?_append, hno]; simp only [Option.toList, List.find?]; cases betB l f p <;> rfl)
      have HFA : Hid (betB l f p = true → fstB l f = some p) := Lib.hid fun h => by
        have h3 : (l.take (k + 1)).find? (betB l f) = some p := by rw [HF.out, if_pos h]
        unfold fstB
        rw [← List.take_append_drop (k + 1) l, List.find?_append, List.take_append_drop, h3]
        rfl
      clear hno hblk hp hpk hc hx1
      have hbs := hbel.size
      have hkl : w.heap.size < wr.heap.size := HK.out.lt
      cases hbet : betB l f p
      · rw [hbet] at CB HF
        go_wp2_with (go_at_call 20; (with_reducible refine CB.out.mono ?_); rintro e w2 ⟨rfl, hb2⟩)
        go_roundg gf
        case rel => exact ⟨k + 1, by omega, by go_num, by rw [HF.out]; rfl, HK.out.keep hb2 hkl, HB.out.trans (hb2.mono hbs)⟩
        case measure => omega
      · rw [hbet] at CB
        have HV : Hid (fstV l f = .tuple #[pv p, .bool true]) := Lib.hid (by unfold fstV; rw [HFA.out hbet]; rfl)
        clear hbel
        go_wp2_with (go_at_call 20; (with_reducible refine CB.out.mono ?_); rintro e w2 ⟨rfl, hb2⟩; have HB2 := Lib.hid (HB.out.trans (hb2.mono hbs)); obtain ⟨d2, d3⟩ := HD.out w2 HB2.out; have hk2 := HK.out.keep hb2 hkl; obtain ⟨c0, c1⟩ := hk2.cells; obtain ⟨f0, f1⟩ := hk2.free; have h2 := hk2.put0 (.int .i64 p.s); obtain ⟨c2, c3⟩ := h2.cells; obtain ⟨f2, f3⟩ := h2.free; obtain ⟨c4, c5⟩ := (h2.put1 (.int .i64 p.e)).cells; have HE := Lib.hid ((HB2.out.setCell (p := ⟨w.heap.size, 0, none⟩) (Nat.le_refl _) (.int .i64 p.s)).setCell (p := ⟨w.heap.size, 1, none⟩) (Nat.le_refl _) (.int .i64 p.e)); clear hk2 h2)
        refine bodyPost_ret (v := .tuple #[pv p, .bool true]) ?_ rfl ⟨by rw [HV.out], HE.out⟩
        simp [results, Try.results11, go_sem, c4, c5]
end Go.Proofs.Ytlmncljnnpnjmaa.Pck
