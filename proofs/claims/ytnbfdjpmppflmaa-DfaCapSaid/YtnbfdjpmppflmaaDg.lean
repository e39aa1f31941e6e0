/- The contracts of a table's States, Width, Path and Next; what a meter leaves of it. -/
import Derived.Test.YtnbfdjpmppflmaaDf
namespace Go.Proofs.Ytnbfdjpmppflmaa.Dfa
open Go.RowKit Go.Maps Go.Proofs.Ytnbfdjpmppflmaa.Tri Go.Proofs.Ytnbfdjpmppflmaa.Lnk Go.Proofs.Ytnbfdjpmppflmaa.Reg
set_option maxRecDepth 100000

theorem Dt.lt {w : World} {s t : Nat} {l : List Tx} (h : Dt w s t l) : t < w.heap.size := by
  obtain ⟨st, tt, sx, x, g, h1, h2, h3, h4, h0, h5, h6⟩ := h
  exact h5.lt
theorem Dt.adds {w w' : World} {s t : Nat} {l : List Tx} {q : Option Addr} {a b c d : Int} (h : Dt w s t l) (hg : w.grownBy w' (Met.blk q)) (hM : Met.Mt w q a b c d) : Dt w' s t l := by
  obtain ⟨st, tt, sx, x, g, h1, h2, h3, h4, h0, ⟨cells, h5, h7⟩, h6⟩ := h
  exact ⟨st, tt, sx, x, g, Spa.tr_adds h1 hg hM, Spa.li_adds h2 hg hM, h3, h4, h0, ⟨cells, (hg.block t (txt_lt h5) (hM.not h5 (by decide))).trans h5, h7⟩, (hg.block g (txt_lt h6) (hM.not h6 (by decide))).trans h6⟩
theorem dstates_at (w : World) (s t : Nat) (l : List Tx) (h : Dt w s t l) : Calls Try.prog 19 #[.pointer (some ⟨t, 0, none⟩)] w fun e w' => e = .returned (.int .i64 ((paths l).length : Int)) ∧ w = w' := by
  obtain ⟨st, tt, sx, x, g, h1, h2, h3, h4, h0, h5, h6⟩ := h
  exact states_any w t tt (paths l) l st h1 h5.cells.1
theorem dwidth_at (w : World) (s t : Nat) (l : List Tx) (h : Dt w s t l) : Calls Try.prog 20 #[.pointer (some ⟨t, 0, none⟩)] w fun e w' => e = .returned (.int .i64 ((Cls.cnt (Cls.stands l) + 1 : Nat) : Int)) ∧ w = w' := by
  obtain ⟨st, tt, sx, x, g, h1, h2, h3, h4, h0, h5, h6⟩ := h
  exact width_any w t _ h5.cells.2.2.1
theorem dpath_at (w : World) (s t : Nat) (l : List Tx) (h : Dt w s t l) (n : Int) : Calls Try.prog 24 #[.pointer (some ⟨t, 0, none⟩), .int .i64 n] w (GivesText w (pathD (paths l) n)) := by
  obtain ⟨st, tt, sx, x, g, h1, h2, h3, h4, h0, h5, h6⟩ := h
  exact path_some w t tt n _ h5.cells.1 (path_any w st tt (paths l) l h1 n (Spa.pathD_le h0 n))
theorem whole_at (l : List Tx) {i : Nat} (hi : i < (paths l).length) (c : UInt8) : (whole l (paths l).length (Cls.cnt (Cls.stands l) + 1))[i * (Cls.cnt (Cls.stands l) + 1) + Cls.cls (Cls.stands l) c]? = some (nextOf (paths l) (i : Int) c) := by
  have hk : Cls.cls (Cls.stands l) c < Cls.cnt (Cls.stands l) + 1 := by have := Cls.cls_le (Cls.stands l) c; omega
  have e := tabF_at (fun i k => match (paths l)[i]? with | some p => nxt l p k | none => 0) hi hk
  have e2 := List.getElem?_eq_getElem hi
  refine e.trans ?_
  simp only [e2]
  rw [nxt_byte, next_at hi]
theorem dnext_at (w : World) (s t : Nat) (l : List Tx) (h : Dt w s t l) (n : Int) (c : UInt8) : Calls Try.prog 22 #[.pointer (some ⟨t, 0, none⟩), .int .i64 n, .int .u8 (c.toNat : Int)] w fun e w' => e = .returned (.int .i64 (nextOf (paths l) n c)) ∧ ∃ q, w' = w.drewN q := by
  have hs := dstates_at w s t l h
  obtain ⟨st, tt, sx, x, g, h1, h2, h3, h4, h0, h5, h6⟩ := h
  obtain ⟨c0, c1, c2, c3⟩ := h5.cells
  have hk : Cls.cls (Cls.stands l) c < Cls.cnt (Cls.stands l) + 1 := by have := Cls.cls_le (Cls.stands l) c; omega
  have hwl := Cls.cnt_le (Cls.stands l)
  by_cases hin : 0 ≤ n ∧ n < (paths l).length
  · obtain ⟨i, rfl⟩ : ∃ i : Nat, n = (i : Int) := ⟨n.toNat, by omega⟩
    have hi : i < (paths l).length := by omega
    have hc := h5.at c
    have e := whole_at l hi c
    have hcell : w.cell? ⟨g, i * (Cls.cnt (Cls.stands l) + 1) + Cls.cls (Cls.stands l) c, none⟩ = some (.int .i64 (nextOf (paths l) (i : Int) c)) := by
      obtain ⟨q1, q2⟩ := List.getElem?_eq_some_iff.1 e
      rw [cell_of_row w g _ _ _ _ h6, Cls.icells_at _ _ q1, q2]
    exact dnext_in w t (paths l).length g (Cls.cnt (Cls.stands l) + 1) i c _ hk _ (row_in w t (paths l).length g (Cls.cnt (Cls.stands l) + 1) i hi (by omega) (by have := Nat.mul_le_mul h4 (show Cls.cnt (Cls.stands l) + 1 ≤ 257 by omega); omega) hs c2 c3) hc hcell
  · rw [next_out hin]
    refine (dnext_out w _ n c (row_out w _ (paths l).length n hin hs)).mono ?_
    rintro e w' ⟨rfl, rfl⟩
    exact ⟨rfl, 0, rfl⟩
theorem dnext_none (w : World) (n : Int) (c : UInt8) : Calls Try.prog 22 #[.pointer none, .int .i64 n, .int .u8 (c.toNat : Int)] w fun e w' => e = .returned (.int .i64 (-1)) ∧ w = w' :=
  dnext_out w none n c (row_out w none 0 n (by omega) (states_none w))
end Go.Proofs.Ytnbfdjpmppflmaa.Dfa
