/- Contracts of grow and Build. -/
import Derived.Test.YtkooanahgffjgaaTd
namespace Go.Proofs.Ytkooanahgffjgaa.Tri
open Go.RowKit Go.Maps
set_option maxRecDepth 100000

theorem growTo_len (ps : List Tx) (x : Tx) (k : Nat) : (growTo ps x k).length ≤ ps.length + k := by
  obtain ⟨m, e, h, _⟩ := growTo_sub ps x k
  rw [e, List.length_append]; omega
theorem growTo_old {ps : List Tx} {x : Tx} {k : Nat} (h : x.take (k + 1) ∈ growTo ps x k) : growTo ps x (k + 1) = growTo ps x k := by
  show addp _ _ = _; unfold addp; rw [if_pos h]
theorem growTo_new {ps : List Tx} {x : Tx} {k : Nat} (h : x.take (k + 1) ∉ growTo ps x k) : growTo ps x (k + 1) = growTo ps x k ++ [x.take (k + 1)] := by
  show addp _ _ = _; unfold addp; rw [if_neg h]
set_option maxHeartbeats 1000000 in
theorem grow_any (w : World) (s t : Nat) (ps l : List Tx) (h : Tr w s t ps l) (x : Tx) (a : Option Addr) (cap : Nat) (hb : Bs w s a x) (hz : ps.length + x.length ≤ 1000000000) :
    Calls Try.prog 39 #[.pointer (some ⟨t, 0, none⟩), .slice a x.length cap] w fun e w' => e = .returned (.int .i64 (place (grow ps x) x)) ∧ Tr w' s t (grow ps x) l ∧ Below s w w' := by
  have HW := Lib.hid h.2.1
  have HB := Lib.hid hb
  have HT := Lib.hid h
  clear h hb
  go_enter Try.func39, Try.ntmps39
  go_wp2
  go_loopw [5, 11] (fun v i wr => ∃ k : Nat, k ≤ x.length ∧ i = .int .i64 k ∧ v = .int .i64 (place (growTo ps x k) (x.take k)) ∧ Tr wr s t (growTo ps x k) l ∧ Below s w wr) (fun _ i _ => x.length - (intOf i).toNat)
  case atStart => exact ⟨0, Nat.zero_le _, rfl, by rw [List.take_zero, place_first (l := growTo ps x 0) (k := 0) HW.out.pos HW.out.at0 (fun j hj => by omega)]; rfl, HT.out, Below.refl _ _⟩
  case round =>
    obtain ⟨k, hk, rfl, rfl, htr, hbel⟩ := hrel
    by_cases hlt : k < x.length
    · obtain ⟨bb, off, rfl, hbb, hc⟩ := HB.out.keep hbel (by omega)
      have hck := hc k hlt
      have hm := (growTo_wf HW.out x k (by omega)).2
      have HE := Lib.hid (step_take hlt hm)
      have hlen := growTo_len ps x k
      have HOLD := Lib.hid (growTo_old (ps := ps) (x := x) (k := k))
      have HNEW := Lib.hid (growTo_new (ps := ps) (x := x) (k := k))
      have hkl : (k : Int) < (x.length : Int) := by omega
      have HTK : Hid (x.take (k + 1) = x.take k ++ [x[k]]) := Lib.hid (List.take_succ_eq_append_getElem hlt)
      obtain ⟨i, hi, ei, ei2, _⟩ := place_mem hm
      rw [ei] at HE ⊢
      have hdi : (growTo ps x k)[i].length ≤ 1000000000 := by rw [ei2, List.length_take]; omega
      have HS := Lib.hid (fun n hn c => step_any wr s t _ l htr n hn c)
      have HA := Lib.hid (fun (hq : (growTo ps x k)[i] ++ [x[k]'hlt] ∉ growTo ps x k) => add_any wr s t _ l htr i hi (x[k]'hlt) hq (by omega) hdi)
      rw [ei2, ← HTK.out] at HA
      have HB := Lib.hid hbel
      have HTR := Lib.hid htr
      have HWI : Hid ((Lit.int .i64 (i : Int)).wf = true) := Lib.hid (wf_nat (by omega) (by omega))
      clear hc hm ei2 ei hdi hbel htr
      by_cases hm2 : x.take (k + 1) ∈ growTo ps x k
      · have hy0 : ¬ place (growTo ps x k) (x.take (k + 1)) < 0 := by have := (place_nonneg (growTo ps x k) (x.take (k + 1))).2 hm2; omega
        have HM2 := Lib.hid hm2
        clear hm2
        generalize hy : place (growTo ps x k) (x.take (k + 1)) = y at *
        have HY := Lib.hid hy
        clear hy
        go_wp2_with (go_at_call 43; (with_reducible refine (HS.out (i : Int) HWI.out x[k]).mono ?_); rintro e w1 ⟨rfl, rfl⟩; rw [HE.out])
        go_roundw
        case rel => exact ⟨k + 1, by omega, by go_num, by rw [HOLD.out HM2.out, HY.out], by rw [HOLD.out HM2.out]; exact HTR.out, HB.out⟩
        case measure => simp [intOf]; omega
      · have hy0 : place (growTo ps x k) (x.take (k + 1)) < 0 := by rw [place_not hm2]; omega
        have HM2 := Lib.hid hm2
        clear hm2
        generalize hy : place (growTo ps x k) (x.take (k + 1)) = y at *
        clear hy
        go_wp2_with (first
          | (go_at_call 43; (with_reducible refine (HS.out (i : Int) HWI.out x[k]).mono ?_); rintro e w1 ⟨rfl, rfl⟩; rw [HE.out])
          | (go_at_call 55; (with_reducible refine (HA.out HM2.out).mono ?_); rintro e w1 ⟨rfl, ht1, hb1⟩; have HT1 := Lib.hid ht1; have HB1 := Lib.hid hb1; clear ht1 hb1))
        go_roundw
        case rel => exact ⟨k + 1, by omega, by go_num, by rw [HNEW.out HM2.out, place_snoc_same HM2.out], by rw [HNEW.out HM2.out]; exact HT1.out, HB.out.trans HB1.out⟩
        case measure => simp [intOf]; omega
    · obtain rfl : k = x.length := by omega
      have HTR := Lib.hid htr
      have HB := Lib.hid hbel
      rw [List.take_length]
      clear htr hbel
      go_wp2
      go_ret
      exact ⟨rfl, HTR.out, HB.out⟩
theorem Tr.words {w : World} {s t : Nat} {ps l : List Tx} (h : Tr w s t ps l) {i : Nat} (hi : i < ps.length) : ∃ g cap m, Blk2 w t 80 (.slice (some ⟨g, 0, none⟩) ps.length cap) (.map (some m)) ∧ s ≤ g ∧ g < w.heap.size ∧
    w.cell? ⟨g, i * 4 + 3, none⟩ = some (.int .i64 (place l ps[i])) ∧ w.frozen? ⟨g, i * 4 + 3, none⟩ = false ∧ (ps[i] ∈ l → Tr w s t ps (l ++ [ps[i]])) ∧ (ps[i] ∉ l → Tr (w.setCell ⟨g, i * 4 + 3, none⟩ (.int .i64 (l.length : Int))) s t ps (l ++ [ps[i]])) := by
  obtain ⟨h0, hw, hl, hn, g, cap, m, n, h1, h2, h3, h4, h5⟩ := h
  have hl' : ∀ x ∈ l ++ [ps[i]], x ∈ ps := fun x hx => by
    rcases List.mem_append.1 hx with hx | hx
    · exact hl x hx
    · rw [List.mem_singleton] at hx; rw [hx]; exact List.getElem_mem hi
  have hgt : g ≠ t := fun e => by
    obtain ⟨_, _, cs, hh⟩ := own_block_lt h2 (g := g) rfl
    rw [e] at hh
    have := hh.symm.trans h1
    simp at this
  have hgm : g ≠ m := fun e => by
    obtain ⟨_, _, cs, hh⟩ := own_block_lt h2 (g := g) rfl
    rw [e] at hh
    exact h3.not hh
  refine ⟨g, cap, m, h1, (own_block_lt h2 rfl).1, (own_block_lt h2 rfl).2.1, ?_, h2.frozenAt _, fun hx => ?_, fun hx => ?_⟩
  · rw [h2.cellAt (i * 4 + 3) (by omega), nvals_at _ i 3 (by omega) (by rw [nds_length]; exact hi), nds_at ps l i hi]
    rfl
  · refine ⟨h0, hw, hl', hn, g, cap, m, n, h1, ?_, h3, h4, h5⟩
    rw [nds_word hw hi rfl, if_pos hx]
    exact h2
  · refine ⟨h0, hw, hl', hn, g, cap, m, n, h1.far (fun e => hgt e.symm) _, ?_, h3.same (Below.heap_setCell w ⟨g, i * 4 + 3, none⟩ _ m (fun e => hgm e.symm)), h4, h5⟩
    have := (h2.stored (i * 4 + 3) (.int .i64 (l.length : Int))).1
    rw [nds_word hw hi rfl, if_neg hx]
    rw [nvals_word _ i (by rw [nds_length]; exact hi), nds_at ps l i hi] at this
    exact this
end Go.Proofs.Ytkooanahgffjgaa.Tri
