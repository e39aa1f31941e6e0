/- Contracts of none, at, Fail, Out, Longest. -/
import Derived.Test.YtkooanahgffjgaaLBase
namespace Go.Proofs.Ytkooanahgffjgaa.Lnk
open Go.RowKit Go.Maps Go.Proofs.Ytkooanahgffjgaa.Tri
set_option maxRecDepth 100000

theorem lnone_any (w : World) : Calls Try.prog 40 #[] w fun e w' => e = .returned (.agg #[.int .i64 (-1), .int .i64 (-1), .int .i64 0]) ∧ w' = w.alloc (.cells #[.int .i64 (-1), .int .i64 (-1), .int .i64 0] 86) := by
  go_enter Try.func40, Try.ntmps40
  go_wp2
  exact bodyPost_ret (v := .agg #[.int .i64 (-1), .int .i64 (-1), .int .i64 0]) (by simp [results, Try.results40, go_sem]) rfl ⟨rfl, rfl⟩
set_option maxHeartbeats 1000000 in
theorem lat_any (w : World) (s t : Nat) (ps l : List Tx) (h : Li w s t ps l) (n : Int) :
    Calls Try.prog 49 #[.pointer (some ⟨t, 0, none⟩), .int .i64 n] w fun e w' => e = .returned (lkV (lkAt ps l n)) ∧ Below w.heap.size w w' := by
  obtain ⟨hw, hl, hn, hq⟩ := h
  by_cases hin : 0 ≤ n ∧ n < ps.length
  · obtain ⟨i, rfl⟩ : ∃ i : Nat, n = (i : Int) := ⟨n.toNat, by omega⟩
    have hi : i < ps.length := by omega
    rw [lkAt_in l hi]
    obtain ⟨g, cap, vo, j, h1, hg, ej, hj, d0, d1, d2⟩ := hq.row (List.getElem_mem hi) (ord_all hw _ (List.getElem_mem hi))
    rw [place_at hw.nodup hi] at ej
    obtain rfl : i = j := by omega
    obtain ⟨c0, c1⟩ := h1.cells
    have ht := h1.lt
    have hin2 : (i : Int) < (ps.length : Int) := by omega
    have hin3 : ¬ (ps.length : Int) ≤ (i : Int) := by omega
    clear h1 hq hin ej hw hl
    unfold lkOf
    generalize failOf ps ps[i] = r0 at *
    generalize outOf ps l ps[i] = r1 at *
    generalize own l ps[i] = r2 at *
    go_enter Try.func49, Try.ntmps49
    go_wp2
    exact bodyPost_ret (v := .agg #[.int .i64 r0, .int .i64 r1, .int .i64 (r2 : Int)]) (by simp [results, Try.results49, go_sem]) rfl ⟨rfl, (Below.refl _ _).alloc (Nat.le_refl _) _⟩
  · rw [lkAt_out l hin]
    obtain ⟨h0, g, cap, vo, h1, h2, h3⟩ := hq
    obtain ⟨c0, c1⟩ := h1.cells
    have ht := h1.lt
    clear h1 h2 h3 hw hl
    by_cases h0 : n < 0
    · clear hin
      go_enter Try.func49, Try.ntmps49
      go_wp2_with (go_at_call 40; (with_reducible refine (lnone_any _).mono ?_); rintro e w1 ⟨rfl, rfl⟩)
      exact bodyPost_ret (v := .agg #[.int .i64 (-1), .int .i64 (-1), .int .i64 0]) (by simp [results, Try.results49, go_sem]) rfl ⟨rfl, ((Below.refl _ _).alloc (Nat.le_refl _) _).alloc (by simp) _⟩
    · have h2 : (ps.length : Int) ≤ n := by omega
      clear hin
      go_enter Try.func49, Try.ntmps49
      go_wp2_with (go_at_call 40; (with_reducible refine (lnone_any _).mono ?_); rintro e w1 ⟨rfl, rfl⟩)
      exact bodyPost_ret (v := .agg #[.int .i64 (-1), .int .i64 (-1), .int .i64 0]) (by simp [results, Try.results49, go_sem]) rfl ⟨rfl, ((Below.refl _ _).alloc (Nat.le_refl _) _).alloc (by simp) _⟩
theorem field_lk0 (a b c : Int) (w : World) : (Instr.field 86 (.agg #[.int .i64 a, .int .i64 b, .int .i64 c]) 0).run Try.prog w = .ok (.int .i64 a) w := by
  simp [Instr.field, asAgg, go_sem]
theorem field_lk1 (a b c : Int) (w : World) : (Instr.field 86 (.agg #[.int .i64 a, .int .i64 b, .int .i64 c]) 1).run Try.prog w = .ok (.int .i64 b) w := by
  simp [Instr.field, asAgg, go_sem]
theorem field_lk2 (a b c : Int) (w : World) : (Instr.field 86 (.agg #[.int .i64 a, .int .i64 b, .int .i64 c]) 2).run Try.prog w = .ok (.int .i64 c) w := by
  simp [Instr.field, asAgg, go_sem]
theorem fail_any (w : World) (s t : Nat) (ps l : List Tx) (h : Li w s t ps l) (n : Int) :
    Calls Try.prog 47 #[.pointer (some ⟨t, 0, none⟩), .int .i64 n] w fun e w' => e = .returned (.int .i64 (lkAt ps l n).fail) ∧ Below w.heap.size w w' := by
  have HA := Lib.hid (lat_any w s t ps l h n)
  have hf := field_lk0
  clear h
  generalize lkAt ps l n = r at *
  go_enter Try.func47, Try.ntmps47
  go_wp2_with (go_at_call 49; (with_reducible refine HA.out.mono ?_); rintro e w1 ⟨rfl, hb⟩)
  go_ret
  exact ⟨rfl, hb⟩
/-- The longest text that is an end. -/
def longOf (l : List Tx) (p : Tx) : Int := (endsOf l p).headD 0
theorem out_neg {ps : List Tx} {l : List Tx} {n : Int} (h : pathOf ps n = none) : lkAt ps l n = ⟨-1, -1, 0⟩ := by rw [lkAt, h]
theorem pathD_none {ps : List Tx} {n : Int} (h : ¬ (0 ≤ n ∧ n < ps.length)) : pathD ps n = [] := by rw [pathD, pathOf_none h]; rfl
/-- What is kept tells the longest. -/
theorem long_eq {ps l : List Tx} (hl : ∀ x ∈ l, x ∈ ps) (n : Int) : longOf l (pathD ps n) = if 0 < (lkAt ps l n).own then ((lkAt ps l n).own : Int) else ((lkAt ps l (lkAt ps l n).out).own : Int) := by
  by_cases hin : 0 ≤ n ∧ n < ps.length
  · obtain ⟨i, rfl⟩ : ∃ i : Nat, n = (i : Int) := ⟨n.toNat, by omega⟩
    have hi : i < ps.length := by omega
    rw [lkAt_in l hi, pathD_at hi, longOf, ends_split]
    show _ = if 0 < own l ps[i] then (own l ps[i] : Int) else ((lkAt ps l (outOf ps l ps[i])).own : Int)
    by_cases ho : 0 < own l ps[i]
    · rw [if_pos ho, if_pos ho]; rfl
    · rw [if_neg ho, if_neg ho, List.nil_append]
      rcases out_split hl ps[i] with ⟨h1, h2⟩ | ⟨z, h1, h2, h3, h4, h5, h6, h7⟩
      · rw [h1, h2, lkAt_out l (by omega)]; rfl
      · rw [h5, h6, lkAt_place l h3, ends_split, if_pos (own_pos.2 ⟨h2, h1⟩)]; rfl
  · have e : lkAt ps l (-1) = ⟨-1, -1, 0⟩ := lkAt_out l (by omega)
    rw [pathD_none hin, lkAt_out l hin]
    show _ = if 0 < 0 then ((0 : Nat) : Int) else ((lkAt ps l (-1)).own : Int)
    rw [e]; rfl
end Go.Proofs.Ytkooanahgffjgaa.Lnk
