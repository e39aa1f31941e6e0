/- Contracts of none, at, Fail, Out, Longest. -/
import Derived.Test.YtcknipokplomcaaLBase
namespace Go.Proofs.Ytcknipokplomcaa.Lnk
open Go.RowKit Go.Maps Go.Proofs.Ytcknipokplomcaa.Tri

theorem lnone_any (w : World) : Calls Try.prog 27 #[] w fun e w' => e = .returned (.agg #[.int .i64 (-1), .int .i64 (-1), .int .i64 0]) ∧ w' = w.alloc (.cells #[.int .i64 (-1), .int .i64 (-1), .int .i64 0] 51) := by
  go_enter Try.func27, Try.ntmps27
  go_wp2
  exact bodyPost_ret (v := .agg #[.int .i64 (-1), .int .i64 (-1), .int .i64 0]) (by simp [results, Try.results27, go_sem]) rfl ⟨rfl, rfl⟩
set_option maxHeartbeats 1000000 in
theorem lat_any (w : World) (s t : Nat) (ps l : List Tx) (h : Li w s t ps l) (n : Int) :
    Calls Try.prog 32 #[.pointer (some ⟨t, 0, none⟩), .int .i64 n] w fun e w' => e = .returned (lkV (lkAt ps l n)) ∧ Below w.heap.size w w' := by
  obtain ⟨hw, hl, hn, hq⟩ := h
  by_cases hin : 0 ≤ n ∧ n < ps.length
  · obtain ⟨i, rfl⟩ : ∃ i : Nat, n = (i : Int) := ⟨n.toNat, by omega⟩
    have hi : i < ps.length := by omega
    rw [lkAt_in l hi]
    obtain ⟨g, cap, vo, j, h1, hg, ej, hj, d0, d1, d2⟩ := hq.row (List.getElem_mem hi) (ord_all hw _ (List.getElem_mem hi))
    rw [place_at hw.nodup hi] at ej
    obtain rfl : i = j := by omega
    obtain ⟨c0, c1⟩ := h1.cells
    have ht := h1.lt
    have hin2 : (i : Int) < (ps.length : Int) := by omega
    have hin3 : ¬ (ps.length : Int) ≤ (i : Int) := by omega
    clear h1 hq hin ej hw hl
    unfold lkOf
    generalize failOf ps ps[i] = r0 at *
    generalize outOf ps l ps[i] = r1 at *
    generalize own l ps[i] = r2 at *
    go_enter Try.func32, Try.ntmps32
    go_wp2
    exact bodyPost_ret (v := .agg #[.int .i64 r0, .int .i64 r1, .int .i64 (r2 : Int)]) (by simp [results, Try.results32, go_sem]) rfl ⟨rfl, (Below.refl _ _).alloc (Nat.le_refl _) _⟩
  · rw [lkAt_out l hin]
    obtain ⟨h0, g, cap, vo, h1, h2, h3⟩ := hq
    obtain ⟨c0, c1⟩ := h1.cells
    have ht := h1.lt
    clear h1 h2 h3 hw hl
    by_cases h0 : n < 0
    · clear hin
      go_enter Try.func32, Try.ntmps32
      go_wp2_with (go_at_call 27; (with_reducible refine (lnone_any _).mono ?_); rintro e w1 ⟨rfl, rfl⟩)
      exact bodyPost_ret (v := .agg #[.int .i64 (-1), .int .i64 (-1), .int .i64 0]) (by simp [results, Try.results32, go_sem]) rfl ⟨rfl, ((Below.refl _ _).alloc (Nat.le_refl _) _).alloc (by simp) _⟩
    · have h2 : (ps.length : Int) ≤ n := by omega
      clear hin
      go_enter Try.func32, Try.ntmps32
      go_wp2_with (go_at_call 27; (with_reducible refine (lnone_any _).mono ?_); rintro e w1 ⟨rfl, rfl⟩)
      exact bodyPost_ret (v := .agg #[.int .i64 (-1), .int .i64 (-1), .int .i64 0]) (by simp [results, Try.results32, go_sem]) rfl ⟨rfl, ((Below.refl _ _).alloc (Nat.le_refl _) _).alloc (by simp) _⟩
theorem field_lk0 (a b c : Int) (w : World) : (Instr.field 51 (.agg #[.int .i64 a, .int .i64 b, .int .i64 c]) 0).run Try.prog w = .ok (.int .i64 a) w := by
  simp [Instr.field, asAgg, go_sem]
theorem field_lk1 (a b c : Int) (w : World) : (Instr.field 51 (.agg #[.int .i64 a, .int .i64 b, .int .i64 c]) 1).run Try.prog w = .ok (.int .i64 b) w := by
  simp [Instr.field, asAgg, go_sem]
theorem field_lk2 (a b c : Int) (w : World) : (Instr.field 51 (.agg #[.int .i64 a, .int .i64 b, .int .i64 c]) 2).run Try.prog w = .ok (.int .i64 c) w := by
  simp [Instr.field, asAgg, go_sem]
theorem fail_any (w : World) (s t : Nat) (ps l : List Tx) (h : Li w s t ps l) (n : Int) :
    Calls Try.prog 13 #[.pointer (some ⟨t, 0, none⟩), .int .i64 n] w fun e w' => e = .returned (.int .i64 (lkAt ps l n).fail) ∧ Below w.heap.size w w' := by
  have HA := Lib.hid (lat_any w s t ps l h n)
  have hf := field_lk0
  clear h
  generalize lkAt ps l n = r at *
  go_enter Try.func13, Try.ntmps13
  go_wp2_with (go_at_call 32; (with_reducible refine HA.out.mono ?_); rintro e w1 ⟨rfl, hb⟩)
  go_ret
  exact ⟨rfl, hb⟩
theorem out_any (w : World) (s t : Nat) (ps l : List Tx) (h : Li w s t ps l) (n : Int) :
    Calls Try.prog 15 #[.pointer (some ⟨t, 0, none⟩), .int .i64 n] w fun e w' => e = .returned (.int .i64 (lkAt ps l n).out) ∧ Below w.heap.size w w' := by
  have HA := Lib.hid (lat_any w s t ps l h n)
  have hf := field_lk1
  clear h
  generalize lkAt ps l n = r at *
  go_enter Try.func15, Try.ntmps15
  go_wp2_with (go_at_call 32; (with_reducible refine HA.out.mono ?_); rintro e w1 ⟨rfl, hb⟩)
  go_ret
  exact ⟨rfl, hb⟩
/-- The longest text that is an end. -/
def longOf (l : List Tx) (p : Tx) : Int := (endsOf l p).headD 0
theorem out_neg {ps : List Tx} {l : List Tx} {n : Int} (h : pathOf ps n = none) : lkAt ps l n = ⟨-1, -1, 0⟩ := by rw [lkAt, h]
theorem pathD_none {ps : List Tx} {n : Int} (h : ¬ (0 ≤ n ∧ n < ps.length)) : pathD ps n = [] := by rw [pathD, pathOf_none h]; rfl
/-- What is kept tells the longest. -/
theorem long_eq {ps l : List Tx} (hl : ∀ x ∈ l, x ∈ ps) (n : Int) : longOf l (pathD ps n) = if 0 < (lkAt ps l n).own then ((lkAt ps l n).own : Int) else ((lkAt ps l (lkAt ps l n).out).own : Int) := by
  by_cases hin : 0 ≤ n ∧ n < ps.length
  · obtain ⟨i, rfl⟩ : ∃ i : Nat, n = (i : Int) := ⟨n.toNat, by omega⟩
    have hi : i < ps.length := by omega
    rw [lkAt_in l hi, pathD_at hi, longOf, ends_split]
    show _ = if 0 < own l ps[i] then (own l ps[i] : Int) else ((lkAt ps l (outOf ps l ps[i])).own : Int)
    by_cases ho : 0 < own l ps[i]
    · rw [if_pos ho, if_pos ho]; rfl
    · rw [if_neg ho, if_neg ho, List.nil_append]
      rcases out_split hl ps[i] with ⟨h1, h2⟩ | ⟨z, h1, h2, h3, h4, h5, h6, h7⟩
      · rw [h1, h2, lkAt_out l (by omega)]; rfl
      · rw [h5, h6, lkAt_place l h3, ends_split, if_pos (own_pos.2 ⟨h2, h1⟩)]; rfl
  · have e : lkAt ps l (-1) = ⟨-1, -1, 0⟩ := lkAt_out l (by omega)
    rw [pathD_none hin, lkAt_out l hin]
    show _ = if 0 < 0 then ((0 : Nat) : Int) else ((lkAt ps l (-1)).own : Int)
    rw [e]; rfl
set_option maxHeartbeats 1000000 in
theorem longest_any (w : World) (s t : Nat) (ps l : List Tx) (h : Li w s t ps l) (n : Int) :
    Calls Try.prog 19 #[.pointer (some ⟨t, 0, none⟩), .int .i64 n] w fun e w' => e = .returned (.int .i64 (longOf l (pathD ps n))) ∧ Below w.heap.size w w' := by
  have HA := Lib.hid (lat_any w s t ps l h n)
  have HB : Hid (∀ X, Below w.heap.size w X → Calls Try.prog 32 #[.pointer (some ⟨t, 0, none⟩), .int .i64 (lkAt ps l n).out] X fun e w' => e = .returned (lkV (lkAt ps l (lkAt ps l n).out)) ∧ Below X.heap.size X w') := Lib.hid fun X hX => lat_any X s t ps l (h.keep hX) _
  have HL := Lib.hid (long_eq h.2.1 n)
  have hf := field_lk2
  clear h
  generalize longOf l (pathD ps n) = y at *
  generalize lkAt ps l (lkAt ps l n).out = r2 at *
  generalize lkAt ps l n = r at *
  by_cases ho : 0 < r.own
  · have HE : Hid (y = (r.own : Int)) := Lib.hid (by rw [HL.out, if_pos ho])
    have ho2 : (0 : Int) < (r.own : Int) := by omega
    go_enter Try.func19, Try.ntmps19
    go_wp2_with (go_at_call 32; (with_reducible refine HA.out.mono ?_); rintro e w1 ⟨rfl, hb⟩; have HB1 := Lib.hid hb; clear hb)
    go_ret
    exact ⟨ret_int HE.out.symm, HB1.out.alloc HB1.out.size _⟩
  · have HE : Hid (y = (r2.own : Int)) := Lib.hid (by rw [HL.out, if_neg ho])
    have ho2 : ¬ (0 : Int) < (r.own : Int) := by omega
    go_enter Try.func19, Try.ntmps19
    go_wp2_with fail
    refine HA.out.mono ?_
    rintro e w1 ⟨rfl, hb⟩
    have HB1 := Lib.hid hb
    clear hb
    go_wp2_with (go_at_call 32; (with_reducible refine (HB.out _ (HB1.out.alloc HB1.out.size _)).mono ?_); rintro e w2 ⟨rfl, hb⟩; have HB2 := Lib.hid hb; clear hb)
    go_ret
    exact ⟨ret_int HE.out.symm, (HB1.out.alloc HB1.out.size _).trans (HB2.out.mono (by simp; have := HB1.out.size; omega))⟩
end Go.Proofs.Ytcknipokplomcaa.Lnk
