/- Contracts of what a tree tells: Nodes, Step, at, Depth, Parent, Word. -/
import Derived.Test.YtkooanahgffjgaaTBase
import Derived.Deep.RegionHeld3
import Derived.Deep.DrawnRows
import Derived.StillTailTactics
namespace Go.Proofs.Ytkooanahgffjgaa.Tri
open Go.RowKit Go.Maps
set_option maxRecDepth 100000

theorem nodes_none (w : World) : Calls Try.prog 36 #[.pointer none] w fun e w' => e = .returned (.int .i64 0) ∧ w = w' := by
  go_enter Try.func36, Try.ntmps36
  go_wp2
  go_ret
  exact ⟨rfl, rfl⟩
theorem nodes_any (w : World) (s t : Nat) (ps l : List Tx) (h : Tr w s t ps l) : Calls Try.prog 36 #[.pointer (some ⟨t, 0, none⟩)] w fun e w' => e = .returned (.int .i64 (ps.length : Int)) ∧ w = w' := by
  obtain ⟨h0, hw, hl, hn, g, cap, m, n, h1, h2, h3, h4, h5⟩ := h
  obtain ⟨c0, c1⟩ := h1.cells
  clear h0 hw hl h1 h2 h3 h4 h5
  go_enter Try.func36, Try.ntmps36
  go_wp2
  go_ret
  exact ⟨rfl, rfl⟩
theorem step_none (w : World) (n c : Int) : Calls Try.prog 43 #[.pointer none, .int .i64 n, .int .u8 c] w fun e w' => e = .returned (.int .i64 (-1)) ∧ w = w' := by
  go_enter Try.func43, Try.ntmps43
  go_wp2
  go_ret
  exact ⟨rfl, rfl⟩
set_option maxHeartbeats 1000000 in
theorem step_any (w : World) (s t : Nat) (ps l : List Tx) (h : Tr w s t ps l) (n : Int) (hn : (Lit.int .i64 n).wf = true) (c : UInt8) :
    Calls Try.prog 43 #[.pointer (some ⟨t, 0, none⟩), .int .i64 n, .int .u8 (c.toNat : Int)] w fun e w' => e = .returned (.int .i64 (stepOf ps n c)) ∧ w = w' := by
  obtain ⟨h0, hw, hl, hz, g, cap, m, k, h1, h2, h3, h4, h5⟩ := h
  obtain ⟨c0, c1⟩ := h1.cells
  have HO := Lib.hid h3
  have HS := Lib.hid hn
  clear h0 hw hl h1 h2 h3 h4 h5 hn
  have hge := stepOf_ge ps n c
  generalize hx : stepOf ps n c = x at *
  have HX := Lib.hid hx
  clear hx
  cases hb : decide (0 ≤ x)
  · have hx1 : x = -1 := by have := of_decide_eq_false hb; omega
    have HX1 := Lib.hid hx1
    clear hx1 hge
    go_enter Try.func43, Try.ntmps43
    go_wp2_with (at_lookup; (with_reducible refine look_map rfl _ _ rfl m k (stepOf ps) rfl HO.out n c HS.out rfl ?_); intro z hz; clear hz; rw [HX.out, hb])
    go_ret
    exact ⟨ret_int HX1.out.symm, rfl⟩
  · have hx0 : 0 ≤ x := of_decide_eq_true hb
    have HX0 := Lib.hid hx0
    clear hx0 hge
    go_enter Try.func43, Try.ntmps43
    go_wp2_with (at_lookup; (with_reducible refine look_map rfl _ _ rfl m k (stepOf ps) rfl HO.out n c HS.out rfl ?_); intro z hz; rw [HX.out] at hz; have HZ := Lib.hid (hz HX0.out); clear hz; rw [HX.out, hb])
    go_ret
    exact ⟨ret_int HZ.out, rfl⟩
theorem none_any (w : World) : Calls Try.prog 38 #[] w fun e w' => e = .returned (.agg #[.int .i64 (-1), .int .u8 0, .int .i64 0, .int .i64 (-1)]) ∧ w' = w.alloc (.cells #[.int .i64 (-1), .int .u8 0, .int .i64 0, .int .i64 (-1)] 75) := by
  go_enter Try.func38, Try.ntmps38
  go_wp2
  exact bodyPost_ret (v := .agg #[.int .i64 (-1), .int .u8 0, .int .i64 0, .int .i64 (-1)]) (by simp [results, Try.results38, go_sem]) rfl ⟨rfl, rfl⟩
/-- What is kept of a number. -/
def ndAt (ps l : List Tx) (n : Int) : Nd := match pathOf ps n with | some p => ndOf ps l p | none => ⟨-1, 0, 0, -1⟩
abbrev ndV (r : Nd) : Value := .agg #[.int .i64 r.up, .int .u8 (r.last.toNat : Int), .int .i64 (r.deep : Int), .int .i64 r.word]
theorem ndAt_in {ps : List Tx} (l : List Tx) {i : Nat} (h : i < ps.length) : ndAt ps l (i : Int) = ndOf ps l ps[i] := by rw [ndAt, pathOf_at h]
theorem ndAt_out {ps : List Tx} (l : List Tx) {n : Int} (h : ¬ (0 ≤ n ∧ n < ps.length)) : ndAt ps l n = ⟨-1, 0, 0, -1⟩ := by rw [ndAt, pathOf_none h]
theorem Tr.row {w : World} {s t : Nat} {ps l : List Tx} (h : Tr w s t ps l) : ∃ g cap m, Blk2 w t 80 (.slice (some ⟨g, 0, none⟩) ps.length cap) (.map (some m)) ∧ ps.length ≤ 1000000000 ∧ g < w.heap.size ∧ ∀ i (hi : i < ps.length), w.cell? ⟨g, i * 4, none⟩ = some (.int .i64 (ndOf ps l ps[i]).up) ∧ w.cell? ⟨g, i * 4 + 1, none⟩ = some (.int .u8 ((ndOf ps l ps[i]).last.toNat : Int)) ∧ w.cell? ⟨g, i * 4 + 2, none⟩ = some (.int .i64 ((ndOf ps l ps[i]).deep : Int)) ∧ w.cell? ⟨g, i * 4 + 3, none⟩ = some (.int .i64 (ndOf ps l ps[i]).word) := by
  obtain ⟨h0, hw, hl, hn, g, cap, m, n, h1, h2, h3, h4, h5⟩ := h
  refine ⟨g, cap, m, h1, hn, (own_block_lt h2 rfl).2.1, fun i hi => ?_⟩
  have key : ∀ j, j < 4 → w.cell? ⟨g, i * 4 + j, none⟩ = (ncells (ndOf ps l ps[i]))[j]? := fun j hj => by
    rw [h2.cellAt (i * 4 + j) (by omega), nvals_at _ i j hj (by rw [nds_length]; exact hi), nds_at ps l i hi]
  exact ⟨key 0 (by omega), key 1 (by omega), key 2 (by omega), key 3 (by omega)⟩
set_option maxHeartbeats 1000000 in
theorem at_none (w : World) (n : Int) : Calls Try.prog 54 #[.pointer none, .int .i64 n] w fun e w' => e = .returned (.agg #[.int .i64 (-1), .int .u8 0, .int .i64 0, .int .i64 (-1)]) ∧ Below w.heap.size w w' := by
  by_cases h0 : n < 0
  · go_enter Try.func54, Try.ntmps54
    go_wp2_with (go_at_call 38; (with_reducible refine (none_any _).mono ?_); rintro e w1 ⟨rfl, rfl⟩)
    exact bodyPost_ret (v := .agg #[.int .i64 (-1), .int .u8 0, .int .i64 0, .int .i64 (-1)]) (by simp [results, Try.results54, go_sem]) rfl ⟨rfl, ((Below.refl _ _).alloc (Nat.le_refl _) _).alloc (by simp) _⟩
  · go_enter Try.func54, Try.ntmps54
    go_wp2_with (first | (go_at_call 38; (with_reducible refine (none_any _).mono ?_); rintro e w1 ⟨rfl, rfl⟩) | (go_at_call 36; (with_reducible refine (nodes_none _).mono ?_); rintro e w1 ⟨rfl, rfl⟩))
    exact bodyPost_ret (v := .agg #[.int .i64 (-1), .int .u8 0, .int .i64 0, .int .i64 (-1)]) (by simp [results, Try.results54, go_sem]) rfl ⟨rfl, ((Below.refl _ _).alloc (Nat.le_refl _) _).alloc (by simp) _⟩
set_option maxHeartbeats 1000000 in
theorem at_any (w : World) (s t : Nat) (ps l : List Tx) (h : Tr w s t ps l) (n : Int) :
    Calls Try.prog 54 #[.pointer (some ⟨t, 0, none⟩), .int .i64 n] w fun e w' => e = .returned (ndV (ndAt ps l n)) ∧ Below w.heap.size w w' := by
  have HA : Hid (∀ o, Calls Try.prog 36 #[.pointer (some ⟨t, 0, none⟩)] (w.alloc o) fun e w' => e = .returned (.int .i64 (ps.length : Int)) ∧ w.alloc o = w') := Lib.hid fun o => nodes_any _ s t ps l (h.keep ((Below.refl _ _).alloc (Nat.le_refl _) _))
  by_cases hin : 0 ≤ n ∧ n < ps.length
  · obtain ⟨i, rfl⟩ : ∃ i : Nat, n = (i : Int) := ⟨n.toNat, by omega⟩
    have hi : i < ps.length := by omega
    rw [ndAt_in l hi]
    obtain ⟨g, cap, m, h1, hn, hg, hc⟩ := h.row
    obtain ⟨d0, d1, d2, d3⟩ := hc i hi
    obtain ⟨c0, c1⟩ := h1.cells
    have ht := h1.lt
    have hin2 : (i : Int) < (ps.length : Int) := by omega
    have hin3 : ¬ (ps.length : Int) ≤ (i : Int) := by omega
    clear hc h1 h hin
    generalize ndOf ps l ps[i] = r at *
    go_enter Try.func54, Try.ntmps54
    go_wp2_with (go_at_call 36; (with_reducible refine (HA.out _).mono ?_); rintro e w1 ⟨rfl, rfl⟩)
    exact bodyPost_ret (v := ndV r) (by simp [results, Try.results54, go_sem]) rfl ⟨rfl, (Below.refl _ _).alloc (Nat.le_refl _) _⟩
  · rw [ndAt_out l hin]
    by_cases h0 : n < 0
    · clear hin
      go_enter Try.func54, Try.ntmps54
      go_wp2_with (go_at_call 38; (with_reducible refine (none_any _).mono ?_); rintro e w1 ⟨rfl, rfl⟩)
      exact bodyPost_ret (v := .agg #[.int .i64 (-1), .int .u8 0, .int .i64 0, .int .i64 (-1)]) (by simp [results, Try.results54, go_sem]) rfl ⟨rfl, ((Below.refl _ _).alloc (Nat.le_refl _) _).alloc (by simp) _⟩
    · have h2 : (ps.length : Int) ≤ n := by omega
      clear hin h
      go_enter Try.func54, Try.ntmps54
      go_wp2_with (first | (go_at_call 38; (with_reducible refine (none_any _).mono ?_); rintro e w1 ⟨rfl, rfl⟩) | (go_at_call 36; (with_reducible refine (HA.out _).mono ?_); rintro e w1 ⟨rfl, rfl⟩))
      exact bodyPost_ret (v := .agg #[.int .i64 (-1), .int .u8 0, .int .i64 0, .int .i64 (-1)]) (by simp [results, Try.results54, go_sem]) rfl ⟨rfl, ((Below.refl _ _).alloc (Nat.le_refl _) _).alloc (by simp) _⟩
theorem field_up (a b c d : Int) (w : World) : (Instr.field 75 (.agg #[.int .i64 a, .int .u8 b, .int .i64 c, .int .i64 d]) 0).run Try.prog w = .ok (.int .i64 a) w := by
  simp [Instr.field, asAgg, go_sem]
theorem field_deep (a b c d : Int) (w : World) : (Instr.field 75 (.agg #[.int .i64 a, .int .u8 b, .int .i64 c, .int .i64 d]) 2).run Try.prog w = .ok (.int .i64 c) w := by
  simp [Instr.field, asAgg, go_sem]
theorem field_word (a b c d : Int) (w : World) : (Instr.field 75 (.agg #[.int .i64 a, .int .u8 b, .int .i64 c, .int .i64 d]) 3).run Try.prog w = .ok (.int .i64 d) w := by
  simp [Instr.field, asAgg, go_sem]
theorem ndAt_deep (ps l : List Tx) (n : Int) : (ndAt ps l n).deep = (pathD ps n).length := by
  unfold ndAt pathD; cases pathOf ps n <;> rfl
theorem ndAt_up (ps l : List Tx) (n : Int) : (ndAt ps l n).up = upOf ps n := by
  unfold ndAt upOf; cases pathOf ps n <;> rfl
theorem ndAt_word (ps l : List Tx) (n : Int) : (ndAt ps l n).word = wordOf ps l n := by
  unfold ndAt wordOf; cases pathOf ps n <;> rfl
theorem depth_any (w : World) (s t : Nat) (ps l : List Tx) (h : Tr w s t ps l) (n : Int) :
    Calls Try.prog 53 #[.pointer (some ⟨t, 0, none⟩), .int .i64 n] w fun e w' => e = .returned (.int .i64 ((pathD ps n).length : Int)) ∧ Below w.heap.size w w' := by
  have HA := Lib.hid (at_any w s t ps l h n)
  have hf := field_deep
  rw [← ndAt_deep ps l n]
  clear h
  generalize ndAt ps l n = r at *
  go_enter Try.func53, Try.ntmps53
  go_wp2_with (go_at_call 54; (with_reducible refine HA.out.mono ?_); rintro e w1 ⟨rfl, hb⟩)
  go_ret
  exact ⟨rfl, hb⟩
theorem depth_none (w : World) (n : Int) : Calls Try.prog 53 #[.pointer none, .int .i64 n] w fun e w' => e = .returned (.int .i64 0) ∧ Below w.heap.size w w' := by
  have hf := field_deep
  go_enter Try.func53, Try.ntmps53
  go_wp2_with (go_at_call 54; (with_reducible refine (at_none w n).mono ?_); rintro e w1 ⟨rfl, hb⟩)
  go_ret
  exact ⟨rfl, hb⟩
theorem word_any (w : World) (s t : Nat) (ps l : List Tx) (h : Tr w s t ps l) (n : Int) :
    Calls Try.prog 59 #[.pointer (some ⟨t, 0, none⟩), .int .i64 n] w fun e w' => e = .returned (.int .i64 (wordOf ps l n)) ∧ Below w.heap.size w w' := by
  have HA := Lib.hid (at_any w s t ps l h n)
  have hf := field_word
  rw [← ndAt_word ps l n]
  clear h
  generalize ndAt ps l n = r at *
  go_enter Try.func59, Try.ntmps59
  go_wp2_with (go_at_call 54; (with_reducible refine HA.out.mono ?_); rintro e w1 ⟨rfl, hb⟩)
  go_ret
  exact ⟨rfl, hb⟩
theorem word_none (w : World) (n : Int) : Calls Try.prog 59 #[.pointer none, .int .i64 n] w fun e w' => e = .returned (.int .i64 (-1)) ∧ Below w.heap.size w w' := by
  have hf := field_word
  go_enter Try.func59, Try.ntmps59
  go_wp2_with (go_at_call 54; (with_reducible refine (at_none w n).mono ?_); rintro e w1 ⟨rfl, hb⟩)
  go_ret
  exact ⟨rfl, hb⟩
end Go.Proofs.Ytkooanahgffjgaa.Tri
