/- What a piece must be: each of the functions asked by itself. -/
import Derived.Test.YticoahmiejgccaaAdmB2
namespace Go.Proofs.Yticoahmiejgccaa.Adm
open Go.RowKit Go.Proofs.Yticoahmiejgccaa.Prs
set_option maxRecDepth 100000

def lowN (n : Nat) : Nat := if 65 ≤ n ∧ n ≤ 90 then n + 32 else n
theorem fbyte_any (n : Nat) (hn : n < 256) (w : World) :
    Calls Try.prog 37 #[.int .u8 (n : Int)] w fun e w' => e = .returned (.int .u8 (lowN n : Int)) ∧ w = w' := by
  unfold lowN
  go_enter Try.func37, Try.ntmps37
  go_wp2
  all_goals (go_ret; exact ⟨rfl, rfl⟩)
theorem word_any (c : UInt8) (w : World) :
    Calls Try.prog 33 #[.int .u8 (c.toNat : Int)] w fun e w' => e = .returned (.bool (isWd c)) ∧ w = w' := by
  have hl := c.toNat_lt
  obtain ⟨n, hn⟩ : ∃ n, c.toNat = n := ⟨_, rfl⟩
  have hb : ∀ b, b = wdN n → Ending.returned (.bool b) = .returned (.bool (isWd c)) := fun b h => by rw [h]; unfold isWd; rw [hn]
  rw [hn] at hl ⊢
  have HB := Lib.hid (fbyte_any n (by omega) w)
  have hm : lowN n = if 65 ≤ n ∧ n ≤ 90 then n + 32 else n := rfl
  have HM := Lib.hid hm
  clear hm
  generalize lowN n = m at *
  go_enter Try.func33, Try.ntmps33
  go_wp2_with (go_at_call 37; (with_reducible refine HB.out.mono ?_); rintro e w1 ⟨rfl, rfl⟩)
  all_goals (go_ret; refine ⟨hb _ ?_, rfl⟩; clear hb; have hm := HM.out; clear HM HB; unfold wdN; split at hm <;> first | (symm; apply decide_eq_true; omega) | (symm; apply decide_eq_false; omega) | (rw [Bool.eq_iff_iff]; simp only [Bool.or_eq_true, decide_eq_true_eq, beq_iff_eq]; omega))
/-- The line that the functions look at, in a block of its own. -/
def Lv (w : World) (x : Nat) (al : Option Addr) (n cl : Nat) : Prop := w.heap[x]? = some (.cells #[.slice al n cl] 22 (0, 0))
theorem Lv.lt {w : World} {x : Nat} {al : Option Addr} {n cl : Nat} (h : Lv w x al n cl) : x < w.heap.size := txt_lt h
theorem Lv.keep {w w' : World} {B x : Nat} {al : Option Addr} {n cl : Nat} (h : Lv w x al n cl) (hb : Below B w w') (hx : x < B) : Lv w' x al n cl := (hb.block x hx).trans h
theorem Lv.cell {w : World} {x : Nat} {al : Option Addr} {n cl : Nat} (h : Lv w x al n cl) : w.cell? ⟨x, 0, none⟩ = some (.slice al n cl) := by
  unfold Lv at h; rw [cell_of_row w x _ _ 22 (0, 0) h]; rfl
/-- What each of them asks. -/
def ask (k : Nat) (line : Tx) (p : Pr) : Bool :=
  if k = 30 then fit line.length p
  else if k = 31 then decide (p.s < p.e)
  else if k = 32 then decide (p.s = 0) || !isWd (line.getD (p.s - 1).toNat 0)
  else if k = 34 then decide (p.e = (line.length : Int)) || !isWd (line.getD p.e.toNat 0)
  else decide (p.s = 0) && decide (p.e = (line.length : Int))
abbrev Asks (X : World) (b : Bool) : Ending → World → Prop := fun e w' => e = .returned (.bool b) ∧ Below X.heap.size X w'
theorem ask1_any (line : Tx) (al : Option Addr) (cl : Nat) (p : Pr) (X : World) (x : Nat) (hv : Lv X x al line.length cl) :
    Calls Try.prog 30 #[pv p, .pointer (some ⟨x, 0, none⟩)] X (Asks X (fit line.length p)) := by
  have hB := (Below.refl X.heap.size X).alloc (Nat.le_refl _) (.cells #[.int .i64 p.s, .int .i64 p.e] 31)
  obtain ⟨c0, c1⟩ := (pb_new X p.s p.e).cells
  have c2 := (hv.keep hB hv.lt).cell
  have HB := Lib.hid hB
  have hf : ∀ b, b = fit line.length p → Ending.returned (.bool b) = .returned (.bool (fit line.length p)) := fun b h => by rw [h]
  clear hB
  go_enter Try.func30, Try.ntmps30
  go_wp2
  all_goals (go_ret; refine ⟨hf _ ?_, HB.out⟩; clear hf; rw [Bool.eq_iff_iff, fit_iff]; simp; omega)
theorem ask2_any (p : Pr) (X : World) :
    Calls Try.prog 31 #[pv p] X (Asks X (decide (p.s < p.e))) := by
  have hB := (Below.refl X.heap.size X).alloc (Nat.le_refl _) (.cells #[.int .i64 p.s, .int .i64 p.e] 31)
  obtain ⟨c0, c1⟩ := (pb_new X p.s p.e).cells
  have HB := Lib.hid hB
  clear hB
  go_enter Try.func31, Try.ntmps31
  go_wp2
  all_goals (go_ret; exact ⟨rfl, HB.out⟩)
set_option maxHeartbeats 1000000 in
theorem ask3_any (line : Tx) (al : Option Addr) (cl : Nat) (p : Pr) (X : World) (x : Nat) (hl : line.length ≤ 1000000000) (hv : Lv X x al line.length cl) (ht : Bs X X.heap.size al line) (hp : fit line.length p = true) :
    Calls Try.prog 32 #[pv p, .pointer (some ⟨x, 0, none⟩)] X (Asks X (decide (p.s = 0) || !isWd (line.getD (p.s - 1).toNat 0))) := by
  have hB := (Below.refl X.heap.size X).alloc (Nat.le_refl _) (.cells #[.int .i64 p.s, .int .i64 p.e] 31)
  obtain ⟨c0, c1⟩ := (pb_new X p.s p.e).cells
  have c2 := (hv.keep hB hv.lt).cell
  have HT := Lib.hid (ht.keep hB)
  have HB := Lib.hid hB
  have CW := Lib.hid (fun c X => word_any c X)
  clear hB
  obtain ⟨a, b, rfl, hab, hbn⟩ := fit_nat hp
  clear hp hv ht
  by_cases ha : a = 0
  · subst ha
    go_enter Try.func32, Try.ntmps32
    go_wp2
    all_goals (go_ret; exact ⟨rfl, HB.out⟩)
  · obtain ⟨a1, rfl⟩ : ∃ a1, a = a1 + 1 := ⟨a - 1, by omega⟩
    have hlt : a1 < line.length := by omega
    obtain ⟨bb, off, rfl, _, hc⟩ := HT.out (by omega)
    have hca := hc a1 hlt
    have hz : decide (((a1 + 1 : Nat) : Int) = 0) = false := decide_eq_false (by omega)
    have hgd : line.getD (((a1 + 1 : Nat) : Int) - 1).toNat 0 = line[a1] := by
      rw [show (((a1 + 1 : Nat) : Int) - 1).toNat = a1 by omega]; simp [List.getD, hlt]
    show Calls Try.prog 32 #[pv ⟨((a1 + 1 : Nat) : Int), b⟩, .pointer (some ⟨x, 0, none⟩)] X (Asks X (decide (((a1 + 1 : Nat) : Int) = 0) || !isWd (line.getD (((a1 + 1 : Nat) : Int) - 1).toNat 0)))
    rw [hz, hgd]
    generalize line[a1] = c at *
    have ecast : ((a1 + 1 : Nat) : Int) = (a1 : Int) + 1 := by omega
    rw [ecast] at c0 c1 c2 hca HB ⊢
    dsimp only at c0 c1 c2 hca
    have hne : ((a1 : Int) + 1 == 0) = false := by simp; omega
    clear hc hz hgd ha HT ecast
    go_enter Try.func32, Try.ntmps32
    go_wp2_with (go_at_call 33; (with_reducible refine (CW.out _ _).mono ?_); rintro e w1 ⟨rfl, rfl⟩)
    all_goals (go_ret; exact ⟨rfl, HB.out⟩)
set_option maxHeartbeats 1000000 in
theorem ask4_any (line : Tx) (al : Option Addr) (cl : Nat) (p : Pr) (X : World) (x : Nat) (hl : line.length ≤ 1000000000) (hv : Lv X x al line.length cl) (ht : Bs X X.heap.size al line) (hp : fit line.length p = true) :
    Calls Try.prog 34 #[pv p, .pointer (some ⟨x, 0, none⟩)] X (Asks X (decide (p.e = (line.length : Int)) || !isWd (line.getD p.e.toNat 0))) := by
  have hB := (Below.refl X.heap.size X).alloc (Nat.le_refl _) (.cells #[.int .i64 p.s, .int .i64 p.e] 31)
  obtain ⟨c0, c1⟩ := (pb_new X p.s p.e).cells
  have c2 := (hv.keep hB hv.lt).cell
  have HT := Lib.hid (ht.keep hB)
  have HB := Lib.hid hB
  have CW := Lib.hid (fun c X => word_any c X)
  clear hB
  obtain ⟨a, b, rfl, hab, hbn⟩ := fit_nat hp
  clear hp hv ht
  by_cases hb : b = line.length
  · subst hb
    have he : ((line.length : Int) == (line.length : Int)) = true := by simp
    have hr : (decide ((line.length : Int) = (line.length : Int)) || !isWd (line.getD ((line.length : Int)).toNat 0)) = true := by simp
    show Calls Try.prog 34 #[pv ⟨(a : Int), (line.length : Int)⟩, .pointer (some ⟨x, 0, none⟩)] X (Asks X (decide ((line.length : Int) = (line.length : Int)) || !isWd (line.getD ((line.length : Int)).toNat 0)))
    rw [hr]
    go_enter Try.func34, Try.ntmps34
    go_wp2
    all_goals (go_ret; exact ⟨rfl, HB.out⟩)
  · have hlt : b < line.length := by omega
    obtain ⟨bb, off, rfl, _, hc⟩ := HT.out (by omega)
    have hcb := hc b hlt
    have hz : decide ((b : Int) = (line.length : Int)) = false := decide_eq_false (by omega)
    have hgd : line.getD ((b : Int)).toNat 0 = line[b] := by
      rw [Int.toNat_natCast]; simp [List.getD, hlt]
    show Calls Try.prog 34 #[pv ⟨(a : Int), (b : Int)⟩, .pointer (some ⟨x, 0, none⟩)] X (Asks X (decide ((b : Int) = (line.length : Int)) || !isWd (line.getD ((b : Int)).toNat 0)))
    rw [hz, hgd]
    generalize line[b] = c at *
    have hne : ((b : Int) == (line.length : Int)) = false := by simp; omega
    clear hc hz hgd hb HT
    dsimp only at c0 c1 c2 hcb
    go_enter Try.func34, Try.ntmps34
    go_wp2_with (go_at_call 33; (with_reducible refine (CW.out _ _).mono ?_); rintro e w1 ⟨rfl, rfl⟩)
    all_goals (go_ret; exact ⟨rfl, HB.out⟩)
theorem ask5_any (line : Tx) (al : Option Addr) (cl : Nat) (p : Pr) (X : World) (x : Nat) (hv : Lv X x al line.length cl) :
    Calls Try.prog 35 #[pv p, .pointer (some ⟨x, 0, none⟩)] X (Asks X (decide (p.s = 0) && decide (p.e = (line.length : Int)))) := by
  have hB := (Below.refl X.heap.size X).alloc (Nat.le_refl _) (.cells #[.int .i64 p.s, .int .i64 p.e] 31)
  obtain ⟨c0, c1⟩ := (pb_new X p.s p.e).cells
  have c2 := (hv.keep hB hv.lt).cell
  have HB := Lib.hid hB
  clear hB hv
  by_cases hs : p.s = 0
  · have h1 : (p.s == 0) = true := by simp [hs]
    have hr : (decide (p.s = 0) && decide (p.e = (line.length : Int))) = (p.e == (line.length : Int)) := by rw [decide_eq_true hs, Bool.true_and]; rw [Bool.eq_iff_iff]; simp
    rw [hr]
    clear hr hs
    go_enter Try.func35, Try.ntmps35
    go_wp2
    all_goals (go_ret; exact ⟨rfl, HB.out⟩)
  · have h1 : (p.s == 0) = false := by simp [hs]
    have hr : (decide (p.s = 0) && decide (p.e = (line.length : Int))) = false := by rw [decide_eq_false hs, Bool.false_and]
    rw [hr]
    clear hr hs
    go_enter Try.func35, Try.ntmps35
    go_wp2
    all_goals (go_ret; exact ⟨rfl, HB.out⟩)
end Go.Proofs.Yticoahmiejgccaa.Adm
