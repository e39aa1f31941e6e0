/- Options: Of, a number's options. -/
import Derived.Test.YtjccnhipdhpkoaaOptA1
import Derived.Deep.LoopGhost
import Derived.Deep.RegionHeld
import Derived.StillTailTactics
namespace Go.Proofs.Ytjccnhipdhpkoaa.Opt
open Go.RowKit
set_option maxRecDepth 100000

/-- The letters, as a text. -/
abbrev LIT : ByteArray := ⟨#[105, 119, 120, 111, 98, 118, 99]⟩
def letN (k : Nat) : Nat := [105, 119, 120, 111, 98, 118, 99].getD k 0
theorem let_dec {k : Nat} (h : k < 7) : Utf8.decode LIT k = (letN k, 1) := by
  have : ∀ k : Fin 7, Utf8.decode LIT k.val = (letN k.val, 1) := by decide +kernel
  exact this ⟨k, h⟩
theorem let_idx {k : Nat} (h : k < 7) : idx (letN k : Int) = some k := by
  have : ∀ k : Fin 7, idx (letN k.val : Int) = some k.val := by decide +kernel
  exact this ⟨k, h⟩
theorem field_let (g : Nat) {k : Nat} (h : k < 7) (w : World) :
    Calls Try.prog 22 #[.pointer (some ⟨g, 0, none⟩), .int .i32 (letN k : Int)] w fun e w' => e = .returned (.pointer (some ⟨g, k, none⟩)) ∧ w' = w :=
  (field_any g _ w).mono fun _ _ ⟨he, hw⟩ => ⟨by rw [he]; unfold ptrO; rw [let_idx h], hw.symm⟩
/-- Where a range over the letters stands. -/
theorem next_let {w : World} {j k : Nat} (hj : w.heap[j]? = some (.stringIter LIT k)) (h : k < 7) (ty : TypeId) :
    (Instr.next (.pointer (some ⟨j, 0, none⟩)) true ty).run Try.prog w = .ok (.tuple #[.bool true, .int .i64 k, .int .i32 (letN k)]) (w.iterAt j LIT (k + 1)) := by
  rw [Lib.run_next_any_at w j LIT k ty hj h, let_dec h]
theorem next_over {w : World} {j : Nat} (hj : w.heap[j]? = some (.stringIter LIT 7)) (ty : TypeId) :
    (Instr.next (.pointer (some ⟨j, 0, none⟩)) true ty).run Try.prog w = .ok (.tuple #[.bool false]) w :=
  Lib.run_next_end_at w j LIT 7 ty hj (by decide)

theorem bk_at {w : World} {x : Nat} (hx : x = w.heap.size) (a b c d e f g : Bool) : Bk (w.alloc (.cells #[.bool a, .bool b, .bool c, .bool d, .bool e, .bool f, .bool g] 24)) x [a, b, c, d, e, f, g] := by subst hx; exact bk_new w a b c d e f g
theorem iter_at {w : World} {x : Nat} (hx : x = w.heap.size) (s : ByteArray) (p : Nat) : (w.iter s p).heap[x]? = some (.stringIter s p) := by subst hx; exact World.iter_heap w s p
def ofTo (n k : Nat) : List Bool := (List.range 7).map fun j => decide (j < k) && decide (n / 2 ^ j % 2 = 1)
theorem ofTo_zero (n : Nat) : ofTo n 0 = [false, false, false, false, false, false, false] := by simp [ofTo, List.range, List.range.loop]
theorem ofTo_len (n k : Nat) : (ofTo n k).length = 7 := by simp [ofTo]
theorem ofTo_all (n : Nat) : ofTo n 7 = ofO n := by simp [ofTo, ofO, List.range, List.range.loop]
theorem ofTo_next (n : Nat) {k : Nat} (h : k < 7) : (ofTo n k).set k (decide (n / 2 ^ k % 2 = 1)) = ofTo n (k + 1) := by
  apply List.ext_getElem?
  intro j
  rw [List.getElem?_set]
  by_cases hj : k = j
  · subst hj
    simp [ofTo, h]
  · simp only [hj, if_false]
    by_cases h7 : j < 7
    · simp only [ofTo, List.getElem?_map, List.getElem?_range h7, Option.map_some]
      congr 2
      rw [Bool.eq_iff_iff]; simp; omega
    · simp [ofTo, h7]

theorem of_seven (n : Nat) : ∃ a b c d e f g, ofO n = [a, b, c, d, e, f, g] := ⟨_, _, _, _, _, _, _, by simp only [ofO, List.range, List.range.loop, List.map_cons, List.map_nil]; rfl⟩
theorem bit_is (n k : Nat) (hn : n < 256) (hk : k < 7) : (bits BinOp.and IntKind.u8 ((n : Int) / 2 ^ k) 1 == 1) = decide (n / 2 ^ k % 2 = 1) := by
  have : ∀ (n : Fin 256) (k : Fin 7), (bits BinOp.and IntKind.u8 ((n.val : Int) / 2 ^ k.val) 1 == 1) = decide (n.val / 2 ^ k.val % 2 = 1) := by decide +kernel
  exact this ⟨n, hn⟩ ⟨k, hk⟩

/-- Seven cells stored. -/
def put7 (w : World) (x : Nat) (a b c d e f g : Bool) : World := ((((((w.setCell ⟨x, 0, none⟩ (.bool a)).setCell ⟨x, 1, none⟩ (.bool b)).setCell ⟨x, 2, none⟩ (.bool c)).setCell ⟨x, 3, none⟩ (.bool d)).setCell ⟨x, 4, none⟩ (.bool e)).setCell ⟨x, 5, none⟩ (.bool f)).setCell ⟨x, 6, none⟩ (.bool g)
theorem Bk.put {w : World} {x : Nat} {l : List Bool} (h : Bk w x l) (a b c d e f g : Bool) : Bk (put7 w x a b c d e f g) x [a, b, c, d, e, f, g] := by
  have h7 := h.2
  match l, h7, h with
  | [_, _, _, _, _, _, _], _, h => exact ((((((h.set 0 a).set 1 b).set 2 c).set 3 d).set 4 e).set 5 f).set 6 g
theorem below_put7 {B : Nat} {v w : World} (h : Below B v w) {x : Nat} (hx : B ≤ x) (a b c d e f g : Bool) : Below B v (put7 w x a b c d e f g) :=
  ((((((h.setCell (p := ⟨x, 0, none⟩) hx _).setCell (p := ⟨x, 1, none⟩) hx _).setCell (p := ⟨x, 2, none⟩) hx _).setCell (p := ⟨x, 3, none⟩) hx _).setCell (p := ⟨x, 4, none⟩) hx _).setCell (p := ⟨x, 5, none⟩) hx _).setCell (p := ⟨x, 6, none⟩) hx _
/-- A call that hands out options, and leaves what was there as it was. -/
def GivesO (w : World) (l : List Bool) (r : Ending) (w' : World) : Prop := (∃ a b c d e f g, l = [a, b, c, d, e, f, g] ∧ r = .returned (val7 a b c d e f g)) ∧ Below w.heap.size w w'

set_option maxHeartbeats 1000000 in
theorem of_any (n : Nat) (hn : n < 256) (w : World) :
    Calls Try.prog 17 #[.int .u8 (n : Int)] w (GivesO w (ofO n)) := by
  go_enter Try.func17, Try.ntmps17
  go_wp2
  go_loopg [4, 5] 7 (fun gf s4 s5 wx => ∃ k : Nat, k + gf = 7 ∧ wx.heap[w.heap.size + 1 + 1]? = some (.stringIter LIT k) ∧ Bk wx (w.heap.size + 1) (ofTo n k) ∧ Bk wx w.heap.size [false, false, false, false, false, false, false] ∧ Below w.heap.size w wx)
  case atStart =>
    refine ⟨0, rfl, ?_, ?_, ?_, ?_⟩
    · exact iter_at (by simp) _ _
    · rw [ofTo_zero]; exact (bk_at (by simp) _ _ _ _ _ _ _).keep ((Below.refl _ _).alloc (Nat.le_refl _) _) (by simp)
    · exact (bk_at (by simp) _ _ _ _ _ _ _).keep (((Below.refl _ _).alloc (Nat.le_refl _) _).alloc (by simp) _) (by simp)
    · exact (((Below.refl _ _).alloc (Nat.le_refl _) _).alloc (by simp) _).alloc (by simp; omega) _
  case round =>
    obtain ⟨k, hk, hit, hbk, hb0, hbel⟩ := hrel
    cases gk with
    | succ gf =>
      have hlt : k < 7 := by omega
      have hnx := fun ty => next_let hit hlt ty
      have hit2 := Lib.iterAt_heap wr _ LIT k (k + 1) hit
      have hbk2 := hbk.iter hit (k + 1)
      have hb02 := hb0.iter hit (k + 1)
      have hbel2 := Lib.below_iterAt hbel (k := w.heap.size + 1 + 1) (by omega) LIT (k + 1)
      obtain ⟨W, hWd⟩ : ∃ W, wr.iterAt (w.heap.size + 1 + 1) LIT (k + 1) = W := ⟨_, rfl⟩
      rw [hWd] at hnx hit2 hbk2 hb02 hbel2
      clear hit hbk hb0 hbel hWd
      go_wp2
      go_still_tail 8, (by kernel_rfl)
      change wpStill _ _ W.drew _ _ _
      have C1 := Lib.hid (field_let (w.heap.size + 1) hlt W.drew)
      have HBK := Lib.hid (show Bk W.drew (w.heap.size + 1) (ofTo n k) from hbk2)
      have HB0 := Lib.hid (show Bk W.drew w.heap.size _ from hb02)
      have HIT := Lib.hid (show W.drew.heap[w.heap.size + 1 + 1]? = _ from hit2)
      have HBE := Lib.hid (below_drews hbel2 1)
      change Hid (Below _ _ W.drew) at HBE
      clear hbk2 hb02 hit2 hbel2 hnx
      still_call C1.out
      repeat still_step
      try refine wpStill_nil ?_
      change wpList _ _ _ _ _ W.drew
      generalize W.drew = W2 at *
      rw [bit_is n k hn hlt]
      have hcl := HBK.out.cell (k := k) (b := (ofTo n k)[k]'(by rw [ofTo_len]; exact hlt)) (List.getElem?_eq_getElem _)
      have hfr := HBK.out.free k
      go_wp2
      go_roundg gf
      case rel =>
        refine ⟨k + 1, by omega, ?_, ?_, ?_, ?_⟩
        · exact (Below.heap_setCell _ _ _ _ (by simp)).trans HIT.out
        · rw [← ofTo_next n hlt]; exact HBK.out.set k _
        · exact ⟨(Below.heap_setCell _ _ _ _ (by simp)).trans HB0.out.1, rfl⟩
        · exact HBE.out.setCell (by simp) _
      case measure => omega
    | zero =>
      obtain rfl : k = 7 := by omega
      have hnx := fun ty => next_over hit ty
      rw [ofTo_all] at hbk
      obtain ⟨a, b, c, d, e, f, g, ho⟩ := of_seven n
      rw [ho] at hbk
      have l0 := hbk.cell (k := 0) rfl
      have l1 := hbk.cell (k := 1) rfl
      have l2 := hbk.cell (k := 2) rfl
      have l3 := hbk.cell (k := 3) rfl
      have l4 := hbk.cell (k := 4) rfl
      have l5 := hbk.cell (k := 5) rfl
      have l6 := hbk.cell (k := 6) rfl
      have c0 := hb0.cell (k := 0) rfl
      have c1 := hb0.cell (k := 1) rfl
      have c2 := hb0.cell (k := 2) rfl
      have c3 := hb0.cell (k := 3) rfl
      have c4 := hb0.cell (k := 4) rfl
      have c5 := hb0.cell (k := 5) rfl
      have c6 := hb0.cell (k := 6) rfl
      have f0 := hb0.free
      go_wp2
      have HP := hb0.put a b c d e f g
      have HQ := below_put7 hbel (Nat.le_refl _) a b c d e f g
      unfold put7 at HP HQ
      have m0 := HP.cell (k := 0) rfl
      have m1 := HP.cell (k := 1) rfl
      have m2 := HP.cell (k := 2) rfl
      have m3 := HP.cell (k := 3) rfl
      have m4 := HP.cell (k := 4) rfl
      have m5 := HP.cell (k := 5) rfl
      have m6 := HP.cell (k := 6) rfl
      exact bodyPost_ret (v := val7 a b c d e f g) (by simp [results, Try.results17, go_sem, m0, m1, m2, m3, m4, m5, m6]) rfl ⟨⟨a, b, c, d, e, f, g, rfl, rfl⟩, HQ⟩
end Go.Proofs.Ytjccnhipdhpkoaa.Opt
