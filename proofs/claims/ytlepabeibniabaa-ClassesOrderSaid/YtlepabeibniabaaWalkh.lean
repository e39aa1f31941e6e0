/- The contract of fold.Set's List. -/
import Derived.Test.YtlepabeibniabaaWalkg
namespace Go.Proofs.Ytlepabeibniabaa
open Go.RowKit
set_option maxRecDepth 100000

/-- What a slice of the call's own reads as. -/
theorem own_bs {w : World} {base n : Nat} {v : Value} {l : List UInt8} (h : w.ownsRow base 5 1 v n (vals l)) : ∃ a cap, v = .slice a l.length cap ∧ Bs w w.heap.size a l := by
  have hn : l.length = n := by have := h.1; simpa [vals] using this
  rcases h.2 with ⟨rfl, h0⟩ | ⟨g, cap, cur, rfl, _, hh, _, _, hs, ht⟩
  · refine ⟨none, 0, by rw [hn, h0], fun h1 => by omega⟩
  · refine ⟨some ⟨g, 0, none⟩, cap, by rw [hn], fun _ => ⟨g, 0, rfl, ?_, fun i hi => ?_⟩⟩
    · rcases Nat.lt_or_ge g w.heap.size with hlt | hge
      · exact hlt
      · rw [Array.getElem?_eq_none hge] at hh; cases hh
    · rw [Nat.zero_add, cell_of_row w g _ _ 5 (0, 0) hh]
      have e : (cur.toList.take (n * 1))[i]? = (vals l)[i]? := by rw [ht]
      rw [List.getElem?_take_of_lt (by omega)] at e
      rw [← Array.getElem?_toList, e]
      simp [vals, hi]

set_option maxRecDepth 100000 in
set_option maxHeartbeats 4000000 in
theorem list_any (N : Nat) (w : World) :
    Calls Try.prog 18 #[setV N] w (GivesBytes w (listTo N 256)) := by
  rw [setV_eq N]
  obtain ⟨i0, hi, hz0, hz1, hz2⟩ := info_parts info5
  go_enter Try.func18, Try.ntmps18
  go_wp2
  go_loopw [3, 5] (fun v i wr => ∃ k : Nat, k ≤ 256 ∧ i = .int .i64 k ∧ wr.ownsRow (w.heap.size + 1) 5 1 v (listTo N k).length (vals (listTo N k)) ∧ Blk4 wr w.heap.size N ∧ Below w.heap.size w wr)
    (fun _ i _ => 256 - (intOf i).toNat)
  case atStart => exact ⟨0, Nat.zero_le _, rfl, World.ownsRow_nil _ _ _ _, Blk4.made w N, (Below.refl _ _).alloc (Nat.le_refl _) _⟩
  case round =>
    obtain ⟨k, hk, rfl, hown, hs, hbel⟩ := hrel
    obtain ⟨c0, c1, c2, c3⟩ := hs.cells
    by_cases hlt : k < 256
    · have hle := listTo_le N k
      cases hb : N.testBit k with
      | true =>
        have HB := Lib.hid hb
        go_wp2_with (first
          | (go_at_call 24; refine (has_any N k _ hlt).mono ?_; rintro e w1 ⟨rfl, hw1⟩)
          | (at_builtin; refine wpList_append_own _ rfl _ _ 36 rfl (w.heap.size + 1) 5 i0 (.int .u8 0) 1 1 Try.underlying36 hi hz0 hz1 hz2 rfl (by decide) _ _ _ rfl ((own_keep hown hw1).alloc _) ⟨w1.heap.size, 0, none⟩ 1 1 [.int .u8 (k : Int)] rfl rfl ?c1 ?c2 ?c3 ?c4 ?c5 ?_))
        case c1 =>
          intro j u hj
          match j, hj with
          | 0, hj => simp at hj; subst hj; simp [Addr.add]
        case c2 => intro u hu; simp at hu; subst hu; rfl
        case c3 => unfold maxLen; omega
        case c4 => omega
        case c5 => have := hs.lt; have := hw1.size; simp; omega
        intro v2 w2 hown2 hgrow _
        have hz := hs.lt
        have hz1 := hw1.size
        have hge := fun g => own_ge hown (g := g)
        have R1 : w2.ownsRow (w.heap.size + 1) 5 1 v2 (listTo N (k + 1)).length (vals (listTo N (k + 1))) := by
          rw [listTo_yes _ _ HB.out, List.length_append]
          have e : vals (listTo N k ++ [UInt8.ofNat k]) = vals (listTo N k) ++ [.int .u8 (k : Int)] := by simp [vals, nat_u8 k hlt]
          rw [e]
          exact hown2
        have R2 : Blk4 w2 w.heap.size N := by
          have h1 : Blk4 (w1.alloc (.cells #[.int .u8 (k : Int)] 5)) w.heap.size N := (hs.keep hw1 hs.lt).keep (B := w1.heap.size) ((Below.refl _ _).alloc (Nat.le_refl _) _) (by omega)
          exact (hgrow.block w.heap.size h1.lt (fun e => by have := hge _ e.symm; omega)).trans h1
        have R3 : Below w.heap.size w w2 := ((hbel.trans (hw1.mono hbel.size)).alloc (by omega) _).grown hgrow (by simp; omega) (fun g e => by have := hge g e; omega)
        clear hown2 hgrow hown hge
        go_wp2
        go_roundw
        case rel => exact ⟨k + 1, by omega, by go_num, R1, R2, R3⟩
        case measure => simp [intOf]; omega
      | false =>
        have HB := Lib.hid hb
        go_wp2_with (go_at_call 24; refine (has_any N k _ hlt).mono ?_; rintro e w1 ⟨rfl, hw1⟩)
        go_roundw
        case rel => exact ⟨k + 1, by omega, by go_num, by rw [listTo_no _ _ HB.out]; exact own_keep hown hw1, hs.keep hw1 hs.lt, hbel.trans (hw1.mono hbel.size)⟩
        case measure => simp [intOf]; omega
    · have e : k = 256 := by omega
      subst e
      go_wp2
      go_ret
      obtain ⟨a, cap, rfl, hbs⟩ := own_bs hown
      exact ⟨a, cap, rfl, hbs, hbel⟩
end Go.Proofs.Ytlepabeibniabaa
