/- The document's examples: true in whatever world. -/
import Derived.Test.YtobkljjbemfkeaaWalke
namespace Go.Proofs.Ytobkljjbemfkeaa
open Go.RowKit

theorem Blk4.made (w : World) (N : Nat) : Blk4 (w.alloc (.cells #[.int .u64 (wd N 0), .int .u64 (wd N 1), .int .u64 (wd N 2), .int .u64 (wd N 3)] 31)) w.heap.size N := heap_alloc_new w _
theorem ex_eq (w : World) : (binOp .eql 31 (setV (setOf [0, 64, 65])) (.agg #[.int .u64 1, .int .u64 3, .int .u64 0, .int .u64 0])).run Try.prog w = .ok (.bool true) w := by
  have e : Value.agg #[.int .u64 1, .int .u64 3, .int .u64 0, .int .u64 0] = setV 55340232221128654849 := by
    unfold setV
    have e0 : wd 55340232221128654849 0 = 1 := by decide
    have e1 : wd 55340232221128654849 1 = 3 := by decide
    have e2 : wd 55340232221128654849 2 = 0 := by decide
    have e3 : wd 55340232221128654849 3 = 0 := by decide
    rw [e0, e1, e2, e3]
    rfl
  rw [e, eql_sets (setOf_lt _) (by decide) w]
  have h : (setOf [0, 64, 65] == 55340232221128654849) = true := by decide
  rw [h]
theorem ex_len : pc 64 (wd (setOf [0, 64, 65]) 0) + pc 64 (wd (setOf [0, 64, 65]) 1) + pc 64 (wd (setOf [0, 64, 65]) 2) + pc 64 (wd (setOf [0, 64, 65]) 3) = 3 := by decide
theorem ex_65 : (setOf [0, 64, 65]).testBit 65 = true := by decide
theorem ex_66 : (setOf [0, 64, 65]).testBit 66 = false := by decide

theorem const_at (w : World) (g : Nat) (hg : g = w.heap.size) (C : Array Value) (n c : Nat) :
    (convert 22 22 (.slice (some ⟨g, 0, none⟩) n c)).run Try.prog (w.alloc (.cells C 5)) = .ok (.slice (some ⟨g, 0, none⟩) n c) (w.alloc (.cells C 5 (C.size, C.size + 1))) := by
  subst hg
  exact Lib.run_convert_bytes_const w 22 5 C n c und22 und5
theorem bs_lit_at (w : World) (g : Nat) (l : List UInt8) (fr : Nat × Nat) (cs : Array Value) (hg : g = w.heap.size) (hcs : cs = (l.map fun c => Value.int .u8 (c.toNat : Int)).toArray) :
    Bs (w.alloc (.cells cs 5 fr)) (w.alloc (.cells cs 5 fr)).heap.size (some ⟨g, 0, none⟩) l := by
  subst hg
  exact bs_lit w l fr cs hcs

set_option maxHeartbeats 4000000 in
theorem awake_any (w : World) :
    Calls Try.prog 9 #[] w fun e w' => e = .returned (.bool true) ∧ Below w.heap.size w w' := by
  obtain ⟨N, hN⟩ : ∃ N, N = setOf [0, 64, 65] := ⟨_, rfl⟩
  have hof := fun (a : Option Addr) (cap : Nat) (w : World) => of_any [0, 64, 65] a cap w (by decide)
  have heq := ex_eq
  have hlen := ex_len
  have h65 := ex_65
  have h66 := ex_66
  rw [← hN] at hof heq hlen h65 h66
  clear hN
  have HLEN := Lib.hid hlen
  have H65 := Lib.hid h65
  have H66 := Lib.hid h66
  have HOF := Lib.hid hof
  clear hlen h65 h66 hof
  rw [setV_eq] at heq
  go_enter Try.func9, Try.ntmps9
  go_wp2_with fail
  go_at_call 17
  refine (HOF.out _ _ _ (bs_lit w [0, 64, 65] (0, 0) _ rfl)).mono ?_
  rintro e w1 ⟨rfl, hb1⟩
  rw [setV_eq]
  have kc := fun C n c => const_at (w1.alloc (Obj.cells #[.int .u64 (wd N 0), .int .u64 (wd N 1), .int .u64 (wd N 2), .int .u64 (wd N 3)] 31)) (w1.heap.size + 1) (by simp) C n c
  go_wp2_with fail
  clear kc
  go_at_call 11
  have hB := bs_lit_at (w1.alloc (Obj.cells #[.int .u64 (wd N 0), .int .u64 (wd N 1), .int .u64 (wd N 2), .int .u64 (wd N 3)] 31)) (w1.heap.size + 1) [65, 98, 95, 57] (4, 5) #[.int .u8 65, .int .u8 98, .int .u8 95, .int .u8 57] (by simp) rfl
  refine (bytes_any [65, 98, 95, 57] _ 4 _ (by decide) hB).mono ?_
  clear hB
  rintro e w2 ⟨a2, cap2, rfl, hb2, hbel2⟩
  have hbk2 : Blk4 w2 w1.heap.size N := (Blk4.made w1 N).keep (B := w1.heap.size + 1) (((Below.refl _ _).alloc (by simp) _).trans (hbel2.mono (by simp))) (by omega)
  have hbel : Below w.heap.size w w2 := ((((Below.refl _ _).alloc (Nat.le_refl _) _).trans (hb1.mono (by simp))).trans (((Below.refl _ _).alloc (by have := hb1.size; simp at this; omega) _).alloc (by have := hb1.size; simp at this; simp; omega) _)).trans (hbel2.mono (by have := hb1.size; simp at this; simp; omega))
  have HB := Lib.hid hbel
  clear hbel hbel2 hb1
  have hk2 := str_of_bs cap2 hb2
  have e2 : lows [65, 98, 95, 57] = [97, 98, 95, 57] := by decide
  rw [e2] at hk2 hb2 ⊢
  clear e2
  have hk3 : (convert 22 9 (.slice a2 4 cap2)).run Try.prog w2 = .ok (.string ⟨#[97, 98, 95, 57]⟩) w2 := hk2
  clear hk2
  obtain ⟨c0, c1, c2, c3⟩ := hbk2.cells
  go_wp2_with fail
  clear heq hk3
  go_at_call 21
  refine (has_any N 65 w2 (by decide)).mono ?_
  rintro e w3 ⟨rfl, hb3⟩
  rw [H65.out]
  have hbk3 := hbk2.keep hb3 hbk2.lt
  clear c0 c1 c2 c3
  obtain ⟨c0, c1, c2, c3⟩ := hbk3.cells
  go_wp2_with fail
  go_at_call 21
  refine (has_any N 66 w3 (by decide)).mono ?_
  rintro e w4 ⟨rfl, hb4⟩
  rw [H66.out]
  have hbk4 := hbk3.keep hb4 hbk3.lt
  clear c0 c1 c2 c3
  obtain ⟨c0, c1, c2, c3⟩ := hbk4.cells
  go_wp2_with fail
  go_at_call 23
  refine (len_any N w4).mono ?_
  rintro e w5 ⟨rfl, hb5⟩
  rw [HLEN.out]
  clear c0 c1 c2 c3
  go_wp2_with fail
  go_at_call 15
  refine (word_any 95 w5).mono ?_
  rintro e w6 ⟨rfl, rfl⟩
  have x1 : isWord (95 : UInt8).toNat = true := by decide
  rw [x1]
  go_wp2_with fail
  go_at_call 15
  refine (word_any 45 w5).mono ?_
  rintro e w6 ⟨rfl, rfl⟩
  have x2 : isWord (45 : UInt8).toNat = false := by decide
  rw [x2]
  go_wp2_with fail
  go_at_call 13
  refine (byte_any 90 w5).mono ?_
  rintro e w6 ⟨rfl, rfl⟩
  have x3 : (low 90).toNat = 122 := by decide
  rw [x3]
  have kc := fun C n c => const_at w5 w5.heap.size rfl C n c
  go_wp2_with fail
  clear kc
  go_at_call 12
  have hB := bs_lit w5 [97, 91] (2, 3) #[.int .u8 97, .int .u8 91] rfl
  refine (fixed_any [97, 91] _ 2 _ (by decide) hB).mono ?_
  clear hB
  rintro e w7 ⟨rfl, hb7⟩
  have x4 : (lows [97, 91] == [97, 91]) = true := by decide
  rw [x4]
  have kc := fun C n c => const_at w7 w7.heap.size rfl C n c
  go_wp2_with fail
  clear kc
  go_at_call 12
  have hB := bs_lit w7 [65] (1, 2) #[.int .u8 65] rfl
  refine (fixed_any [65] _ 1 _ (by decide) hB).mono ?_
  clear hB
  rintro e w8 ⟨rfl, hb8⟩
  have x5 : (lows [65] == [65]) = false := by decide
  rw [x5]
  go_wp2
  go_ret
  have hs := HB.out.size
  have h5 := ((HB.out.trans (hb3.mono hs)).trans (hb4.mono (Nat.le_trans hs hb3.size))).trans (hb5.mono (Nat.le_trans hs (Nat.le_trans hb3.size hb4.size)))
  have h7 := (h5.alloc h5.size _).trans (hb7.mono (by simp; have := h5.size; omega))
  exact ⟨rfl, (h7.alloc h7.size _).trans (hb8.mono (by simp; have := h7.size; omega))⟩
end Go.Proofs.Ytobkljjbemfkeaa
