import Derived.Test.YtkooanahgffjgaaSh
/- What the walks of layer 8 share. -/
namespace Go.Proofs.Ytkooanahgffjgaa.Spa
open Go.RowKit Go.Maps
open Go.Proofs.Ytkooanahgffjgaa.Tri Go.Proofs.Ytkooanahgffjgaa.Lnk Go.Proofs.Ytkooanahgffjgaa.Prs
set_option maxRecDepth 100000
theorem few_tot {xs : List TxV} (h0 : xs.length ≤ 12) (hx : ∀ x ∈ xs, x.text.length ≤ 40) : tot (xs.map TxV.text) ≤ 480 := by
  have := tot_le (xs.map TxV.text) 40 (fun x h => by
    obtain ⟨y, hy, rfl⟩ := List.mem_map.1 h
    exact hx y hy)
  rw [List.length_map] at this
  omega
theorem Mt.cnt {w : World} {g : Nat} {a b c d : Int} (h : Met.Mt w (some ⟨g, 0, none⟩) a b c d) : Met.Cnt w g a b c d := by
  rcases h with e | ⟨g', e, h⟩
  · cases e
  · cases e; exact h
theorem grown_below {g : Nat} {w X Y : World} (h : Below w.heap.size w X) (hg : X.grownBy Y (some g)) (hB : w.heap.size ≤ g) : Below w.heap.size w Y := h.grown hg h.size (fun k e => by obtain rfl := Option.some.inj e; exact hB)
theorem bs_grown {X Y : World} {B : Nat} {a : Option Addr} {l : Tx} {g : Nat} {c d e f : Int} (h : Bs X B a l) (hg : X.grownBy Y (some g)) (hM : Met.Cnt X g c d e f) : Bs Y B a l := Met.Bs.adds (p := some ⟨g, 0, none⟩) h hg (.inr ⟨g, rfl, hM⟩)
theorem cnt_new (w : World) : Met.Cnt (w.alloc (.cells #[.int .i64 0, .int .i64 0, .int .i64 0, .int .i64 0] 56)) w.heap.size 0 0 0 0 := Met.Blk4.new w 56 _ _ _ _
/-- A scan with a counter of one's own. -/
theorem scan_new (w : World) (t : Nat) (ps l : List Tx) (hA : Au w t ps l) (g : Nat) (line : Tx) (al : Option Addr) (cl : Nat) (hb : Bs w w.heap.size al line) (hl : line.length ≤ 1000) (a b : Nat) (hM : Met.Cnt w g (a : Int) (b : Int) 0 0) (ha : a ≤ 1000000) (hb' : b ≤ 1000000) :
    Calls Try.prog 14 #[.pointer (some ⟨t, 0, none⟩), .pointer (some ⟨g, 0, none⟩), .slice al line.length cl] w fun x w' => ∃ A cap, x = .returned (.slice A (scanOf l line).length cap) ∧ Ps w' w'.heap.size A (scanOf l line) ∧ Met.Cnt w' g ((a + line.length : Nat) : Int) ((b + looksTo ps line line.length : Nat) : Int) 0 0 ∧ w.grownBy w' (some g) := by
  refine (scan_any w t ps l hA (some ⟨g, 0, none⟩) line al cl hb hl (a : Int) (b : Int) 0 0 (.inr ⟨g, rfl, hM⟩) (by omega) (by omega) (by omega) (by omega)).mono ?_
  rintro x w' ⟨A, cap, e, hp, _, hM', hg⟩
  refine ⟨A, cap, e, hp, ?_, hg⟩
  have := Mt.cnt hM'
  rw [Int.natCast_add, Int.natCast_add]; exact this
/-- .. with none. -/
theorem scan_free (w : World) (t : Nat) (ps l : List Tx) (hA : Au w t ps l) (line : Tx) (al : Option Addr) (cl : Nat) (hb : Bs w w.heap.size al line) (hl : line.length ≤ 1000) :
    Calls Try.prog 14 #[.pointer (some ⟨t, 0, none⟩), .pointer none, .slice al line.length cl] w fun x w' => ∃ A cap, x = .returned (.slice A (scanOf l line).length cap) ∧ Ps w' w'.heap.size A (scanOf l line) ∧ (A = none → cap = 0) ∧ Below w.heap.size w w' := by
  refine (scan_any w t ps l hA none line al cl hb hl 0 0 0 0 (.inl rfl) (by omega) (by omega) (by omega) (by omega)).mono ?_
  rintro x w' ⟨A, cap, e, hp, hn, _, hg⟩
  exact ⟨A, cap, e, hp, hn, (Below.refl _ _).grown hg (Nat.le_refl _) (fun k e => by cases e)⟩
/-- A step without a counter. -/
theorem step_free (w : World) (t : Nat) (ps l : List Tx) (hA : Au w t ps l) (q : Tx) (hq : q ∈ ps) (c : UInt8) :
    Calls Try.prog 21 #[.pointer (some ⟨t, 0, none⟩), .pointer none, .int .i64 (place ps q), .int .u8 (c.toNat : Int)] w fun x w' => x = .returned (.int .i64 (place ps (stepT ps c q))) ∧ Below w.heap.size w w' := by
  have hn : (stepN ps c q : Int) ≤ 1000000000000 := by
    have h1 := step_bound hA.1 c _ q (Nat.le_refl _)
    have h2 := hA.2.2.2.1 q hq
    omega
  refine (Step_in w t ps l hA none q hq c 0 0 0 0 (.inl rfl) (by omega) (by omega) (by omega) (by omega)).mono ?_
  rintro x w' ⟨e, _, hg⟩
  exact ⟨e, (Below.refl _ _).grown hg (Nat.le_refl _) (fun k e => by cases e)⟩
end Go.Proofs.Ytkooanahgffjgaa.Spa
