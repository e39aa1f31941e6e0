/- Contracts of fold.Of, Bytes, Fixed, List. -/
import Derived.Test.YtlepabeibniabaaWalkb
import Derived.LoopTactic
namespace Go.Proofs.Ytlepabeibniabaa
open Go.RowKit
set_option maxRecDepth 100000

theorem Bs.drew {w : World} {B : Nat} {a : Option Addr} {l : List UInt8} (h : Bs w B a l) : Bs w.drew B a l := h
/-- A block of four words that is known whole. -/
def Blk4 (w : World) (g N : Nat) : Prop := w.heap[g]? = some (.cells #[.int .u64 (wd N 0), .int .u64 (wd N 1), .int .u64 (wd N 2), .int .u64 (wd N 3)] 43 (0, 0))
theorem Blk4.lt {w : World} {g N : Nat} (h : Blk4 w g N) : g < w.heap.size := by
  rcases Nat.lt_or_ge g w.heap.size with hlt | hge
  · exact hlt
  · unfold Blk4 at h; rw [Array.getElem?_eq_none hge] at h; cases h
theorem Blk4.keep {w w' : World} {B g N : Nat} (h : Blk4 w g N) (hb : Below B w w') (hg : g < B) : Blk4 w' g N := (hb.block g hg).trans h
theorem Blk4.cells {w : World} {g N : Nat} (h : Blk4 w g N) : w.cell? ⟨g, 0, none⟩ = some (.int .u64 (wd N 0)) ∧ w.cell? ⟨g, 1, none⟩ = some (.int .u64 (wd N 1)) ∧ w.cell? ⟨g, 2, none⟩ = some (.int .u64 (wd N 2)) ∧ w.cell? ⟨g, 3, none⟩ = some (.int .u64 (wd N 3)) := by
  unfold Blk4 at h
  refine ⟨?_, ?_, ?_, ?_⟩ <;> (rw [cell_of_row w g _ _ 43 (0, 0) h]; rfl)
theorem Blk4.free {w : World} {g N : Nat} (h : Blk4 w g N) : w.frozen? ⟨g, 0, none⟩ = false ∧ w.frozen? ⟨g, 1, none⟩ = false ∧ w.frozen? ⟨g, 2, none⟩ = false ∧ w.frozen? ⟨g, 3, none⟩ = false := by
  unfold Blk4 at h
  refine ⟨?_, ?_, ?_, ?_⟩ <;> simp [World.frozen?, h]

/-- Four words stored. -/
def put4 (w : World) (g M : Nat) : World :=
  (((w.setCell ⟨g, 0, none⟩ (.int .u64 (wd M 0))).setCell ⟨g, 1, none⟩ (.int .u64 (wd M 1))).setCell ⟨g, 2, none⟩ (.int .u64 (wd M 2))).setCell ⟨g, 3, none⟩ (.int .u64 (wd M 3))
theorem Blk4.put {w : World} {g N : Nat} (h : Blk4 w g N) (M : Nat) : Blk4 (put4 w g M) g M := by
  unfold Blk4 at h ⊢
  unfold put4
  rw [heap_set_same (heap_set_same (heap_set_same (heap_set_same h)))]
  rfl
theorem below_put4 {B : Nat} {a w : World} (h : Below B a w) {g : Nat} (hg : B ≤ g) (M : Nat) : Below B a (put4 w g M) :=
  (((h.setCell (p := ⟨g, 0, none⟩) hg _).setCell (p := ⟨g, 1, none⟩) hg _).setCell (p := ⟨g, 2, none⟩) hg _).setCell (p := ⟨g, 3, none⟩) hg _
theorem Blk4.far {w : World} {g g' N : Nat} (h : Blk4 w g N) (hne : g < g') (M : Nat) : Blk4 (put4 w g' M) g N :=
  h.keep (B := g') (below_put4 (Below.refl _ _) (Nat.le_refl _) M) hne
theorem Blk4.new (w : World) : Blk4 (w.alloc (.cells #[.int .u64 0, .int .u64 0, .int .u64 0, .int .u64 0] 43)) w.heap.size 0 := heap_alloc_new w _

set_option maxHeartbeats 4000000 in
theorem of_any (l : List UInt8) (a : Option Addr) (cap : Nat) (w : World) (hl : l.length ≤ 1000000000000) (hb : Bs w w.heap.size a l) :
    Calls Try.prog 23 #[.slice a l.length cap] w fun e w' => e = .returned (setV (setOf l)) ∧ Below w.heap.size w w' := by
  go_enter Try.func23, Try.ntmps23
  go_wp2
  go_loopw [8] (fun i wr => ∃ k : Nat, k ≤ l.length ∧ i = .int .i64 k ∧ Blk4 wr w.heap.size 0 ∧ Blk4 wr (w.heap.size + 1) (setOf (l.take k)) ∧ Below w.heap.size w wr)
    (fun i _ => l.length - (intOf i).toNat)
  case atStart => 
    refine ⟨0, Nat.zero_le _, rfl, ?_, ?_, ?_⟩
    · exact (Blk4.new w).keep (B := w.heap.size + 1) ((Below.refl _ _).alloc (by simp) _) (by omega)
    · have h := Blk4.new (w.alloc (.cells #[.int .u64 0, .int .u64 0, .int .u64 0, .int .u64 0] 43))
      have h0 : setOf (l.take 0) = 0 := by simp [setOf]
      rw [h0]
      simpa using h
    · exact ((Below.refl _ _).alloc (Nat.le_refl _) _).alloc (by simp) _
  case round =>
    obtain ⟨k, hk, rfl, hr, hs, hbel⟩ := hrel
    obtain ⟨c0, c1, c2, c3⟩ := hs.cells
    by_cases hlt : k < l.length
    · obtain ⟨b, off, rfl, hbl, hc⟩ := hb (by omega)
      have hck : wr.cell? ⟨b, off + k, none⟩ = some (.int .u8 (l[k].toNat : Int)) := (hbel.cell (p := ⟨b, off + k, none⟩) hbl).trans (hc k hlt)
      have HC := Lib.hid hc
      clear hc
      go_wp2_with (go_at_call 25; refine (with_any _ _ _ (UInt8.toNat_lt _)).mono ?_; rintro e w1 ⟨rfl, hw1⟩; rw [setV_eq]; obtain ⟨f0, f1, f2, f3⟩ := (hs.keep hw1 hs.lt).free; obtain ⟨d0, d1, d2, d3⟩ := (hs.keep hw1 hs.lt).cells)
      go_roundw
      case rel =>
        have hz := hs.lt
        have e : setOf (l.take (k + 1)) = setOf (l.take k) ||| 2 ^ l[k].toNat := by rw [take_snoc l k hlt, setOf_snoc]
        refine ⟨k + 1, by omega, by go_num, ?_, ?_, ?_⟩
        · exact (hr.keep hw1 hr.lt).far (by omega) _
        · rw [e]; exact (hs.keep hw1 hs.lt).put _
        · exact below_put4 (hbel.trans (hw1.mono hbel.size)) (by omega) _
      case measure => simp [intOf]; omega
    · obtain ⟨f0, f1, f2, f3⟩ := hr.free
      obtain ⟨d0, d1, d2, d3⟩ := hr.cells
      go_wp2
      refine bodyPost_ret (v := setV (setOf (l.take k))) ?_ rfl ⟨?_, below_put4 hbel (Nat.le_refl _) _⟩
      · obtain ⟨e0, e1, e2, e3⟩ := (hr.put (setOf (l.take k))).cells
        unfold put4 at e0 e1 e2 e3
        simp [results, Try.results23, go_sem, setV, e0, e1, e2, e3]
      · rw [List.take_of_length_le (by omega)]
end Go.Proofs.Ytlepabeibniabaa
