/- Meters in memory: what one counted, and what may change beside it; the contracts of New, Counts and add. -/
import Derived.Test.YtkooanahgffjgaaBase
import Derived.Maps.AppendAt
import Derived.Deep.RegionHeld3
import Derived.Deep.DrawnRows
import Derived.StillTailTactics
namespace Go.Proofs.Ytkooanahgffjgaa.Met
open Go.RowKit
set_option maxRecDepth 100000

/-- The block of a pointer. -/
def blk : Option Addr → Option Nat
  | none => none
  | some a => some a.block
/-- A block of four numbers that is known whole. -/
def Blk4 (w : World) (g : Nat) (t : TypeId) (u0 u1 u2 u3 : Value) : Prop := w.heap[g]? = some (.cells #[u0, u1, u2, u3] t (0, 0))
theorem Blk4.lt {w : World} {g : Nat} {t : TypeId} {u0 u1 u2 u3 : Value} (h : Blk4 w g t u0 u1 u2 u3) : g < w.heap.size := txt_lt h
theorem Blk4.cells {w : World} {g : Nat} {t : TypeId} {u0 u1 u2 u3 : Value} (h : Blk4 w g t u0 u1 u2 u3) : w.cell? ⟨g, 0, none⟩ = some u0 ∧ w.cell? ⟨g, 1, none⟩ = some u1 ∧ w.cell? ⟨g, 2, none⟩ = some u2 ∧ w.cell? ⟨g, 3, none⟩ = some u3 := by
  unfold Blk4 at h
  refine ⟨?_, ?_, ?_, ?_⟩ <;> (rw [cell_of_row w g _ _ t (0, 0) h]; rfl)
theorem Blk4.free {w : World} {g : Nat} {t : TypeId} {u0 u1 u2 u3 : Value} (h : Blk4 w g t u0 u1 u2 u3) : w.frozen? ⟨g, 0, none⟩ = false ∧ w.frozen? ⟨g, 1, none⟩ = false ∧ w.frozen? ⟨g, 2, none⟩ = false ∧ w.frozen? ⟨g, 3, none⟩ = false := by
  unfold Blk4 at h
  refine ⟨?_, ?_, ?_, ?_⟩ <;> simp [World.frozen?, h]
theorem Blk4.same {w w' : World} {g : Nat} {t : TypeId} {u0 u1 u2 u3 : Value} (h : Blk4 w g t u0 u1 u2 u3) (e : w'.heap[g]? = w.heap[g]?) : Blk4 w' g t u0 u1 u2 u3 := e.trans h
theorem Blk4.new (w : World) (t : TypeId) (u0 u1 u2 u3 : Value) : Blk4 (w.alloc (.cells #[u0, u1, u2, u3] t)) w.heap.size t u0 u1 u2 u3 := heap_alloc_new w _
theorem Blk4.put0 {w : World} {g : Nat} {t : TypeId} {u0 u1 u2 u3 : Value} (h : Blk4 w g t u0 u1 u2 u3) (v : Value) : Blk4 (w.setCell ⟨g, 0, none⟩ v) g t v u1 u2 u3 := by
  unfold Blk4 at h ⊢; rw [heap_set_same h]; rfl
theorem Blk4.put1 {w : World} {g : Nat} {t : TypeId} {u0 u1 u2 u3 : Value} (h : Blk4 w g t u0 u1 u2 u3) (v : Value) : Blk4 (w.setCell ⟨g, 1, none⟩ v) g t u0 v u2 u3 := by
  unfold Blk4 at h ⊢; rw [heap_set_same h]; rfl
theorem Blk4.put2 {w : World} {g : Nat} {t : TypeId} {u0 u1 u2 u3 : Value} (h : Blk4 w g t u0 u1 u2 u3) (v : Value) : Blk4 (w.setCell ⟨g, 2, none⟩ v) g t u0 u1 v u3 := by
  unfold Blk4 at h ⊢; rw [heap_set_same h]; rfl
theorem Blk4.put3 {w : World} {g : Nat} {t : TypeId} {u0 u1 u2 u3 : Value} (h : Blk4 w g t u0 u1 u2 u3) (v : Value) : Blk4 (w.setCell ⟨g, 3, none⟩ v) g t u0 u1 u2 v := by
  unfold Blk4 at h ⊢; rw [heap_set_same h]; rfl
theorem grown_set (W : World) (b i : Nat) (v : Value) : W.grownBy (W.setCell ⟨b, i, none⟩ v) (some b) :=
  ⟨rfl, rfl, rfl, by simp, fun k _ hk => Below.heap_setCell W ⟨b, i, none⟩ v k (fun e => hk (by rw [e]))⟩
theorem grown_drew (W : World) (r : Option Nat) : W.grownBy W.drew r := ⟨rfl, rfl, rfl, Nat.le_refl _, fun _ _ _ => rfl⟩
/-- A meter that counted so much. -/
abbrev Cnt (w : World) (g : Nat) (s l h m : Int) : Prop := Blk4 w g 56 (.int .i64 s) (.int .i64 l) (.int .i64 h) (.int .i64 m)
/-- A meter that counted so much, or none. -/
def Mt (w : World) (p : Option Addr) (s l h m : Int) : Prop := p = none ∨ ∃ g, p = some ⟨g, 0, none⟩ ∧ Cnt w g s l h m
theorem new_any (w : World) : Calls Try.prog 12 #[] w fun e w' => e = .returned (.pointer (some ⟨w.heap.size, 0, none⟩)) ∧ w' = w.alloc (.cells #[.int .i64 0, .int .i64 0, .int .i64 0, .int .i64 0] 56) := by
  go_enter Try.func12, Try.ntmps12
  go_wp2
  go_ret
  exact ⟨rfl, rfl⟩
theorem counts_none (w : World) : Calls Try.prog 17 #[.pointer none] w fun e w' => e = .returned (.agg #[.int .i64 0, .int .i64 0, .int .i64 0, .int .i64 0]) ∧ Below w.heap.size w w' := by
  go_enter Try.func17, Try.ntmps17
  go_wp2
  exact bodyPost_ret (v := .agg #[.int .i64 0, .int .i64 0, .int .i64 0, .int .i64 0]) (by simp [results, Try.results17, go_sem]) rfl ⟨rfl, (Below.refl _ _).alloc (Nat.le_refl _) _⟩
theorem counts_some (w : World) (g : Nat) (s l h m : Int) (hM : Cnt w g s l h m) : Calls Try.prog 17 #[.pointer (some ⟨g, 0, none⟩)] w fun e w' => e = .returned (.agg #[.int .i64 s, .int .i64 l, .int .i64 h, .int .i64 m]) ∧ Below w.heap.size w w' := by
  have hlt := hM.lt
  obtain ⟨c0, c1, c2, c3⟩ := hM.cells
  go_enter Try.func17, Try.ntmps17
  go_wp2
  refine bodyPost_ret (v := .agg #[.int .i64 s, .int .i64 l, .int .i64 h, .int .i64 m]) (by simp [results, Try.results17, go_sem]) rfl ⟨rfl, (Below.refl _ _).alloc (Nat.le_refl _) _⟩
theorem add_none (w : World) (a b c d : Int) : Calls Try.prog 48 #[.pointer none, .agg #[.int .i64 a, .int .i64 b, .int .i64 c, .int .i64 d]] w fun e w' => e = .returned (.tuple #[]) ∧ Below w.heap.size w w' := by
  go_enter Try.func48, Try.ntmps48
  go_wp2
  exact bodyPost_ret (v := .tuple #[]) (by simp [results, Try.results48, go_sem]) rfl ⟨rfl, (Below.refl _ _).alloc (Nat.le_refl _) _⟩
theorem add_some (w : World) (g : Nat) (s l h m a b c d : Int) (hM : Cnt w g s l h m) (hs : 0 ≤ s ∧ s ≤ 1000000000000) (hl : 0 ≤ l ∧ l ≤ 1000000000000) (hh : 0 ≤ h ∧ h ≤ 1000000000000) (hm : 0 ≤ m ∧ m ≤ 1000000000000)
    (ha : 0 ≤ a ∧ a ≤ 1000000000000) (hb : 0 ≤ b ∧ b ≤ 1000000000000) (hc : 0 ≤ c ∧ c ≤ 1000000000000) (hd : 0 ≤ d ∧ d ≤ 1000000000000) :
    Calls Try.prog 48 #[.pointer (some ⟨g, 0, none⟩), .agg #[.int .i64 a, .int .i64 b, .int .i64 c, .int .i64 d]] w fun e w' => e = .returned (.tuple #[]) ∧ Cnt w' g (s + a) (l + b) (h + c) (m + d) ∧ w.grownBy w' (some g) := by
  have hlt := hM.lt
  have hne : g ≠ w.heap.size := by omega
  have M1 := hM.same (Below.heap_alloc w (.cells #[.int .i64 a, .int .i64 b, .int .i64 c, .int .i64 d] 38) g hlt)
  have D1 := Blk4.new w 38 (.int .i64 a) (.int .i64 b) (.int .i64 c) (.int .i64 d)
  have G1 := World.grownBy_alloc w (.cells #[.int .i64 a, .int .i64 b, .int .i64 c, .int .i64 d] 38) (some g)
  go_enter Try.func48, Try.ntmps48
  go_wp2
  generalize w.heap.size = e at *
  generalize w.alloc _ = w1 at *
  clear hM
  have c0 := M1.cells.1
  have f0 := M1.free.1
  have d0 := D1.cells.1
  have q0 : IntKind.i64.wrap (s + a) = s + a := IntWalk.i64_in _ (by omega)
  go_still_tail 11, (by kernel_rfl)
  change wpList _ _ _ _ _ w1.drew
  clear q0
  have M2 : Cnt (w1.setCell ⟨g, 0, none⟩ (.int .i64 (s + a))).drew g (s + a) l h m := Blk4.put0 M1 _
  have D2 : Blk4 (w1.setCell ⟨g, 0, none⟩ (.int .i64 (s + a))).drew e 38 (.int .i64 a) (.int .i64 b) (.int .i64 c) (.int .i64 d) := D1.same (Below.heap_setCell w1 ⟨g, 0, none⟩ _ e (fun q => hne q.symm))
  have G2 : w.grownBy (w1.setCell ⟨g, 0, none⟩ (.int .i64 (s + a))).drew (some g) := (G1.trans (grown_set w1 g 0 _)).trans (grown_drew _ _)
  go_wp2
  generalize (w1.setCell ⟨g, 0, none⟩ (.int .i64 (s + a))).drew = w2 at *
  clear c0 f0 d0 M1 D1 G1 w1
  have c0 := M2.cells.2.1
  have f0 := M2.free.2.1
  have d0 := D2.cells.2.1
  have q0 : IntKind.i64.wrap (l + b) = l + b := IntWalk.i64_in _ (by omega)
  go_still_tail 11, (by kernel_rfl)
  change wpList _ _ _ _ _ w2.drew
  clear q0
  have M3 : Cnt (w2.setCell ⟨g, 1, none⟩ (.int .i64 (l + b))).drew g (s + a) (l + b) h m := Blk4.put1 M2 _
  have D3 : Blk4 (w2.setCell ⟨g, 1, none⟩ (.int .i64 (l + b))).drew e 38 (.int .i64 a) (.int .i64 b) (.int .i64 c) (.int .i64 d) := D2.same (Below.heap_setCell w2 ⟨g, 1, none⟩ _ e (fun q => hne q.symm))
  have G3 : w.grownBy (w2.setCell ⟨g, 1, none⟩ (.int .i64 (l + b))).drew (some g) := (G2.trans (grown_set w2 g 1 _)).trans (grown_drew _ _)
  go_wp2
  generalize (w2.setCell ⟨g, 1, none⟩ (.int .i64 (l + b))).drew = w3 at *
  clear c0 f0 d0 M2 D2 G2 w2
  have c0 := M3.cells.2.2.1
  have f0 := M3.free.2.2.1
  have d0 := D3.cells.2.2.1
  have q0 : IntKind.i64.wrap (h + c) = h + c := IntWalk.i64_in _ (by omega)
  go_still_tail 11, (by kernel_rfl)
  change wpList _ _ _ _ _ w3.drew
  clear q0
  have M4 : Cnt (w3.setCell ⟨g, 2, none⟩ (.int .i64 (h + c))).drew g (s + a) (l + b) (h + c) m := Blk4.put2 M3 _
  have D4 : Blk4 (w3.setCell ⟨g, 2, none⟩ (.int .i64 (h + c))).drew e 38 (.int .i64 a) (.int .i64 b) (.int .i64 c) (.int .i64 d) := D3.same (Below.heap_setCell w3 ⟨g, 2, none⟩ _ e (fun q => hne q.symm))
  have G4 : w.grownBy (w3.setCell ⟨g, 2, none⟩ (.int .i64 (h + c))).drew (some g) := (G3.trans (grown_set w3 g 2 _)).trans (grown_drew _ _)
  go_wp2
  generalize (w3.setCell ⟨g, 2, none⟩ (.int .i64 (h + c))).drew = w4 at *
  clear c0 f0 d0 M3 D3 G3 w3
  have c0 := M4.cells.2.2.2
  have f0 := M4.free.2.2.2
  have d0 := D4.cells.2.2.2
  have q0 : IntKind.i64.wrap (m + d) = m + d := IntWalk.i64_in _ (by omega)
  go_still_tail 11, (by kernel_rfl)
  change wpList _ _ _ _ _ w4.drew
  clear q0
  have M5 : Cnt (w4.setCell ⟨g, 3, none⟩ (.int .i64 (m + d))).drew g (s + a) (l + b) (h + c) (m + d) := Blk4.put3 M4 _
  have D5 : Blk4 (w4.setCell ⟨g, 3, none⟩ (.int .i64 (m + d))).drew e 38 (.int .i64 a) (.int .i64 b) (.int .i64 c) (.int .i64 d) := D4.same (Below.heap_setCell w4 ⟨g, 3, none⟩ _ e (fun q => hne q.symm))
  have G5 : w.grownBy (w4.setCell ⟨g, 3, none⟩ (.int .i64 (m + d))).drew (some g) := (G4.trans (grown_set w4 g 3 _)).trans (grown_drew _ _)
  go_wp2
  go_end0
  exact ⟨rfl, M5, G5⟩
/-- So much more is counted, if there is a meter. -/
def Adds (w : World) (p : Option Addr) (s l h m : Int) (v : Value) (e : Ending) (w' : World) : Prop := e = .returned v ∧ Mt w' p s l h m ∧ w.grownBy w' (blk p)
theorem add_any (w : World) (p : Option Addr) (s l h m a b c d : Int) (hM : Mt w p s l h m) (hs : 0 ≤ s ∧ s ≤ 1000000000000) (hl : 0 ≤ l ∧ l ≤ 1000000000000) (hh : 0 ≤ h ∧ h ≤ 1000000000000) (hm : 0 ≤ m ∧ m ≤ 1000000000000)
    (ha : 0 ≤ a ∧ a ≤ 1000000000000) (hb : 0 ≤ b ∧ b ≤ 1000000000000) (hc : 0 ≤ c ∧ c ≤ 1000000000000) (hd : 0 ≤ d ∧ d ≤ 1000000000000) :
    Calls Try.prog 48 #[.pointer p, .agg #[.int .i64 a, .int .i64 b, .int .i64 c, .int .i64 d]] w (Adds w p (s + a) (l + b) (h + c) (m + d) (.tuple #[])) := by
  rcases hM with rfl | ⟨g, rfl, hM⟩
  · exact (add_none w a b c d).mono fun e w' ⟨he, hb⟩ => ⟨he, Or.inl rfl, grown_of_below hb⟩
  · exact (add_some w g s l h m a b c d hM hs hl hh hm ha hb hc hd).mono fun e w' ⟨he, h1, h2⟩ => ⟨he, Or.inr ⟨g, rfl, h1⟩, h2⟩
end Go.Proofs.Ytkooanahgffjgaa.Met
