/- Package by package: Ma Mb Mc Md Me Mf Mg Mh Mi Mj Mk Ml. -/
import Derived.Test.YtcekifknbljbiaaGB
import Derived.Deep.DrawnRows
import Derived.Deep.RegionHeld
import Derived.Deep.RegionHeld3
import Derived.Deep.WholeRow
import Derived.DeepKeys4
import Derived.Laws.CopyOwn
import Derived.Maps.AppendAt
import Derived.Maps.OwnSet
import Derived.StillTailTactics
/- Meters in memory: what one counted, and what may change beside it; the contracts of New, Counts and add. -/
namespace Go.Proofs.Ytcekifknbljbiaa.Met
open Go.RowKit
set_option maxRecDepth 100000

/-- The block of a pointer. -/
def blk : Option Addr → Option Nat
  | none => none
  | some a => some a.block
/-- A block of four numbers that is known whole. -/
def Blk4 (w : World) (g : Nat) (t : TypeId) (u0 u1 u2 u3 : Value) : Prop := w.heap[g]? = some (.cells #[u0, u1, u2, u3] t (0, 0))
theorem Blk4.lt {w : World} {g : Nat} {t : TypeId} {u0 u1 u2 u3 : Value} (h : Blk4 w g t u0 u1 u2 u3) : g < w.heap.size := txt_lt h
theorem Blk4.cells {w : World} {g : Nat} {t : TypeId} {u0 u1 u2 u3 : Value} (h : Blk4 w g t u0 u1 u2 u3) : w.cell? ⟨g, 0, none⟩ = some u0 ∧ w.cell? ⟨g, 1, none⟩ = some u1 ∧ w.cell? ⟨g, 2, none⟩ = some u2 ∧ w.cell? ⟨g, 3, none⟩ = some u3 := by
  unfold Blk4 at h
  refine ⟨?_, ?_, ?_, ?_⟩ <;> (rw [cell_of_row w g _ _ t (0, 0) h]; rfl)
theorem Blk4.free {w : World} {g : Nat} {t : TypeId} {u0 u1 u2 u3 : Value} (h : Blk4 w g t u0 u1 u2 u3) : w.frozen? ⟨g, 0, none⟩ = false ∧ w.frozen? ⟨g, 1, none⟩ = false ∧ w.frozen? ⟨g, 2, none⟩ = false ∧ w.frozen? ⟨g, 3, none⟩ = false := by
  unfold Blk4 at h
  refine ⟨?_, ?_, ?_, ?_⟩ <;> simp [World.frozen?, h]
theorem Blk4.same {w w' : World} {g : Nat} {t : TypeId} {u0 u1 u2 u3 : Value} (h : Blk4 w g t u0 u1 u2 u3) (e : w'.heap[g]? = w.heap[g]?) : Blk4 w' g t u0 u1 u2 u3 := e.trans h
theorem Blk4.new (w : World) (t : TypeId) (u0 u1 u2 u3 : Value) : Blk4 (w.alloc (.cells #[u0, u1, u2, u3] t)) w.heap.size t u0 u1 u2 u3 := heap_alloc_new w _
theorem Blk4.put0 {w : World} {g : Nat} {t : TypeId} {u0 u1 u2 u3 : Value} (h : Blk4 w g t u0 u1 u2 u3) (v : Value) : Blk4 (w.setCell ⟨g, 0, none⟩ v) g t v u1 u2 u3 := by
  unfold Blk4 at h ⊢; rw [heap_set_same h]; rfl
theorem Blk4.put1 {w : World} {g : Nat} {t : TypeId} {u0 u1 u2 u3 : Value} (h : Blk4 w g t u0 u1 u2 u3) (v : Value) : Blk4 (w.setCell ⟨g, 1, none⟩ v) g t u0 v u2 u3 := by
  unfold Blk4 at h ⊢; rw [heap_set_same h]; rfl
theorem Blk4.put2 {w : World} {g : Nat} {t : TypeId} {u0 u1 u2 u3 : Value} (h : Blk4 w g t u0 u1 u2 u3) (v : Value) : Blk4 (w.setCell ⟨g, 2, none⟩ v) g t u0 u1 v u3 := by
  unfold Blk4 at h ⊢; rw [heap_set_same h]; rfl
theorem Blk4.put3 {w : World} {g : Nat} {t : TypeId} {u0 u1 u2 u3 : Value} (h : Blk4 w g t u0 u1 u2 u3) (v : Value) : Blk4 (w.setCell ⟨g, 3, none⟩ v) g t u0 u1 u2 v := by
  unfold Blk4 at h ⊢; rw [heap_set_same h]; rfl
theorem grown_set (W : World) (b i : Nat) (v : Value) : W.grownBy (W.setCell ⟨b, i, none⟩ v) (some b) :=
  ⟨rfl, rfl, rfl, by simp, fun k _ hk => Below.heap_setCell W ⟨b, i, none⟩ v k (fun e => hk (by rw [e]))⟩
theorem grown_drew (W : World) (r : Option Nat) : W.grownBy W.drew r := ⟨rfl, rfl, rfl, Nat.le_refl _, fun _ _ _ => rfl⟩
/-- A meter that counted so much. -/
abbrev Cnt (w : World) (g : Nat) (s l h m : Int) : Prop := Blk4 w g 66 (.int .i64 s) (.int .i64 l) (.int .i64 h) (.int .i64 m)
/-- A meter that counted so much, or none. -/
def Mt (w : World) (p : Option Addr) (s l h m : Int) : Prop := p = none ∨ ∃ g, p = some ⟨g, 0, none⟩ ∧ Cnt w g s l h m
theorem new_any (w : World) : Calls Try.prog 12 #[] w fun e w' => e = .returned (.pointer (some ⟨w.heap.size, 0, none⟩)) ∧ w' = w.alloc (.cells #[.int .i64 0, .int .i64 0, .int .i64 0, .int .i64 0] 66) := by
  go_enter Try.func12, Try.ntmps12
  go_wp2
  go_ret
  exact ⟨rfl, rfl⟩
theorem counts_none (w : World) : Calls Try.prog 19 #[.pointer none] w fun e w' => e = .returned (.agg #[.int .i64 0, .int .i64 0, .int .i64 0, .int .i64 0]) ∧ Below w.heap.size w w' := by
  go_enter Try.func19, Try.ntmps19
  go_wp2
  exact bodyPost_ret (v := .agg #[.int .i64 0, .int .i64 0, .int .i64 0, .int .i64 0]) (by simp [results, Try.results19, go_sem]) rfl ⟨rfl, (Below.refl _ _).alloc (Nat.le_refl _) _⟩
theorem counts_some (w : World) (g : Nat) (s l h m : Int) (hM : Cnt w g s l h m) : Calls Try.prog 19 #[.pointer (some ⟨g, 0, none⟩)] w fun e w' => e = .returned (.agg #[.int .i64 s, .int .i64 l, .int .i64 h, .int .i64 m]) ∧ Below w.heap.size w w' := by
  have hlt := hM.lt
  obtain ⟨c0, c1, c2, c3⟩ := hM.cells
  go_enter Try.func19, Try.ntmps19
  go_wp2
  refine bodyPost_ret (v := .agg #[.int .i64 s, .int .i64 l, .int .i64 h, .int .i64 m]) (by simp [results, Try.results19, go_sem]) rfl ⟨rfl, (Below.refl _ _).alloc (Nat.le_refl _) _⟩
theorem add_none (w : World) (a b c d : Int) : Calls Try.prog 36 #[.pointer none, .agg #[.int .i64 a, .int .i64 b, .int .i64 c, .int .i64 d]] w fun e w' => e = .returned (.tuple #[]) ∧ Below w.heap.size w w' := by
  go_enter Try.func36, Try.ntmps36
  go_wp2
  exact bodyPost_ret (v := .tuple #[]) (by simp [results, Try.results36, go_sem]) rfl ⟨rfl, (Below.refl _ _).alloc (Nat.le_refl _) _⟩
theorem add_some (w : World) (g : Nat) (s l h m a b c d : Int) (hM : Cnt w g s l h m) (hs : 0 ≤ s ∧ s ≤ 1000000000000) (hl : 0 ≤ l ∧ l ≤ 1000000000000) (hh : 0 ≤ h ∧ h ≤ 1000000000000) (hm : 0 ≤ m ∧ m ≤ 1000000000000)
    (ha : 0 ≤ a ∧ a ≤ 1000000000000) (hb : 0 ≤ b ∧ b ≤ 1000000000000) (hc : 0 ≤ c ∧ c ≤ 1000000000000) (hd : 0 ≤ d ∧ d ≤ 1000000000000) :
    Calls Try.prog 36 #[.pointer (some ⟨g, 0, none⟩), .agg #[.int .i64 a, .int .i64 b, .int .i64 c, .int .i64 d]] w fun e w' => e = .returned (.tuple #[]) ∧ Cnt w' g (s + a) (l + b) (h + c) (m + d) ∧ w.grownBy w' (some g) := by
  have hlt := hM.lt
  have hne : g ≠ w.heap.size := by omega
  have M1 := hM.same (Below.heap_alloc w (.cells #[.int .i64 a, .int .i64 b, .int .i64 c, .int .i64 d] 44) g hlt)
  have D1 := Blk4.new w 44 (.int .i64 a) (.int .i64 b) (.int .i64 c) (.int .i64 d)
  have G1 := World.grownBy_alloc w (.cells #[.int .i64 a, .int .i64 b, .int .i64 c, .int .i64 d] 44) (some g)
  go_enter Try.func36, Try.ntmps36
  go_wp2
  generalize w.heap.size = e at *
  generalize w.alloc _ = w1 at *
  clear hM
  have c0 := M1.cells.1
  have f0 := M1.free.1
  have d0 := D1.cells.1
  have q0 : IntKind.i64.wrap (s + a) = s + a := IntWalk.i64_in _ (by omega)
  go_still_tail 11, (by kernel_rfl)
  change wpList _ _ _ _ _ w1.drew
  clear q0
  have M2 : Cnt (w1.setCell ⟨g, 0, none⟩ (.int .i64 (s + a))).drew g (s + a) l h m := Blk4.put0 M1 _
  have D2 : Blk4 (w1.setCell ⟨g, 0, none⟩ (.int .i64 (s + a))).drew e 44 (.int .i64 a) (.int .i64 b) (.int .i64 c) (.int .i64 d) := D1.same (Below.heap_setCell w1 ⟨g, 0, none⟩ _ e (fun q => hne q.symm))
  have G2 : w.grownBy (w1.setCell ⟨g, 0, none⟩ (.int .i64 (s + a))).drew (some g) := (G1.trans (grown_set w1 g 0 _)).trans (grown_drew _ _)
  go_wp2
  generalize (w1.setCell ⟨g, 0, none⟩ (.int .i64 (s + a))).drew = w2 at *
  clear c0 f0 d0 M1 D1 G1 w1
  have c0 := M2.cells.2.1
  have f0 := M2.free.2.1
  have d0 := D2.cells.2.1
  have q0 : IntKind.i64.wrap (l + b) = l + b := IntWalk.i64_in _ (by omega)
  go_still_tail 11, (by kernel_rfl)
  change wpList _ _ _ _ _ w2.drew
  clear q0
  have M3 : Cnt (w2.setCell ⟨g, 1, none⟩ (.int .i64 (l + b))).drew g (s + a) (l + b) h m := Blk4.put1 M2 _
  have D3 : Blk4 (w2.setCell ⟨g, 1, none⟩ (.int .i64 (l + b))).drew e 44 (.int .i64 a) (.int .i64 b) (.int .i64 c) (.int .i64 d) := D2.same (Below.heap_setCell w2 ⟨g, 1, none⟩ _ e (fun q => hne q.symm))
  have G3 : w.grownBy (w2.setCell ⟨g, 1, none⟩ (.int .i64 (l + b))).drew (some g) := (G2.trans (grown_set w2 g 1 _)).trans (grown_drew _ _)
  go_wp2
  generalize (w2.setCell ⟨g, 1, none⟩ (.int .i64 (l + b))).drew = w3 at *
  clear c0 f0 d0 M2 D2 G2 w2
  have c0 := M3.cells.2.2.1
  have f0 := M3.free.2.2.1
  have d0 := D3.cells.2.2.1
  have q0 : IntKind.i64.wrap (h + c) = h + c := IntWalk.i64_in _ (by omega)
  go_still_tail 11, (by kernel_rfl)
  change wpList _ _ _ _ _ w3.drew
  clear q0
  have M4 : Cnt (w3.setCell ⟨g, 2, none⟩ (.int .i64 (h + c))).drew g (s + a) (l + b) (h + c) m := Blk4.put2 M3 _
  have D4 : Blk4 (w3.setCell ⟨g, 2, none⟩ (.int .i64 (h + c))).drew e 44 (.int .i64 a) (.int .i64 b) (.int .i64 c) (.int .i64 d) := D3.same (Below.heap_setCell w3 ⟨g, 2, none⟩ _ e (fun q => hne q.symm))
  have G4 : w.grownBy (w3.setCell ⟨g, 2, none⟩ (.int .i64 (h + c))).drew (some g) := (G3.trans (grown_set w3 g 2 _)).trans (grown_drew _ _)
  go_wp2
  generalize (w3.setCell ⟨g, 2, none⟩ (.int .i64 (h + c))).drew = w4 at *
  clear c0 f0 d0 M3 D3 G3 w3
  have c0 := M4.cells.2.2.2
  have f0 := M4.free.2.2.2
  have d0 := D4.cells.2.2.2
  have q0 : IntKind.i64.wrap (m + d) = m + d := IntWalk.i64_in _ (by omega)
  go_still_tail 11, (by kernel_rfl)
  change wpList _ _ _ _ _ w4.drew
  clear q0
  have M5 : Cnt (w4.setCell ⟨g, 3, none⟩ (.int .i64 (m + d))).drew g (s + a) (l + b) (h + c) (m + d) := Blk4.put3 M4 _
  have D5 : Blk4 (w4.setCell ⟨g, 3, none⟩ (.int .i64 (m + d))).drew e 44 (.int .i64 a) (.int .i64 b) (.int .i64 c) (.int .i64 d) := D4.same (Below.heap_setCell w4 ⟨g, 3, none⟩ _ e (fun q => hne q.symm))
  have G5 : w.grownBy (w4.setCell ⟨g, 3, none⟩ (.int .i64 (m + d))).drew (some g) := (G4.trans (grown_set w4 g 3 _)).trans (grown_drew _ _)
  go_wp2
  go_end0
  exact ⟨rfl, M5, G5⟩
/-- So much more is counted, if there is a meter. -/
def Adds (w : World) (p : Option Addr) (s l h m : Int) (v : Value) (e : Ending) (w' : World) : Prop := e = .returned v ∧ Mt w' p s l h m ∧ w.grownBy w' (blk p)
theorem add_any (w : World) (p : Option Addr) (s l h m a b c d : Int) (hM : Mt w p s l h m) (hs : 0 ≤ s ∧ s ≤ 1000000000000) (hl : 0 ≤ l ∧ l ≤ 1000000000000) (hh : 0 ≤ h ∧ h ≤ 1000000000000) (hm : 0 ≤ m ∧ m ≤ 1000000000000)
    (ha : 0 ≤ a ∧ a ≤ 1000000000000) (hb : 0 ≤ b ∧ b ≤ 1000000000000) (hc : 0 ≤ c ∧ c ≤ 1000000000000) (hd : 0 ≤ d ∧ d ≤ 1000000000000) :
    Calls Try.prog 36 #[.pointer p, .agg #[.int .i64 a, .int .i64 b, .int .i64 c, .int .i64 d]] w (Adds w p (s + a) (l + b) (h + c) (m + d) (.tuple #[])) := by
  rcases hM with rfl | ⟨g, rfl, hM⟩
  · exact (add_none w a b c d).mono fun e w' ⟨he, hb⟩ => ⟨he, Or.inl rfl, grown_of_below hb⟩
  · exact (add_some w g s l h m a b c d hM hs hl hh hm ha hb hc hd).mono fun e w' ⟨he, h1, h2⟩ => ⟨he, Or.inr ⟨g, rfl, h1⟩, h2⟩
end Go.Proofs.Ytcekifknbljbiaa.Met
/- Texts behind handles: the contracts of bytes.Clone, Text, Len and At. -/
namespace Go.Proofs.Ytcekifknbljbiaa.Met
open Go.RowKit
set_option maxRecDepth 100000

theorem eql_nil22 : ∀ (w : World) (a : Option Addr) (n c n' c' : Nat), (binOp .eql 38 (.slice a n c) (.slice none n' c')).run Try.prog w = .ok (.bool a.isNone) w :=
  fun w a n c n' c' => Lib.run_eql_slice_nil w _ _ a n c n' c' und22
set_option maxHeartbeats 2000000 in
theorem clone_some (l : List UInt8) (ad : Addr) (cap : Nat) (w : World) (hl : l.length ≤ 1000000000000) (hb : Bs w w.heap.size (some ad) l) :
    Calls Try.prog 40 #[.slice (some ad) l.length cap] w (GivesText w l) := by
  obtain ⟨i0, hi, hz0, hz1, hz2⟩ := info_parts info5
  have q22 := eql_nil22
  have HB := Lib.hid hb
  clear hb
  go_enter Try.func40, Try.ntmps40
  go_wp2_with (at_builtin; refine wpList_append_own _ rfl _ _ 38 rfl w.heap.size 5 i0 (.int .u8 0) 1 1 und22 hi hz0 hz1 hz2 rfl (by decide) _ _ _ rfl (World.ownsRow_made w #[] 0 (Nat.le_refl _) (Nat.zero_le _) rfl) ad l.length cap (vals l) rfl ?qc1 ?qc2 ?qc3 ?qc4 ?qc5 ?qc6 ?_)
  case qc1 => simp [vals]
  case qc2 =>
    intro j u hj
    have hjn : j < l.length := by have := (List.getElem?_eq_some_iff.1 hj).1; simpa [vals] using this
    obtain ⟨b, off, e, hlt, hc⟩ := HB.out (by omega)
    cases e
    have ea : (⟨b, off, none⟩ : Addr).add j = ⟨b, off + j, none⟩ := by unfold Addr.add; split <;> simp_all
    rw [ea]
    have hcc := hc j hjn
    refine Lib.cell?_alloc_some _ ?_
    rw [hcc]
    simpa [vals, hjn] using hj
  case qc3 => intro u hu; obtain ⟨x, _, rfl⟩ := List.mem_map.1 hu; rfl
  case qc4 => unfold maxLen; omega
  case qc5 => omega
  case qc6 => simp
  intro v' w1 hown hgrow hnil
  go_wp2
  go_ret
  obtain ⟨a, c, rfl, ht, hlc, hnc⟩ := own_txt (l := l) (by simpa using hown)
  exact ⟨a, c, rfl, ht, hlc, hnc, ((Below.refl _ w).alloc (Nat.le_refl _) _).grown hgrow (by simp) (by intro k hk; simp [Value.ownBlock] at hk; omega)⟩
set_option maxHeartbeats 1000000 in
theorem clone_none (n cap : Nat) (w : World) : Calls Try.prog 40 #[.slice none n cap] w (GivesText w []) := by
  have q22 := eql_nil22
  go_enter Try.func40, Try.ntmps40
  go_wp2
  go_ret
  exact ⟨none, 0, rfl, (fun h => absurd h (by simp)), Nat.le_refl _, fun _ => rfl, Below.refl _ _⟩
theorem clone_any (l : List UInt8) (a : Option Addr) (cap : Nat) (w : World) (hl : l.length ≤ 1000000000000) (hb : Bs w w.heap.size a l) :
    Calls Try.prog 40 #[.slice a l.length cap] w (GivesText w l) := by
  cases a with
  | some ad => exact clone_some l ad cap w hl hb
  | none =>
    rcases Nat.eq_zero_or_pos l.length with h0 | h0
    · obtain rfl := List.eq_nil_of_length_eq_zero h0
      exact clone_none _ cap w
    · obtain ⟨b, off, e, _⟩ := hb h0
      cases e
theorem add_scan (w : World) (p : Option Addr) (s l h m : Int) (hM : Mt w p s l h m) (hs : 0 ≤ s ∧ s ≤ 1000000000000) (hl : 0 ≤ l ∧ l ≤ 1000000000000) (hh : 0 ≤ h ∧ h ≤ 1000000000000) (hm : 0 ≤ m ∧ m ≤ 1000000000000) :
    Calls Try.prog 36 #[.pointer p, .agg #[.int .i64 1, .int .i64 0, .int .i64 0, .int .i64 0]] w (Adds w p (s + 1) l h m (.tuple #[])) := by
  have := add_any w p s l h m 1 0 0 0 hM hs hl hh hm (by omega) (by omega) (by omega) (by omega)
  simpa only [Int.add_zero] using this
theorem add_look (w : World) (p : Option Addr) (s l h m : Int) (hM : Mt w p s l h m) (hs : 0 ≤ s ∧ s ≤ 1000000000000) (hl : 0 ≤ l ∧ l ≤ 1000000000000) (hh : 0 ≤ h ∧ h ≤ 1000000000000) (hm : 0 ≤ m ∧ m ≤ 1000000000000) :
    Calls Try.prog 36 #[.pointer p, .agg #[.int .i64 0, .int .i64 1, .int .i64 0, .int .i64 0]] w (Adds w p s (l + 1) h m (.tuple #[])) := by
  have := add_any w p s l h m 0 1 0 0 hM hs hl hh hm (by omega) (by omega) (by omega) (by omega)
  simpa only [Int.add_zero] using this
theorem add_hunt (w : World) (p : Option Addr) (s l h m : Int) (hM : Mt w p s l h m) (hs : 0 ≤ s ∧ s ≤ 1000000000000) (hl : 0 ≤ l ∧ l ≤ 1000000000000) (hh : 0 ≤ h ∧ h ≤ 1000000000000) (hm : 0 ≤ m ∧ m ≤ 1000000000000) :
    Calls Try.prog 36 #[.pointer p, .agg #[.int .i64 0, .int .i64 0, .int .i64 1, .int .i64 0]] w (Adds w p s l (h + 1) m (.tuple #[])) := by
  have := add_any w p s l h m 0 0 1 0 hM hs hl hh hm (by omega) (by omega) (by omega) (by omega)
  simpa only [Int.add_zero] using this
theorem add_move (w : World) (p : Option Addr) (s l h m d : Int) (hM : Mt w p s l h m) (hs : 0 ≤ s ∧ s ≤ 1000000000000) (hl : 0 ≤ l ∧ l ≤ 1000000000000) (hh : 0 ≤ h ∧ h ≤ 1000000000000) (hm : 0 ≤ m ∧ m ≤ 1000000000000) (hd : 0 ≤ d ∧ d ≤ 1000000000000) :
    Calls Try.prog 36 #[.pointer p, .agg #[.int .i64 0, .int .i64 0, .int .i64 0, .int .i64 d]] w (Adds w p s l h (m + d) (.tuple #[])) := by
  have := add_any w p s l h m 0 0 0 d hM hs hl hh hm (by omega) (by omega) (by omega) hd
  simpa only [Int.add_zero] using this
/-- A block of two cells that is known whole. -/
def Blk2 (w : World) (g : Nat) (t : TypeId) (u0 u1 : Value) : Prop := w.heap[g]? = some (.cells #[u0, u1] t (0, 0))
theorem Blk2.lt {w : World} {g : Nat} {t : TypeId} {u0 u1 : Value} (h : Blk2 w g t u0 u1) : g < w.heap.size := txt_lt h
theorem Blk2.new (w : World) (t : TypeId) (u0 u1 : Value) : Blk2 (w.alloc (.cells #[u0, u1] t)) w.heap.size t u0 u1 := heap_alloc_new w _
theorem Blk2.same {w w' : World} {g : Nat} {t : TypeId} {u0 u1 : Value} (h : Blk2 w g t u0 u1) (e : w'.heap[g]? = w.heap[g]?) : Blk2 w' g t u0 u1 := e.trans h
theorem Blk2.cells {w : World} {g : Nat} {t : TypeId} {u0 u1 : Value} (h : Blk2 w g t u0 u1) : w.cell? ⟨g, 0, none⟩ = some u0 ∧ w.cell? ⟨g, 1, none⟩ = some u1 := by
  unfold Blk2 at h
  refine ⟨?_, ?_⟩ <;> (rw [cell_of_row w g _ _ t (0, 0) h]; rfl)
/-- The meter's block is no block of another type. -/
theorem Mt.not {w : World} {p : Option Addr} {s l h m : Int} (hM : Mt w p s l h m) {k : Nat} {cs : Array Value} {t : TypeId} {fr : Nat × Nat} (hk : w.heap[k]? = some (.cells cs t fr)) (ht : t ≠ 66) : some k ≠ blk p := by
  rcases hM with rfl | ⟨g, rfl, hM⟩
  · intro e; cases e
  · intro e
    cases e
    unfold Cnt Blk4 at hM
    rw [hM] at hk
    injection hk with hk
    injection hk with _ h2 _
    exact ht h2.symm
theorem Mt.same {w w' : World} {p : Option Addr} {s l h m : Int} (hM : Mt w p s l h m) (e : ∀ k, some k = blk p → w'.heap[k]? = w.heap[k]?) : Mt w' p s l h m := by
  rcases hM with rfl | ⟨g, rfl, hM⟩
  · exact Or.inl rfl
  · exact Or.inr ⟨g, rfl, hM.same (e g rfl)⟩
theorem Mt.lt {w : World} {p : Option Addr} {s l h m : Int} (hM : Mt w p s l h m) {k : Nat} (e : some k = blk p) : k < w.heap.size := by
  rcases hM with rfl | ⟨g, rfl, hM⟩
  · cases e
  · cases e; exact hM.lt
theorem Mt.keep {w w' : World} {p : Option Addr} {s l h m : Int} (hM : Mt w p s l h m) (hb : Below w.heap.size w w') : Mt w' p s l h m := hM.same fun k e => hb.block k (hM.lt e)
end Go.Proofs.Ytcekifknbljbiaa.Met
/- The contracts of Read and Copy. -/
namespace Go.Proofs.Ytcekifknbljbiaa.Met
open Go.RowKit
set_option maxRecDepth 100000

/-- The meter's block holds no byte. -/
theorem Mt.byte {w : World} {p : Option Addr} {s l h m : Int} (hM : Mt w p s l h m) {k o : Nat} {x : Int} (hk : w.cell? ⟨k, o, none⟩ = some (.int .u8 x)) : some k ≠ blk p := by
  rcases hM with rfl | ⟨g, rfl, hM⟩
  · intro e; cases e
  · intro e
    cases e
    unfold Cnt Blk4 at hM
    rw [cell_of_row w g _ _ 66 (0, 0) hM] at hk
    match o, hk with
    | 0, hk => simp at hk
    | 1, hk => simp at hk
    | 2, hk => simp at hk
    | 3, hk => simp at hk
    | n + 4, hk => simp at hk
theorem Bs.adds {w w' : World} {B : Nat} {a : Option Addr} {l : List UInt8} {p : Option Addr} {s t h m : Int} (hb : Bs w B a l) (hg : w.grownBy w' (blk p)) (hM : Mt w p s t h m) : Bs w' B a l := fun h0 => by
  obtain ⟨b, off, e, hlt, hc⟩ := hb h0
  exact ⟨b, off, e, hlt, fun i hi => hg.cell (hc i hi) (hM.byte (hc i hi))⟩
theorem read_out (w : World) (p : Option Addr) (l : List UInt8) (a : Option Addr) (cap : Nat) (i : Int) (hi : i < 0 ∨ (l.length : Int) ≤ i) :
    Calls Try.prog 28 #[.pointer p, .slice a l.length cap, .int .i64 i] w fun e w' => e = .returned (.tuple #[.int .u8 0, .bool false]) ∧ w = w' := by
  by_cases hn : i < 0
  · go_enter Try.func28, Try.ntmps28
    go_wp2
    go_ret2
    exact ⟨rfl, rfl⟩
  · have hi' : (l.length : Int) ≤ i := by omega
    go_enter Try.func28, Try.ntmps28
    go_wp2
    go_ret2
    exact ⟨rfl, rfl⟩
set_option maxHeartbeats 1000000 in
theorem read_in (w : World) (p : Option Addr) (l : List UInt8) (A : Option Addr) (cap : Nat) (hB : Bs w w.heap.size A l) (i : Nat) (hi : i < l.length) (hl : l.length ≤ 1000000000000) (a b c d : Int) (hM : Mt w p a b c d) (ha : 0 ≤ a ∧ a ≤ 1000000000000) (hb : 0 ≤ b ∧ b ≤ 1000000000000) (hc : 0 ≤ c ∧ c ≤ 1000000000000) (hd : 0 ≤ d ∧ d ≤ 1000000000000) :
    Calls Try.prog 28 #[.pointer p, .slice A l.length cap, .int .i64 (i : Int)] w (Adds w p a b (c + 1) d (.tuple #[.int .u8 (l[i].toNat : Int), .bool true])) := by
  have C := Lib.hid (add_hunt w p a b c d hM ha hb hc hd)
  obtain ⟨bb, off, rfl, _, hcs⟩ := hB (by omega)
  have HC := Lib.hid (hcs i hi)
  have HN := Lib.hid (hM.byte HC.out)
  have hi0 : (i : Int) < (l.length : Int) := by omega
  clear hM hB hcs
  go_enter Try.func28, Try.ntmps28
  go_wp2_with (go_at_call 36; (with_reducible refine C.out.mono ?_); rintro e w1 ⟨rfl, hM1, hg1⟩; have e2 := hg1.cell HC.out HN.out; have HM1 := Lib.hid hM1; have HG1 := Lib.hid hg1; clear hM1 hg1)
  go_ret2
  exact ⟨rfl, HM1.out, HG1.out⟩
/-- Bytes copied onto others. -/
def over (l t : List UInt8) : List UInt8 := l.take t.length ++ t.drop l.length
theorem over_length (l t : List UInt8) : (over l t).length = t.length := by simp [over]; omega
/-- Copy, at the operation: into a text of the call's own. -/
theorem copy_txt {w : World} {ops : Array Oper} {rest : List Oper} {o : Oper} {a : Act} {Q : Exit → Act → World → Prop} (hgd : o.guard = none) (d s : Operand)
    (ho : o.op = .call { callee := .builtin .copy, args := #[d, s], argTypes := #[38, 38] }) (A : Option Addr) (t : List UInt8) (cap base : Nat) (hd : a.eval d = .slice A t.length cap) (hT : Txt w base A t)
    (B : Option Addr) (l : List UInt8) (c N : Nat) (hs : a.eval s = .slice B l.length c) (hB : Bs w N B l)
    (h : ∀ w' r, Txt w' base A (over l t) → (∀ k, r = some k → base ≤ k ∧ ∃ cs fr, w.heap[k]? = some (.cells cs 5 fr)) → w.grownBy w' r → wpList Try.prog ops Q rest (a.put o.dst (.int .i64 ((min l.length t.length : Nat) : Int))) w') : wpList Try.prog ops Q (o :: rest) a w := by
  have hsz : (Try.prog.info? 5).map (·.size) = some 1 := by kernel_rfl
  by_cases h0 : min l.length t.length = 0
  · refine wpList_copy_nothing hgd d s 38 38 ho 5 und22 hsz A B t.length cap l.length c hd hs h0 ?_
    have e : over l t = t := by
      unfold over
      rcases Nat.eq_zero_or_pos l.length with e | e
      · rw [List.eq_nil_of_length_eq_zero e]; simp
      · rw [List.eq_nil_of_length_eq_zero (by omega : t.length = 0)]; simp
    have := h w none (by rw [e]; exact hT) (fun k hk => by cases hk) (World.grownBy.refl w _)
    rw [h0] at this
    exact this
  · obtain ⟨g, cs, rfl, hg, hh, hcs⟩ := hT (by omega)
    obtain ⟨b, off, rfl, _, hbs⟩ := hB (by omega)
    have hszc : t.length ≤ cs.size := by
      have := hcs (t.length - 1) (by omega)
      have := (Array.getElem?_eq_some_iff.1 this).1
      omega
    have hvl : (vals (l.take t.length)).length = min l.length t.length := by simp [vals]; omega
    refine wpList_copy_own hgd d s 38 38 ho 5 und22 hsz g 0 t.length cap ⟨b, off, none⟩ l.length c hd hs cs 5 hh (vals (l.take t.length)) hvl ?_ (by rw [hvl]; omega) (vals_one _) ?_
    · intro j v hj
      have hjl : j < min l.length t.length := by rw [← hvl]; exact (List.getElem?_eq_some_iff.1 hj).1
      have e2 : (⟨b, off, none⟩ : Addr).add j = ⟨b, off + j, none⟩ := by unfold Addr.add; split <;> simp_all
      rw [e2, hbs j (by omega)]
      have hj' : j < t.length := by omega
      have hj2 : j < l.length := by omega
      simpa [vals, hj', hj2] using hj
    · rw [hvl]
      refine h _ (some g) (fun _ => ?_) (fun k hk => by cases hk; exact ⟨hg, cs, _, hh⟩) ⟨rfl, rfl, rfl, by simp [World.setRow], fun k _ hk => setRow_other w g k _ (fun e => hk (by rw [e]))⟩
      refine ⟨g, _, rfl, hg, setRow_heap w g _ _ 5 _ hh, fun i hi => ?_⟩
      rw [over_length] at hi
      simp only [List.getElem?_toArray, List.take_zero, List.nil_append, Nat.zero_add]
      by_cases hil : i < l.length
      · rw [List.getElem?_append_left (by rw [hvl]; omega)]
        have hlt : i < (l.take t.length).length := by simp; omega
        simp only [over, List.getElem_append_left hlt]
        simp [vals, hi, hil]
      · rw [List.getElem?_append_right (by rw [hvl]; omega), hvl]
        rw [List.getElem?_drop, Array.getElem?_toList]
        have e3 : min l.length t.length + (i - min l.length t.length) = i := by omega
        rw [e3, hcs i hi]
        have hlt : ¬ i < (l.take t.length).length := by simp; omega
        simp only [over, List.getElem_append_right (by omega : (l.take t.length).length ≤ i), List.getElem_drop]
        have e4 : (l.take t.length).length = l.length := by rw [List.length_take]; omega
        have e5 : l.length + (i - (l.take t.length).length) = i := by omega
        simp only [e5]
/-- So many bytes are copied, and counted. -/
def Copies (w : World) (p A : Option Addr) (base : Nat) (l t : List UInt8) (a b c d : Int) (e : Ending) (w' : World) : Prop :=
  e = .returned (.int .i64 ((min l.length t.length : Nat) : Int)) ∧ Txt w' base A (over l t) ∧ Mt w' p a b c (d + ((min l.length t.length : Nat) : Int)) ∧
    ∃ w1 r, (∀ k, r = some k → base ≤ k ∧ ∃ cs fr, w.heap[k]? = some (.cells cs 5 fr)) ∧ w.grownBy w1 r ∧ w1.grownBy w' (blk p)
set_option maxHeartbeats 1000000 in
theorem copy_any (w : World) (p : Option Addr) (A : Option Addr) (t : List UInt8) (cap base : Nat) (hT : Txt w base A t) (B : Option Addr) (l : List UInt8) (cb N : Nat) (hB : Bs w N B l) (hl : l.length ≤ 1000000000000) (a b c d : Int) (hM : Mt w p a b c d) (ha : 0 ≤ a ∧ a ≤ 1000000000000) (hb : 0 ≤ b ∧ b ≤ 1000000000000) (hc : 0 ≤ c ∧ c ≤ 1000000000000) (hd : 0 ≤ d ∧ d ≤ 1000000000000) :
    Calls Try.prog 38 #[.pointer p, .slice A t.length cap, .slice B l.length cb] w (Copies w p A base l t a b c d) := by
  have HT := Lib.hid hT
  have HB := Lib.hid hB
  have HM := Lib.hid hM
  clear hT hB hM
  go_enter Try.func38, Try.ntmps38
  go_wp2_with (first
    | ((with_reducible refine copy_txt rfl (.tmp 8) (.tmp 9) rfl A t cap base rfl HT.out B l cb N rfl HB.out ?_); intro w1 r ht1 hr1 hg1; have HM1 := Lib.hid (HM.out.same fun k hk => hg1.block k (HM.out.lt hk) (fun e => by obtain ⟨_, cs, fr, hh⟩ := hr1 k e.symm; exact HM.out.not hh (by decide) hk)); have HT1 := Lib.hid ht1; have HR1 := Lib.hid hr1; have HG1 := Lib.hid hg1; clear ht1 hr1 hg1)
    | (go_at_call 36; (with_reducible refine (add_move w1 p a b c d _ HM1.out ha hb hc hd (by omega)).mono ?_); rintro e w2 ⟨rfl, hM2, hg2⟩; have HM2 := Lib.hid hM2; have HG2 := Lib.hid hg2; clear hM2 hg2))
  go_ret
  exact ⟨rfl, txt_grown HT1.out HG2.out (fun k cs fr e hh => HM1.out.not hh (by decide) e.symm), HM2.out, w1, r, HR1.out, HG1.out, HG2.out⟩
end Go.Proofs.Ytcekifknbljbiaa.Met
/- Rows in memory; a map whose keys are a state and a byte. -/
namespace Go.Proofs.Ytcekifknbljbiaa.Met
open Go.RowKit Go.Maps
set_option maxRecDepth 100000

/-- A row: a state, a byte, and where they lead. -/
structure Rw where
  s : Int
  b : UInt8
  t : Int
/-- What rows tell of a state and a byte: the last one that has them; -1: none. -/
def spar (l : List Rw) (s : Int) (c : UInt8) : Int :=
  l.foldl (fun x r => if r.s = s ∧ r.b = c then r.t else x) (-1)
def hasr (l : List Rw) (s : Int) (c : UInt8) : Bool := l.any fun r => decide (r.s = s ∧ r.b = c)
theorem spar_snoc (l : List Rw) (r : Rw) (s : Int) (c : UInt8) : spar (l ++ [r]) s c = if r.s = s ∧ r.b = c then r.t else spar l s c := by
  simp [spar, List.foldl_append]
theorem hasr_snoc (l : List Rw) (r : Rw) (s : Int) (c : UInt8) : hasr (l ++ [r]) s c = (hasr l s c || decide (r.s = s ∧ r.b = c)) := by
  simp [hasr]
theorem spar_no (l : List Rw) (s : Int) (c : UInt8) (h : hasr l s c = false) : spar l s c = -1 := by
  unfold spar
  generalize (-1 : Int) = z
  induction l generalizing z with
  | nil => rfl
  | cons r l ih =>
    unfold hasr at h
    rw [List.any_cons, Bool.or_eq_false_iff] at h
    rw [List.foldl_cons, if_neg (of_decide_eq_false h.1)]
    exact ih h.2 z
/-- Numbers that are. -/
def WfR (l : List Rw) : Prop := ∀ r ∈ l, (Lit.int .i64 r.s).wf = true ∧ (Lit.int .i64 r.t).wf = true
theorem wf_u8 (c : UInt8) : (Lit.int .u8 (c.toNat : Int)).wf = true := by
  have := c.toNat_lt
  simp [Lit.wf, IntKind.min, IntKind.max, IntKind.bits, IntKind.signed]
  omega
theorem und3 : Try.prog.underlying 3 = some (.int .i64) := by kernel_rfl
theorem laidOut' : laidOutB Try.prog = true := by kernel_rfl
theorem zero3 (w : World) : (zeroValue 3).run Try.prog w = .ok (.int .i64 0) w := by kernel_rfl
abbrev edge (s : Int) (c : UInt8) : Value := .agg #[.int .i64 s, .int .u8 (c.toNat : Int)]
theorem edge_inj {s s' : Int} {c c' : UInt8} (h : edge s c = edge s' c') : s = s' ∧ c = c' := by
  simp at h
  exact ⟨h.1, UInt8.toNat_inj.1 (by omega)⟩
/-- A row's cells. -/
def rcells (r : Rw) : List Value := [.int .i64 r.s, .int .u8 (r.b.toNat : Int), .int .i64 r.t]
def rvals (l : List Rw) : List Value := l.flatMap rcells
theorem rvals_length (l : List Rw) : (rvals l).length = l.length * 3 := by
  induction l with
  | nil => rfl
  | cons p l ih => simp only [rvals, List.flatMap_cons, List.length_append, List.length_cons] at ih ⊢; rw [ih]; simp [rcells]; omega
theorem rvals_append (l m : List Rw) : rvals (l ++ m) = rvals l ++ rvals m := by simp [rvals]
theorem rvals_at : ∀ (xs : List Rw) (i j : Nat), j < 3 → (h : i < xs.length) → (rvals xs)[i * 3 + j]? = (rcells xs[i])[j]?
  | [], i, j, _, h => absurd h (by simp)
  | x :: xs, 0, j, hj, _ => by
    unfold rvals
    rw [List.flatMap_cons, List.getElem?_append_left (by simp [rcells]; omega)]
    simp
  | x :: xs, i + 1, j, hj, h => by
    have h' : i < xs.length := by simpa using h
    unfold rvals
    rw [List.flatMap_cons, List.getElem?_append_right (by simp [rcells]; omega)]
    have e : (i + 1) * 3 + j - (rcells x).length = i * 3 + j := by simp [rcells]; omega
    rw [e]
    exact rvals_at xs i j hj h'
/-- A slice of rows that reads as xs, below block B. -/
def Rs (W : World) (B : Nat) (a : Option Addr) (xs : List Rw) : Prop :=
  0 < xs.length → ∃ b off, a = some ⟨b, off, none⟩ ∧ b < B ∧ ∀ i (h : i < xs.length), W.cell? ⟨b, off + i * 3, none⟩ = some (.int .i64 xs[i].s) ∧ W.cell? ⟨b, off + i * 3 + 1, none⟩ = some (.int .u8 (xs[i].b.toNat : Int)) ∧ W.cell? ⟨b, off + i * 3 + 2, none⟩ = some (.int .i64 xs[i].t)
theorem Rs.keep {W W' : World} {B : Nat} {a : Option Addr} {xs : List Rw} (h : Rs W B a xs) (hb : Below B W W') : Rs W' B a xs := fun h0 => by
  obtain ⟨b, off, e, hlt, hc⟩ := h h0
  refine ⟨b, off, e, hlt, fun i hi => ?_⟩
  obtain ⟨h1, h2, h3⟩ := hc i hi
  exact ⟨(hb.cell (p := ⟨b, _, none⟩) hlt).trans h1, (hb.cell (p := ⟨b, _, none⟩) hlt).trans h2, (hb.cell (p := ⟨b, _, none⟩) hlt).trans h3⟩
theorem Rs.more {W : World} {B B' : Nat} {a : Option Addr} {xs : List Rw} (h : Rs W B a xs) (hB : B ≤ B') : Rs W B' a xs := fun h0 => by
  obtain ⟨b, off, e, hlt, hc⟩ := h h0
  exact ⟨b, off, e, by omega, hc⟩
end Go.Proofs.Ytcekifknbljbiaa.Met
/- The contracts of Sparse, of how its table looks, of Look, and of the reference's Sparse. -/
namespace Go.Proofs.Ytcekifknbljbiaa.Met
open Go.RowKit Go.Maps
set_option maxRecDepth 100000

theorem cell_lt0 {w : World} {b o : Nat} {v : Value} (h : w.cell? ⟨b, o, none⟩ = some v) : b < w.heap.size := by
  rcases Nat.lt_or_ge b w.heap.size with hlt | hge
  · exact hlt
  · unfold World.cell? at h
    simp only [Array.getElem?_eq_none hge] at h
    cases h
theorem cell_one {w : World} {v : Nat} {u : Value} {t : TypeId} (h : w.heap[v]? = some (.cells #[u] t (0, 0))) : w.cell? ⟨v, 0, none⟩ = some u := by
  rw [cell_of_row w v _ _ t (0, 0) h]; rfl
end Go.Proofs.Ytcekifknbljbiaa.Met
/- The contracts of Look and of the reference's Sparse. -/
namespace Go.Proofs.Ytcekifknbljbiaa.Met
open Go.RowKit Go.Maps
set_option maxRecDepth 100000

theorem sparc_step (l : List Rw) (k : Nat) (h : k < l.length) (s : Int) (c : UInt8) : spar (l.take (k + 1)) s c = if l[k].s = s ∧ l[k].b = c then l[k].t else spar (l.take k) s c := by
  rw [List.take_succ_eq_append_getElem h, spar_snoc]
theorem u8_eq (c d : UInt8) : ((c.toNat : Int) == (d.toNat : Int)) = decide (c = d) := by
  rw [Bool.eq_iff_iff]; simp only [beq_iff_eq, decide_eq_true_eq]
  exact ⟨fun h => UInt8.toNat_inj.1 (by omega), fun h => by rw [h]⟩
end Go.Proofs.Ytcekifknbljbiaa.Met
/- The document's examples: the contract of awake. -/
namespace Go.Proofs.Ytcekifknbljbiaa.Met
open Go.RowKit Go.Maps
set_option maxRecDepth 100000

theorem below_new (w : World) (x : Obj) : Below w.heap.size w (w.alloc x) := (Below.refl _ _).alloc (Nat.le_refl _) _
theorem new_mt (w : World) : Calls Try.prog 12 #[] w fun e w' => e = .returned (.pointer (some ⟨w.heap.size, 0, none⟩)) ∧ Mt w' (some ⟨w.heap.size, 0, none⟩) 0 0 0 0 ∧ Below w.heap.size w w' :=
  (new_any w).mono fun e w' ⟨he, hw⟩ => ⟨he, by rw [hw]; exact Or.inr ⟨_, rfl, Blk4.new _ _ _ _ _ _⟩, by rw [hw]; exact below_new _ _⟩
theorem Mt.cnt {w : World} {g : Nat} {s l h m : Int} (hM : Mt w (some ⟨g, 0, none⟩) s l h m) : Cnt w g s l h m := by
  rcases hM with hM | ⟨g', e, hM⟩
  · cases hM
  · cases e; exact hM
theorem counts_mt (w : World) (g : Nat) (s l h m : Int) (hM : Mt w (some ⟨g, 0, none⟩) s l h m) : Calls Try.prog 19 #[.pointer (some ⟨g, 0, none⟩)] w fun e w' => e = .returned (.agg #[.int .i64 s, .int .i64 l, .int .i64 h, .int .i64 m]) ∧ Below w.heap.size w w' :=
  counts_some w g s l h m hM.cnt
/-- What a meter's handles change lies where the meter lies. -/
theorem below_adds {B g : Nat} {w wi wj : World} (h : Below B w wi) (hg : wi.grownBy wj (blk (some ⟨g, 0, none⟩))) (hB : B ≤ g) (hs : B ≤ w.heap.size) : Below B w wj :=
  h.grown hg (Nat.le_trans hs h.size) (fun k hk => by cases hk; exact hB)
theorem bs_lit_at (w : World) (g : Nat) (l : List UInt8) (fr : Nat × Nat) (cs : Array Value) (hg : g = w.heap.size) (hcs : cs = (l.map fun c => Value.int .u8 (c.toNat : Int)).toArray) :
    Bs (w.alloc (.cells cs 5 fr)) (w.alloc (.cells cs 5 fr)).heap.size (some ⟨g, 0, none⟩) l := by
  subst hg; exact bs_lit w l fr cs hcs
theorem make_3 (w : World) : (Instr.makeSlice 38 (.int .i64 3) (.int .i64 3)).run Try.prog w = .ok (.slice (some ⟨w.heap.size, 0, none⟩) 3 3) (w.alloc (.cells #[.int .u8 0, .int .u8 0, .int .u8 0] 5)) := by
  obtain ⟨i0, hi, hz0, hz1, hz2⟩ := info_parts info5
  have := run_make (P := Try.prog) w 38 5 i0 _ und22 hi hz0 .i64 .i64 3 3 (by omega) (by omega) (by rw [hz2]; decide) (by omega)
  rw [hz1, show madeCells (Value.int .u8 0).cells ((3 : Int).toNat * 1) = #[.int .u8 0, .int .u8 0, .int .u8 0] by kernel_rfl] at this
  exact this
theorem make_5 (w : World) : (Instr.makeSlice 38 (.int .i64 5) (.int .i64 5)).run Try.prog w = .ok (.slice (some ⟨w.heap.size, 0, none⟩) 5 5) (w.alloc (.cells #[.int .u8 0, .int .u8 0, .int .u8 0, .int .u8 0, .int .u8 0] 5)) := by
  obtain ⟨i0, hi, hz0, hz1, hz2⟩ := info_parts info5
  have := run_make (P := Try.prog) w 38 5 i0 _ und22 hi hz0 .i64 .i64 5 5 (by omega) (by omega) (by rw [hz2]; decide) (by omega)
  rw [hz1, show madeCells (Value.int .u8 0).cells ((5 : Int).toNat * 1) = #[.int .u8 0, .int .u8 0, .int .u8 0, .int .u8 0, .int .u8 0] by kernel_rfl] at this
  exact this
/-- A text in a new block. -/
theorem txt_new (w : World) (l : List UInt8) (cs : Array Value) (hcs : cs = (l.map fun c => Value.int .u8 (c.toNat : Int)).toArray) : Txt (w.alloc (.cells cs 5)) w.heap.size (some ⟨w.heap.size, 0, none⟩) l := fun _ =>
  ⟨w.heap.size, cs, rfl, Nat.le_refl _, heap_alloc_new w _, fun i hi => by rw [hcs]; simp [hi]⟩
end Go.Proofs.Ytcekifknbljbiaa.Met
/- Slices of numbers and of questions in memory; texts that are changed in place. -/
namespace Go.Proofs.Ytcekifknbljbiaa.Met
open Go.RowKit Go.Maps
set_option maxRecDepth 100000

/-- A slice of numbers that reads as xs, below block B. -/
def Is (W : World) (B : Nat) (a : Option Addr) (xs : List Int) : Prop :=
  0 < xs.length → ∃ b off, a = some ⟨b, off, none⟩ ∧ b < B ∧ ∀ i (h : i < xs.length), W.cell? ⟨b, off + i, none⟩ = some (.int .i64 xs[i])
theorem Is.keep {W W' : World} {B : Nat} {a : Option Addr} {xs : List Int} (h : Is W B a xs) (hb : Below B W W') : Is W' B a xs := fun h0 => by
  obtain ⟨b, off, e, hlt, hc⟩ := h h0
  exact ⟨b, off, e, hlt, fun i hi => (hb.cell (p := ⟨b, _, none⟩) hlt).trans (hc i hi)⟩
/-- A question: a state and a byte. -/
structure Ak where
  s : Int
  c : UInt8
/-- A slice of questions that reads as xs, below block B. -/
def As (W : World) (B : Nat) (a : Option Addr) (xs : List Ak) : Prop :=
  0 < xs.length → ∃ b off, a = some ⟨b, off, none⟩ ∧ b < B ∧ ∀ i (h : i < xs.length), W.cell? ⟨b, off + i * 2, none⟩ = some (.int .i64 xs[i].s) ∧ W.cell? ⟨b, off + i * 2 + 1, none⟩ = some (.int .u8 (xs[i].c.toNat : Int))
theorem As.keep {W W' : World} {B : Nat} {a : Option Addr} {xs : List Ak} (h : As W B a xs) (hb : Below B W W') : As W' B a xs := fun h0 => by
  obtain ⟨b, off, e, hlt, hc⟩ := h h0
  exact ⟨b, off, e, hlt, fun i hi => ⟨(hb.cell (p := ⟨b, _, none⟩) hlt).trans (hc i hi).1, (hb.cell (p := ⟨b, _, none⟩) hlt).trans (hc i hi).2⟩⟩
/-- A byte of a text of the call's own, stored. -/
theorem Txt.set {w : World} {base g i : Nat} {l : List UInt8} (h : Txt w base (some ⟨g, 0, none⟩) l) (x : UInt8) : Txt (w.setCell ⟨g, i, none⟩ (.int .u8 (x.toNat : Int))) base (some ⟨g, 0, none⟩) (l.set i x) := fun h0 => by
  rw [List.length_set] at h0
  obtain ⟨b, cs, e, hb, hh, hc⟩ := h h0
  cases e
  refine ⟨g, _, rfl, hb, heap_set_same hh, fun j hj => ?_⟩
  rw [List.length_set] at hj
  have hcj := hc j hj
  have hjc : j < cs.size := (Array.getElem?_eq_some_iff.1 hcj).1
  rw [Array.getElem?_setIfInBounds, List.getElem_set]
  by_cases e : i = j
  · subst e
    simp [hjc]
  · simp [e, hcj]
theorem u8_inc' (x : UInt8) : ((x + 1).toNat : Int) = ((x.toNat : Int) + 1) % 256 := by
  rw [UInt8.toNat_add]
  have : (1 : UInt8).toNat = 1 := rfl
  omega
theorem field_scan (a b c d : Int) (w : World) : (Instr.field 44 (.agg #[.int .i64 a, .int .i64 b, .int .i64 c, .int .i64 d]) 0).run Try.prog w = .ok (.int .i64 a) w := by
  simp [Instr.field, go_sem, asAgg]
theorem eql_counts (a b c d a' b' c' d' : Int) (w : World) : (binOp .eql 44 (.agg #[.int .i64 a, .int .i64 b, .int .i64 c, .int .i64 d]) (.agg #[.int .i64 a', .int .i64 b', .int .i64 c', .int .i64 d'])).run Try.prog w = .ok (.bool ((a == a') && ((b == b') && ((c == c') && (d == d'))))) w := by
  cases h1 : (a == a') <;> cases h2 : (b == b') <;> cases h3 : (c == c') <;> cases h4 : (d == d') <;> simp [go_sem, h1, h2, h3, h4]
end Go.Proofs.Ytcekifknbljbiaa.Met
/- Rows of the reference's own: rows of the call, appended to. -/
namespace Go.Proofs.Ytcekifknbljbiaa.Met
open Go.RowKit Go.Maps
set_option maxRecDepth 100000

theorem rvals_one (l : List Rw) : ∀ v ∈ rvals l, v.oneCell' = true := by
  intro v hv
  simp only [rvals, List.mem_flatMap] at hv
  obtain ⟨p, _, hp⟩ := hv
  simp only [rcells, List.mem_cons, List.not_mem_nil, or_false] at hp
  rcases hp with rfl | rfl | rfl <;> rfl
/-- .. what is counted by a meter plays no part. -/
theorem own_adds {w w' : World} {base e size n : Nat} {v : Value} {xs : List Value} {q : Option Addr} {a b c d : Int} (h : w.ownsRow base e size v n xs) (hg : w.grownBy w' (blk q)) (hM : Mt w q a b c d) (he : e ≠ 66 := by decide) : w'.ownsRow base e size v n xs := by
  refine h.kept hg ?_
  cases hv : v.ownBlock with
  | none => exact Or.inl rfl
  | some g =>
    obtain ⟨_, _, cs, hh⟩ := own_block_lt h hv
    exact Or.inr (hM.not hh he)
/-- An operation that yields in every world that meets S, taken first; its slot is named. -/
theorem held_take {P : Program} {md : Region.Mode} {ops : Array Oper} {Q : Exit → Act → World → Prop} {S : World → Prop} {i d : Nat} {oi : Oper} {v : Value} {fuel : Nat} {listed : Array Bool} {a : Act} {w : World} (hi : ops[i]? = some oi) (hd : oi.dst = some d)
    (hs : Region.noSelect ops = true) (hf : Region.free md ops listed i = true) (hr : (Region.ready md ops listed).contains i = true)
    (hQ : ∀ c a w, Q (.panic c) (a.put (some d) v) w → Q (.panic c) a w) (hy : YieldsIf P ops S oi v a) (hS : S w)
    (h : wpAnyH P md ops Q S fuel (listed.setIfInBounds i true) (a.put (some d) v) w) : wpAnyH P md ops Q S (fuel + 1) listed a w :=
  wpAnyH_take hi hs hf hr (by rw [hd]; exact hQ) hy hS (by rw [hd]; exact h)
end Go.Proofs.Ytcekifknbljbiaa.Met
/- Numbers in blocks of the call's own; how a dense table looks. -/
namespace Go.Proofs.Ytcekifknbljbiaa.Met
open Go.RowKit Go.Maps
set_option maxRecDepth 100000

/-- What a dense table tells, by the class of a byte. -/
def dk (k wd : Int) (nx : List Int) (s : Int) : Int := if s < 0 ∨ k < 0 ∨ wd ≤ k then -1 else nx.getD (s * wd + k).toNat (-1)
theorem dk_out (k wd : Int) (nx : List Int) (s : Int) (h : s < 0 ∨ k < 0 ∨ wd ≤ k) : dk k wd nx s = -1 := if_pos h
theorem dk_far (k wd : Int) (nx : List Int) (s : Int) (h : (nx.length : Int) ≤ s * wd + k) : dk k wd nx s = -1 := by
  unfold dk
  split
  · rfl
  · rw [List.getD_eq_getElem?_getD, List.getElem?_eq_none (by omega)]; rfl
theorem dk_in (k wd : Int) (nx : List Int) (s : Int) (h1 : 0 ≤ s) (h2 : 0 ≤ k) (h3 : k < wd) (i : Nat) (hi : i < nx.length) (e : s * wd + k = i) : dk k wd nx s = nx[i] := by
  unfold dk
  rw [if_neg (by omega), e, List.getD_eq_getElem?_getD]
  simp [hi]
/-- Far states: the product is never made. -/
theorem far_state (s wd n : Int) (hw : 0 < wd) (h : n / wd < s) : n ≤ s * wd := by
  have h1 : n / wd + 1 ≤ s := h
  have h2 : (n / wd + 1) * wd ≤ s * wd := Int.mul_le_mul_of_nonneg_right h1 (by omega)
  have h3 := Int.lt_mul_of_ediv_lt hw (Int.lt_succ (n / wd))
  omega
theorem near_state (s wd n : Int) (hw : 0 < wd) (hs : 0 ≤ s) (h : s ≤ n / wd) : 0 ≤ s * wd ∧ s * wd ≤ n := by
  refine ⟨Int.mul_nonneg hs (by omega), ?_⟩
  have h2 : s * wd ≤ n / wd * wd := Int.mul_le_mul_of_nonneg_right h (by omega)
  have h3 := Int.ediv_mul_le n (show wd ≠ 0 by omega)
  omega
/-- Numbers as cells. -/
def ivals (l : List Int) : List Value := l.map fun x => Value.int .i64 x
def icells (l : List Int) : Array Value := (ivals l).toArray
theorem icells_size (l : List Int) : (icells l).size = l.length := by simp [icells, ivals]
theorem icells_at (l : List Int) (i : Nat) (h : i < l.length) : (icells l)[i]? = some (.int .i64 l[i]) := by simp [icells, ivals, h]
theorem icells_one (l : List Int) : (icells l).all (·.oneCell') = true := by
  rw [Array.all_eq_true_iff_forall_mem]
  intro v hv
  simp only [icells, ivals, List.mem_toArray, List.mem_map] at hv
  obtain ⟨x, _, rfl⟩ := hv
  rfl
theorem icells_set (l : List Int) (i : Nat) (x : Int) : (icells l).setIfInBounds i (.int .i64 x) = icells (l.set i x) := by
  simp [icells, ivals]
theorem ivals_one (l : List Int) : ∀ v ∈ ivals l, v.oneCell' = true := by
  intro v hv
  simp only [ivals, List.mem_map] at hv
  obtain ⟨c, _, rfl⟩ := hv
  rfl
theorem info3 : (Try.prog.info? 3).map (fun i => (i.zero, i.size, i.bytes)) = some (some (.int .i64 0), 1, 8) := by kernel_rfl
/-- Numbers that lie in a block of their own. -/
def It (w : World) (a : Option Addr) (l : List Int) : Prop :=
  0 < l.length → ∃ b cs, a = some ⟨b, 0, none⟩ ∧ w.heap[b]? = some (.cells cs 3 (0, 0)) ∧ ∀ i (h : i < l.length), cs[i]? = some (.int .i64 l[i])
theorem It.is {w : World} {a : Option Addr} {l : List Int} (h : It w a l) : Is w w.heap.size a l := fun h0 => by
  obtain ⟨b, cs, rfl, hh, hc⟩ := h h0
  refine ⟨b, 0, rfl, txt_lt hh, fun i hi => ?_⟩
  rw [Nat.zero_add, cell_of_row w b _ _ 3 (0, 0) hh]
  exact hc i hi
theorem It.keep {w w' : World} {a : Option Addr} {l : List Int} (h : It w a l) (hb : Below w.heap.size w w') : It w' a l := fun h0 => by
  obtain ⟨b, cs, e, hh, hc⟩ := h h0
  exact ⟨b, cs, e, (hb.block b (txt_lt hh)).trans hh, hc⟩
theorem It.adds {w w' : World} {q : Option Addr} {a : Option Addr} {l : List Int} {s t h m : Int} (hi : It w a l) (hg : w.grownBy w' (blk q)) (hM : Mt w q s t h m) : It w' a l := fun h0 => by
  obtain ⟨b, cs, e, hh, hc⟩ := hi h0
  exact ⟨b, cs, e, (hg.block b (txt_lt hh) (hM.not hh (by decide))).trans hh, hc⟩
theorem own_it {w : World} {base n : Nat} {v : Value} {l : List Int} (h : w.ownsRow base 3 1 v n (ivals l)) : ∃ a cap, v = .slice a l.length cap ∧ It w a l := by
  have hn : l.length = n := by have := h.1; simpa [ivals] using this
  rcases h.2 with ⟨rfl, h0⟩ | ⟨g, cap, cur, rfl, hg, hh, hnc, _, hs, ht⟩
  · exact ⟨none, 0, by rw [hn, h0], (fun h1 => by omega)⟩
  · refine ⟨some ⟨g, 0, none⟩, cap, by rw [hn], fun _ => ⟨g, cur, rfl, hh, fun i hi => ?_⟩⟩
    have e : (cur.toList.take (n * 1))[i]? = (ivals l)[i]? := by rw [ht]
    rw [List.getElem?_take_of_lt (by omega)] at e
    rw [← Array.getElem?_toList, e]
    simp [ivals, hi]
def GivesInts (w : World) (l : List Int) (e : Ending) (w' : World) : Prop := ∃ a cap, e = .returned (.slice a l.length cap) ∧ It w' a l ∧ Below w.heap.size w w'
end Go.Proofs.Ytcekifknbljbiaa.Met
/- The contracts of Dense, of Look at what it makes, and of the reference's Dense. -/
namespace Go.Proofs.Ytcekifknbljbiaa.Met
open Go.RowKit Go.Maps
set_option maxRecDepth 100000

/-- How far the reference's loop came. -/
theorem step_mul (m : Nat) (wd : Int) : ((m + 1 : Nat) : Int) * wd = (m : Int) * wd + wd := by
  rw [show ((m + 1 : Nat) : Int) = (m : Int) + 1 by omega, Int.add_mul, Int.one_mul]
theorem beyond (m : Nat) (s wd n : Int) (h0 : 0 < wd) (hm : (m : Int) ≤ s) (h : n ≤ (m : Int) * wd) : n ≤ s * wd := by
  have := Int.mul_le_mul_of_nonneg_right hm (show 0 ≤ wd by omega)
  omega
theorem wide (s wd n : Int) (h1 : 1 ≤ s) (h0 : 0 < wd) (h : n < wd) : n ≤ s * wd := by
  have := Int.mul_le_mul_of_nonneg_right h1 (show 0 ≤ wd by omega)
  omega
end Go.Proofs.Ytcekifknbljbiaa.Met
/- At and Read, whether there is such a byte or not; two meters side by side. -/
namespace Go.Proofs.Ytcekifknbljbiaa.Met
open Go.RowKit Go.Maps
set_option maxRecDepth 100000

/-- Is there such a byte? -/
def inb (l : List UInt8) (i : Int) : Bool := decide (0 ≤ i ∧ i < (l.length : Int))
def cnt (l : List UInt8) (i : Int) : Int := if inb l i = true then 1 else 0
theorem cnt_bd (l : List UInt8) (i : Int) : 0 ≤ cnt l i ∧ cnt l i ≤ 1 := by unfold cnt; split <;> omega
/-- A byte as a number, or -1; or 0. -/
def atv (l : List UInt8) (i : Int) : Int := if inb l i = true then ((l.getD i.toNat 0).toNat : Int) else -1
def rdv (l : List UInt8) (i : Int) : Int := if inb l i = true then ((l.getD i.toNat 0).toNat : Int) else 0
theorem read_any (w : World) (p : Option Addr) (l : List UInt8) (A : Option Addr) (cap : Nat) (hB : Bs w w.heap.size A l) (i : Int) (hl : l.length ≤ 1000000000000) (a b c d : Int) (hM : Mt w p a b c d) (ha : 0 ≤ a ∧ a ≤ 1000000000000) (hb : 0 ≤ b ∧ b ≤ 1000000000000) (hc : 0 ≤ c ∧ c ≤ 1000000000000) (hd : 0 ≤ d ∧ d ≤ 1000000000000) :
    Calls Try.prog 28 #[.pointer p, .slice A l.length cap, .int .i64 i] w (Adds w p a b (c + cnt l i) d (.tuple #[.int .u8 (rdv l i), .bool (inb l i)])) := by
  by_cases hi : 0 ≤ i ∧ i < (l.length : Int)
  · obtain ⟨n, rfl⟩ : ∃ n : Nat, i = n := ⟨i.toNat, by omega⟩
    have hn : n < l.length := by omega
    have e1 : inb l n = true := decide_eq_true hi
    have e2 : cnt l n = 1 := by simp [cnt, e1]
    have e3 : rdv l n = (l[n].toNat : Int) := by simp [rdv, e1, hn]
    rw [e1, e2, e3]
    exact read_in w p l A cap hB n hn hl a b c d hM ha hb hc hd
  · have e1 : inb l i = false := decide_eq_false hi
    have e2 : cnt l i = 0 := by simp [cnt, e1]
    have e3 : rdv l i = 0 := by simp [rdv, e1]
    rw [e1, e2, e3, Int.add_zero]
    refine (read_out w p l A cap i (by omega)).mono ?_
    rintro e w' ⟨rfl, rfl⟩
    exact ⟨rfl, hM, World.grownBy.refl w _⟩
theorem below_none {w w' : World} (h : w.grownBy w' (blk none)) : Below w.heap.size w w' := ⟨h.os, h.tape, h.output, h.size, fun k hk => h.block k hk (by intro e; cases e)⟩
theorem none_mt (w : World) : Mt w none 0 0 0 0 := Or.inl rfl
abbrev ptr (g : Nat) : Option Addr := some ⟨g, 0, none⟩
/-- Two meters, and what was there before. -/
def St (W : World) (M O : Nat) (w : World) (s l h m : Int) (s' : Int) : Prop := Below W.heap.size W w ∧ Mt w (ptr M) s l h m ∧ Mt w (ptr O) s' 0 0 0
theorem St.keep {W : World} {M O : Nat} {w w' : World} {s l h m s' : Int} (H : St W M O w s l h m s') (hb : Below w.heap.size w w') : St W M O w' s l h m s' :=
  ⟨H.1.trans (hb.mono H.1.size), H.2.1.keep hb, H.2.2.keep hb⟩
theorem St.drew {W : World} {M O : Nat} {w : World} {s l h m s' : Int} (H : St W M O w s l h m s') : St W M O w.drew s l h m s' := ⟨H.1.drew, H.2.1, H.2.2⟩
theorem St.addM {W : World} {M O : Nat} {w w' : World} {s l h m s' s2 l2 h2 m2 : Int} (H : St W M O w s l h m s') (hM : Mt w' (ptr M) s2 l2 h2 m2) (hg : w.grownBy w' (blk (ptr M))) (hne : M ≠ O) (hW : W.heap.size ≤ M) : St W M O w' s2 l2 h2 m2 s' :=
  ⟨below_adds H.1 hg hW (Nat.le_refl _), hM, H.2.2.same fun k hk => hg.block k (H.2.2.lt hk) (fun e => by
    have e1 : some k = some O := hk
    have e2 : some k = some M := e
    rw [e1] at e2
    injection e2 with e2
    exact hne e2.symm)⟩
theorem St.addO {W : World} {M O : Nat} {w w' : World} {s l h m s' s2 : Int} (H : St W M O w s l h m s') (hM : Mt w' (ptr O) s2 0 0 0) (hg : w.grownBy w' (blk (ptr O))) (hne : M ≠ O) (hW : W.heap.size ≤ O) : St W M O w' s l h m s2 :=
  ⟨below_adds H.1 hg hW (Nat.le_refl _), H.2.1.same (fun k hk => hg.block k (H.2.1.lt hk) (fun e => by
    have e1 : some k = some M := hk
    have e2 : some k = some O := e
    rw [e1] at e2
    injection e2 with e2
    exact hne e2)), hM⟩
theorem Mt.bytes {w w' : World} {p : Option Addr} {s l h m : Int} (hM : Mt w p s l h m) {r : Option Nat} (hr : ∀ k, r = some k → ∃ cs fr, w.heap[k]? = some (.cells cs 5 fr)) (hg : w.grownBy w' r) : Mt w' p s l h m :=
  hM.same fun k hk => hg.block k (hM.lt hk) (fun e => by obtain ⟨cs, fr, hh⟩ := hr k e.symm; exact hM.not hh (by decide) hk)
theorem St.bytes {W : World} {M O base : Nat} {w w' : World} {s l h m s' : Int} (H : St W M O w s l h m s') {r : Option Nat} (hr : ∀ k, r = some k → base ≤ k ∧ ∃ cs fr, w.heap[k]? = some (.cells cs 5 fr)) (hg : w.grownBy w' r) (hW : W.heap.size ≤ base) : St W M O w' s l h m s' :=
  ⟨H.1.grown hg H.1.size (fun k hk => Nat.le_trans hW (hr k hk).1), H.2.1.bytes (fun k hk => (hr k hk).2) hg, H.2.2.bytes (fun k hk => (hr k hk).2) hg⟩
end Go.Proofs.Ytcekifknbljbiaa.Met
