/- What fill changes, block by block. -/
import Derived.Test.YtkooanahgffjgaaLc
namespace Go.Proofs.Ytkooanahgffjgaa.Lnk
open Go.RowKit Go.Maps Go.Proofs.Ytkooanahgffjgaa.Tri
set_option maxRecDepth 100000

/-- Blocks that are neither links, nor tables of them, nor numbers, stay. -/
def Kp (W W' : World) : Prop := W.heap.size ≤ W'.heap.size ∧ ∀ (b : Nat) cs t fr, W.heap[b]? = some (.cells cs t fr) → t ≠ 84 → t ≠ 86 → t ≠ 3 → W'.heap[b]? = W.heap[b]?
theorem Kp.refl (W : World) : Kp W W := ⟨Nat.le_refl _, fun _ _ _ _ _ _ _ _ => rfl⟩
theorem Kp.trans {A B C : World} (h : Kp A B) (k : Kp B C) : Kp A C :=
  ⟨Nat.le_trans h.1 k.1, fun b cs t fr e h1 h2 h3 => by
    have e1 := h.2 b cs t fr e h1 h2 h3
    exact (k.2 b cs t fr (e1.trans e) h1 h2 h3).trans e1⟩
theorem Kp.of_below {A B : World} (h : Below A.heap.size A B) : Kp A B := ⟨h.size, fun b _ _ _ e _ _ _ => h.block b (txt_lt e)⟩
theorem Kp.set {A : World} {g : Nat} {cs t fr} (hg : A.heap[g]? = some (.cells cs t fr)) (ht : t = 84 ∨ t = 86 ∨ t = 3) (i : Nat) (v : Value) : Kp A (A.setCell ⟨g, i, none⟩ v) :=
  ⟨by simp, fun b cs' t' fr' e h1 h2 h3 => Below.heap_setCell A ⟨g, i, none⟩ v b (fun q => by
    subst q
    rw [hg] at e
    injection e with e
    injection e with _ e
    subst e
    rcases ht with rfl | rfl | rfl <;> contradiction)⟩
theorem Kp.txt {A B : World} (h : Kp A B) {s : Nat} {a : Option Addr} {l : List UInt8} (ht : Txt A s a l) : Txt B s a l := fun h0 => by
  obtain ⟨b, cs, e, hs, hh, hc⟩ := ht h0
  exact ⟨b, cs, e, hs, (h.2 b cs 5 _ hh (by decide) (by decide) (by decide)).trans hh, hc⟩
/-- A block of one cell. -/
def Blk1 (w : World) (g : Nat) (t : TypeId) (u : Value) : Prop := w.heap[g]? = some (.cells #[u] t (0, 0))
theorem Blk1.lt {w : World} {g : Nat} {t : TypeId} {u : Value} (h : Blk1 w g t u) : g < w.heap.size := txt_lt h
theorem Blk1.cell {w : World} {g : Nat} {t : TypeId} {u : Value} (h : Blk1 w g t u) : w.cell? ⟨g, 0, none⟩ = some u := by
  unfold Blk1 at h
  rw [cell_of_row w g _ _ t (0, 0) h]; rfl
theorem Kp.blk1 {A B : World} (h : Kp A B) {g t : Nat} {u : Value} (hb : Blk1 A g t u) (h1 : t ≠ 84 := by decide) (h2 : t ≠ 86 := by decide) (h3 : t ≠ 3 := by decide) : Blk1 B g t u := (h.2 g _ t _ hb h1 h2 h3).trans hb
/-- A link stored. -/
def putL (w : World) (g m : Nat) (r : Lk) : World := ((w.setCell ⟨g, m * 3, none⟩ (.int .i64 r.fail)).setCell ⟨g, m * 3 + 1, none⟩ (.int .i64 r.out)).setCell ⟨g, m * 3 + 2, none⟩ (.int .i64 (r.own : Int))
theorem putL_other {w : World} {g m k : Nat} {r : Lk} (h : k ≠ g) : (putL w g m r).heap[k]? = w.heap[k]? := by
  unfold putL
  rw [Below.heap_setCell _ _ _ _ h, Below.heap_setCell _ _ _ _ h, Below.heap_setCell _ _ _ _ h]
theorem below_putL {B : Nat} {a w : World} (h : Below B a w) {g : Nat} (hg : B ≤ g) (m : Nat) (r : Lk) : Below B a (putL w g m r) :=
  ((h.setCell (p := ⟨g, m * 3, none⟩) hg _).setCell (p := ⟨g, m * 3 + 1, none⟩) hg _).setCell (p := ⟨g, m * 3 + 2, none⟩) hg _
theorem putL_size (w : World) (g m : Nat) (r : Lk) : (putL w g m r).heap.size = w.heap.size := by simp [putL]
/-- The table, one link more. -/
theorem tab_store {w : World} {s x g cap : Nat} {vo : Value} {ps l Q : List Tx} (hw : Wf ps)
    (h1 : Blk2 w x 84 (.slice (some ⟨g, 0, none⟩) ps.length cap) vo) (h2 : w.ownsRow s 86 3 (.slice (some ⟨g, 0, none⟩) ps.length cap) ps.length (lvals (lks ps l Q))) (h3 : w.ownsRow s 3 1 vo Q.length (ivals (Q.map (place ps))))
    {m : Nat} (hm : m < ps.length) : Blk2 (putL w g m (lkOf ps l ps[m])) x 84 (.slice (some ⟨g, 0, none⟩) ps.length cap) vo ∧ (putL w g m (lkOf ps l ps[m])).ownsRow s 86 3 (.slice (some ⟨g, 0, none⟩) ps.length cap) ps.length (lvals (lks ps l (Q ++ [ps[m]]))) ∧
      (putL w g m (lkOf ps l ps[m])).ownsRow s 3 1 vo Q.length (ivals (Q.map (place ps))) ∧ Kp w (putL w g m (lkOf ps l ps[m])) ∧ s ≤ g ∧ g ≠ x := by
  obtain ⟨hsg, hgz, cs, hh⟩ := own_block_lt h2 (g := g) rfl
  have hgx : g ≠ x := fun e => by
    rw [e] at hh
    have := hh.symm.trans h1
    simp at this
  refine ⟨h1.same (putL_other hgx.symm), ?_, own_far_block h3 fun k hk => putL_other fun e => ?_, ?_, hsg, hgx⟩
  · rw [lks_snoc hw l Q hm, ← lvals_set _ m _ (by rw [lks_length]; exact hm)]
    exact (((h2.stored (m * 3) (.int .i64 (lkOf ps l ps[m]).fail)).1.stored (m * 3 + 1) (.int .i64 (lkOf ps l ps[m]).out)).1.stored (m * 3 + 2) (.int .i64 ((lkOf ps l ps[m]).own : Int))).1
  · subst e
    obtain ⟨_, _, cs', hh'⟩ := own_block_lt h3 hk
    have := hh.symm.trans hh'
    simp at this
  · refine ⟨by rw [putL_size]; exact Nat.le_refl _, fun b cs' t fr e h4 h5 h6 => putL_other fun q => ?_⟩
    subst q
    rw [hh] at e
    injection e with e
    injection e with _ e
    exact h5 e.symm
/-- The order, one number more. -/
theorem ord_store {w w4 : World} {s x g cap : Nat} {vo v4 : Value} {ps l Q : List Tx} {q : Tx} (hs : s ≤ x)
    (h1 : Blk2 w x 84 (.slice (some ⟨g, 0, none⟩) ps.length cap) vo) (h2 : w.ownsRow s 86 3 (.slice (some ⟨g, 0, none⟩) ps.length cap) ps.length (lvals (lks ps l (Q ++ [q])))) (h3 : w.ownsRow s 3 1 vo Q.length (ivals (Q.map (place ps))))
    (hsz : w.heap.size ≤ w4.heap.size) (hg : ∀ b, b < w.heap.size → some b ≠ vo.ownBlock → w4.heap[b]? = w.heap[b]?) (h4 : w4.ownsRow s 3 1 v4 (Q.length + 1) (ivals (Q.map (place ps) ++ [place ps q]))) :
    LiQ (w4.setCell ⟨x, 1, none⟩ v4) s x ps l (Q ++ [q]) ∧ Kp w (w4.setCell ⟨x, 1, none⟩ v4) := by
  have hx : some x ≠ vo.ownBlock := fun e => by
    obtain ⟨_, _, cs, hh⟩ := own_block_lt h3 e.symm
    have := hh.symm.trans h1
    simp at this
  obtain ⟨_, hgz, cs, hh⟩ := own_block_lt h2 (g := g) rfl
  have hgo : some g ≠ vo.ownBlock := fun e => by
    obtain ⟨_, _, cs', hh'⟩ := own_block_lt h3 e.symm
    have := hh.symm.trans hh'
    simp at this
  have hgx : g ≠ x := fun e => by
    rw [e] at hh
    have := hh.symm.trans h1
    simp at this
  have h14 := h1.same (hg x h1.lt hx)
  refine ⟨⟨hs, g, cap, v4, h14.put1 v4, own_far_block h2 fun k hk => ?_, ?_⟩, by simpa using hsz, fun b cs' t fr e h5 h6 h7 => ?_⟩
  · have e : g = k := by simpa [Value.ownBlock] using hk
    subst e
    rw [Below.heap_setCell w4 ⟨x, 1, none⟩ v4 _ hgx]
    exact hg _ hgz hgo
  · rw [List.length_append, List.length_singleton, List.map_append]
    refine own_far_block h4 fun k hk => Below.heap_setCell w4 ⟨x, 1, none⟩ v4 k fun e => ?_
    subst e
    obtain ⟨_, _, cs', hh'⟩ := own_block_lt h4 hk
    have := hh'.symm.trans h14
    simp at this
  · have hne : b ≠ x := fun q => by
      subst q
      have := e.symm.trans h1
      simp at this
      exact h5 this.2.1
    have hno : some b ≠ vo.ownBlock := fun q => by
      obtain ⟨_, _, cs', hh'⟩ := own_block_lt h3 q.symm
      have := e.symm.trans hh'
      simp at this
      exact h7 this.2.1
    rw [Below.heap_setCell w4 ⟨x, 1, none⟩ v4 b hne]
    exact hg b (txt_lt e) hno
end Go.Proofs.Ytkooanahgffjgaa.Lnk
