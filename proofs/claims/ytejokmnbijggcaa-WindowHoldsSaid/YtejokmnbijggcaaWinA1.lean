/- A window in memory; what New, Len, Room, Clear, held and Bytes answer. -/
import Derived.Test.YtejokmnbijggcaaGM
import Derived.Test.YtejokmnbijggcaaGV
namespace Go.Proofs.Ytejokmnbijggcaa.Win
open Go.Proofs.Ytejokmnbijggcaa.Stm Go.Proofs.Ytejokmnbijggcaa.Reg Go.RowKit Go.Maps
set_option maxRecDepth 100000
set_option linter.unusedVariables false

/-- What a call on a window may change: its own blocks, the meter, and new ones. -/
structure Touch (W W' : World) (g : Nat) (d : Option Nat) (mp : Option Addr) : Prop where
  os : W'.os = W.os
  tape : W'.tape = W.tape
  output : W'.output = W.output
  size : W.heap.size ≤ W'.heap.size
  block : ∀ k, k < W.heap.size → k ≠ g → d ≠ some k → Met.blk mp ≠ some k → W'.heap[k]? = W.heap[k]?
theorem Touch.below {W W' A : World} {g : Nat} {d : Option Nat} {mp : Option Addr} (h : Touch W W' g d mp) {B : Nat} (hb : Below B A W) (hB : B ≤ W.heap.size) (hg : B ≤ g) (hd : ∀ k, d = some k → B ≤ k) (hm : ∀ k, Met.blk mp = some k → B ≤ k) : Below B A W' :=
  ⟨h.os.trans hb.os, h.tape.trans hb.tape, h.output.trans hb.output, Nat.le_trans hb.size h.size, fun k hk => (h.block k (by omega) (by omega) (fun e => by have := hd k e; omega) (fun e => by have := hm k e; omega)).trans (hb.block k hk)⟩
theorem Touch.trans {W W' W'' : World} {g : Nat} {d d' : Option Nat} {mp : Option Addr} (h : Touch W W' g d mp) (h' : Touch W' W'' g d' mp) (hd : d' = d ∨ ∃ k, d' = some k ∧ W.heap.size ≤ k) : Touch W W'' g d mp :=
  ⟨h'.os.trans h.os, h'.tape.trans h.tape, h'.output.trans h.output, Nat.le_trans h.size h'.size, fun k hk h1 h2 h3 => (h'.block k (Nat.lt_of_lt_of_le hk h.size) h1 (by rcases hd with rfl | ⟨k', rfl, hk'⟩; exact h2; intro e; cases e; omega) h3).trans (h.block k hk h1 h2 h3)⟩
theorem Touch.of_below {W W' : World} {g : Nat} {d : Option Nat} {mp : Option Addr} (h : Below W.heap.size W W') : Touch W W' g d mp := ⟨h.os, h.tape, h.output, h.size, fun k hk _ _ _ => h.block k hk⟩
theorem Touch.of_grown {W W' : World} {g : Nat} {d : Option Nat} {mp : Option Addr} {r : Option Nat} (h : W.grownBy W' r) (hr : ∀ k, r = some k → k < W.heap.size → k = g ∨ d = some k ∨ Met.blk mp = some k) : Touch W W' g d mp :=
  ⟨h.os, h.tape, h.output, h.size, fun k hk h1 h2 h3 => h.block k hk (fun e => by rcases hr k e.symm hk with h | h | h; exact h1 h; exact h2 h; exact h3 h)⟩
/-- A block of just these bytes. -/
def Row (W : World) (k : Nat) (t : Stm.Tx) : Prop := W.heap[k]? = some (.cells (vals t).toArray 5 (0, 0))
theorem Row.same {W W' : World} {k : Nat} {t : Stm.Tx} (h : Row W k t) (e : W'.heap[k]? = W.heap[k]?) : Row W' k t := e.trans h
theorem Row.lt {W : World} {k : Nat} {t : Stm.Tx} (h : Row W k t) : k < W.heap.size := txt_lt h
theorem Row.bs {W : World} {k : Nat} {t : Stm.Tx} (h : Row W k t) (n : Nat) : Bs W W.heap.size (some ⟨k, 0, none⟩) (t.take n) := fun _ => by
  unfold Row at h
  refine ⟨k, 0, rfl, txt_lt h, fun i hi => ?_⟩
  have hi' : i < t.length := by rw [List.length_take] at hi; omega
  rw [Nat.zero_add, cell_of_row W k _ _ 5 (0, 0) h]
  simp [vals, hi']
theorem _root_.Go.Proofs.Ytejokmnbijggcaa.Blk3.same' {w w' : World} {g : Nat} {t : TypeId} {u0 u1 u2 : Value} (h : Blk3 w g t u0 u1 u2) (e : w'.heap[g]? = w.heap[g]?) : Blk3 w' g t u0 u1 u2 := e.trans h
/-- The slice over a window's row. -/
abbrev rowOf (d : Option Nat) (n : Nat) : Value := .slice (d.map fun k => ⟨k, 0, none⟩) n n
/-- A window in memory: its struct in block g, its bytes in block d, if it has room. -/
def Wd (W : World) (g : Nat) (d : Option Nat) (mp : Option Addr) (held : Stm.Tx) (room : Nat) : Prop :=
  Blk3 W g 48 (.pointer mp) (rowOf d room) (.int .i64 (held.length : Int)) ∧ (d = none → room = 0) ∧ held.length ≤ room ∧ ∃ t : Stm.Tx, t.length = room ∧ t.take held.length = held ∧ ∀ k, d = some k → k ≠ g ∧ Row W k t
theorem Wd.same {W W' : World} {g : Nat} {d : Option Nat} {mp : Option Addr} {held : Stm.Tx} {room : Nat} (h : Wd W g d mp held room) (hg : W'.heap[g]? = W.heap[g]?) (hd : ∀ k, d = some k → W'.heap[k]? = W.heap[k]?) : Wd W' g d mp held room := by
  obtain ⟨h1, h2, h3, t, h4, h5, h6⟩ := h
  exact ⟨hg.trans h1, h2, h3, t, h4, h5, fun k hk => ⟨(h6 k hk).1, (h6 k hk).2.same (hd k hk)⟩⟩
theorem Wd.lt {W : World} {g : Nat} {d : Option Nat} {mp : Option Addr} {held : Stm.Tx} {room : Nat} (h : Wd W g d mp held room) : g < W.heap.size ∧ ∀ k, d = some k → k < W.heap.size := by
  obtain ⟨h1, _, _, t, _, _, h6⟩ := h
  exact ⟨txt_lt h1, fun k hk => (h6 k hk).2.lt⟩
theorem Wd.fits {W : World} {g : Nat} {d : Option Nat} {mp : Option Addr} {held : Stm.Tx} {room : Nat} (h : Wd W g d mp held room) : held.length ≤ room := h.2.2.1
theorem Wd.keep {W W' : World} {g : Nat} {d : Option Nat} {mp : Option Addr} {held : Stm.Tx} {room : Nat} (h : Wd W g d mp held room) (hb : Below W.heap.size W W') : Wd W' g d mp held room :=
  h.same (hb.block g h.lt.1) fun k hk => hb.block k (h.lt.2 k hk)
theorem Wd.bs {W : World} {g : Nat} {d : Option Nat} {mp : Option Addr} {held : Stm.Tx} {room : Nat} (h : Wd W g d mp held room) : Bs W W.heap.size (d.map fun k => ⟨k, 0, none⟩) held := by
  obtain ⟨_, h2, h3, t, h4, h5, h6⟩ := h
  rcases d with _ | k
  · intro h0; have := h2 rfl; omega
  · have := (h6 k rfl).2.bs held.length
    rw [h5] at this
    exact this

theorem wnew_any (w : World) (mp : Option Addr) : Calls Try.prog 10 #[.pointer mp] w fun e w' => ∃ g, e = .returned (.pointer (some ⟨g, 0, none⟩)) ∧ w.heap.size ≤ g ∧ Wd w' g none mp [] 0 ∧ Below w.heap.size w w' := by
  go_enter Try.func10, Try.ntmps10
  go_wp2
  go_ret
  exact ⟨w.heap.size, rfl, Nat.le_refl _, ⟨heap_alloc_new w _, fun _ => rfl, Nat.le_refl _, [], rfl, rfl, fun k hk => by cases hk⟩, (Below.refl _ _).alloc (Nat.le_refl _) _⟩
theorem wlen_any (w : World) (g : Nat) (d : Option Nat) (mp : Option Addr) (held : Stm.Tx) (room : Nat) (h : Wd w g d mp held room) (hr : room ≤ 1000000000) :
    Calls Try.prog 16 #[.pointer (some ⟨g, 0, none⟩)] w fun e w' => e = .returned (.int .i64 (held.length : Int)) ∧ Below w.heap.size w w' := by
  have hlt := h.lt.1
  obtain ⟨c0, c1, c2⟩ := Blk3.cells h.1
  clear h
  go_enter Try.func16, Try.ntmps16
  go_wp2
  go_ret
  exact ⟨rfl, Below.refl _ _⟩
theorem wroom_any (w : World) (g : Nat) (d : Option Nat) (mp : Option Addr) (held : Stm.Tx) (room : Nat) (h : Wd w g d mp held room) (hr : room ≤ 1000000000) :
    Calls Try.prog 17 #[.pointer (some ⟨g, 0, none⟩)] w fun e w' => e = .returned (.int .i64 (room : Int)) ∧ Below w.heap.size w w' := by
  have hlt := h.lt.1
  obtain ⟨c0, c1, c2⟩ := Blk3.cells h.1
  clear h
  go_enter Try.func17, Try.ntmps17
  go_wp2
  go_ret
  exact ⟨rfl, Below.refl _ _⟩
theorem wclear_any (w : World) (g : Nat) (d : Option Nat) (mp : Option Addr) (held : Stm.Tx) (room : Nat) (h : Wd w g d mp held room) (hr : room ≤ 1000000000) :
    Calls Try.prog 11 #[.pointer (some ⟨g, 0, none⟩)] w fun e w' => e = .returned (.tuple #[]) ∧ Wd w' g d mp [] room ∧ Touch w w' g none none := by
  have hlt := h.lt.1
  obtain ⟨c0, c1, c2⟩ := Blk3.cells h.1
  obtain ⟨f0, f1, f2⟩ := Blk3.free h.1
  have H := Lib.hid h
  clear h
  go_enter Try.func11, Try.ntmps11
  go_wp2
  go_end0
  obtain ⟨h1, h2, h3, t, h4, h5, h6⟩ := H.out
  refine ⟨rfl, ⟨?_, h2, Nat.zero_le _, t, h4, rfl, fun k hk => ⟨(h6 k hk).1, (h6 k hk).2.same (Below.heap_setCell _ _ _ _ (h6 k hk).1)⟩⟩, Touch.of_grown (Met.grown_set w g 2 _) (fun k e _ => Or.inl (by cases e; rfl))⟩
  unfold Blk3 at h1 ⊢
  rw [heap_set_same h1]
  rfl
/-- held is what it holds, in the window's own memory. -/
theorem wheld_any (w : World) (g : Nat) (d : Option Nat) (mp : Option Addr) (held : Stm.Tx) (room : Nat) (h : Wd w g d mp held room) (hr : room ≤ 10000000000) :
    Calls Try.prog 22 #[.pointer (some ⟨g, 0, none⟩)] w fun e w' => e = .returned (rowOf d held.length) ∧ ∃ q, w' = w.drewN q := by
  have hlt := h.lt.1
  have hf := h.fits
  obtain ⟨c0, c1, c2⟩ := Blk3.cells h.1
  have hn := h.2.1
  clear h
  rcases d with _ | k
  · have := hn rfl
    subst this
    have e : held = [] := List.eq_nil_of_length_eq_zero (by omega)
    subst e
    go_enter Try.func22, Try.ntmps22
    go_wp2_with fail
    go_quiet (fail)
    go_wp2
    go_ret
    exact ⟨rfl, _, rfl⟩
  · go_enter Try.func22, Try.ntmps22
    go_wp2_with fail
    go_quiet (fail)
    go_wp2
    go_ret
    exact ⟨rfl, _, rfl⟩
theorem wbytes_any (w : World) (g : Nat) (d : Option Nat) (mp : Option Addr) (held : Stm.Tx) (room : Nat) (h : Wd w g d mp held room) (hr : room ≤ 1000000000) :
    Calls Try.prog 15 #[.pointer (some ⟨g, 0, none⟩)] w (GivesText w held) := by
  have hlt := h.lt.1
  have hf := h.fits
  have H := Lib.hid h
  clear h
  go_enter Try.func15, Try.ntmps15
  go_wp2_with (first
    | (go_at_call 22; (with_reducible refine (wheld_any _ g d mp held room H.out (by omega)).mono ?_); rintro e w1 ⟨rfl, q, hq⟩; have HQ := Lib.hid hq; clear hq)
    | (go_at_call 21; (with_reducible refine (Met.clone_any held _ _ _ (by omega) (H.out.keep (by rw [HQ.out]; exact below_drews (Below.refl _ _) q)).bs).mono ?_); rintro e w2 ⟨a2, c2, rfl, ht, hc, hn, hb⟩; have HT := Lib.hid ht; have HC := Lib.hid hc; have HN := Lib.hid hn; have HB := Lib.hid hb; clear ht hc hn hb))
  go_ret
  have hq : Below w.heap.size w w1 := by rw [HQ.out]; exact below_drews (Below.refl _ _) q
  exact ⟨a2, c2, rfl, HT.out.less hq.size, HC.out, HN.out, hq.trans (HB.out.mono hq.size)⟩
theorem wadd_none (w : World) (a : Option Addr) (n c : Nat) : Calls Try.prog 13 #[.pointer none, .slice a n c] w fun e w' => e = .returned (.tuple #[]) ∧ Below w.heap.size w w' := by
  go_enter Try.func13, Try.ntmps13
  go_wp2
  exact bodyPost_ret (v := .tuple #[]) (by simp [results, Try.results13, go_sem]) rfl ⟨rfl, Below.refl _ _⟩
theorem wclear_none (w : World) : Calls Try.prog 11 #[.pointer none] w fun e w' => e = .returned (.tuple #[]) ∧ Below w.heap.size w w' := by
  go_enter Try.func11, Try.ntmps11
  go_wp2
  exact bodyPost_ret (v := .tuple #[]) (by simp [results, Try.results11, go_sem]) rfl ⟨rfl, Below.refl _ _⟩
theorem wbytes_none (w : World) : Calls Try.prog 15 #[.pointer none] w (GivesText w []) := by
  go_enter Try.func15, Try.ntmps15
  go_wp2
  go_ret
  exact ⟨none, 0, rfl, fun h => absurd h (Nat.lt_irrefl _), Nat.le_refl _, fun _ => rfl, Below.refl _ _⟩
theorem wlen_none (w : World) : Calls Try.prog 16 #[.pointer none] w fun e w' => e = .returned (.int .i64 0) ∧ Below w.heap.size w w' := by
  go_enter Try.func16, Try.ntmps16
  go_wp2
  go_ret
  exact ⟨rfl, Below.refl _ _⟩
theorem wroom_none (w : World) : Calls Try.prog 17 #[.pointer none] w fun e w' => e = .returned (.int .i64 0) ∧ Below w.heap.size w w' := by
  go_enter Try.func17, Try.ntmps17
  go_wp2
  go_ret
  exact ⟨rfl, Below.refl _ _⟩
end Go.Proofs.Ytejokmnbijggcaa.Win
