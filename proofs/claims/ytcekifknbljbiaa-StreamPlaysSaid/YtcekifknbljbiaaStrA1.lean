/- A stream in memory; what New, fail and Err answer. -/
import Derived.Test.YtcekifknbljbiaaGU
import Derived.Test.YtcekifknbljbiaaGW
namespace Go.Proofs.Ytcekifknbljbiaa.Str
open Go.Proofs.Ytcekifknbljbiaa.Stm Go.Proofs.Ytcekifknbljbiaa.Reg Go.RowKit Go.Maps
set_option maxRecDepth 100000
set_option linter.unusedVariables false

/-- Of the blocks that were, only these have changed. -/
structure Ch (W W' : World) (X : Nat → Prop) : Prop where
  cos : W'.os = W.os
  ctape : W'.tape = W.tape
  cout : W'.output = W.output
  csize : W.heap.size ≤ W'.heap.size
  cblk : ∀ k, k < W.heap.size → ¬ X k → W'.heap[k]? = W.heap[k]?
theorem Ch.of_below {W W' : World} {X : Nat → Prop} (h : Below W.heap.size W W') : Ch W W' X := ⟨h.os, h.tape, h.output, h.size, fun k hk _ => h.block k hk⟩
theorem Ch.trans {W W' W'' : World} {X X' : Nat → Prop} (h : Ch W W' X) (h' : Ch W' W'' X') (hX : ∀ k, k < W.heap.size → X' k → X k) : Ch W W'' X :=
  ⟨h'.cos.trans h.cos, h'.ctape.trans h.ctape, h'.cout.trans h.cout, Nat.le_trans h.csize h'.csize, fun k hk hn => (h'.cblk k (Nat.lt_of_lt_of_le hk h.csize) (fun e => hn (hX k hk e))).trans (h.cblk k hk hn)⟩
theorem Ch.more {W W' : World} {X X' : Nat → Prop} (h : Ch W W' X) (hX : ∀ k, X k → X' k) : Ch W W' X' := ⟨h.cos, h.ctape, h.cout, h.csize, fun k hk hn => h.cblk k hk (fun e => hn (hX k e))⟩
theorem Ch.of_touch {W W' : World} {g : Nat} {d : Option Nat} {mp : Option Addr} {X : Nat → Prop} (h : Win.Touch W W' g d mp) (hg : X g) (hd : ∀ k, d = some k → X k) (hm : ∀ k, Met.blk mp = some k → X k) : Ch W W' X :=
  ⟨h.os, h.tape, h.output, h.size, fun k hk hn => h.block k hk (fun e => hn (e ▸ hg)) (fun e => hn (hd k e)) (fun e => hn (hm k e))⟩
theorem Ch.of_grown {W W' : World} {X : Nat → Prop} {r : Option Nat} (h : W.grownBy W' r) (hr : ∀ k, r = some k → k < W.heap.size → X k) : Ch W W' X :=
  ⟨h.os, h.tape, h.output, h.size, fun k hk hn => h.block k hk (fun e => hn (hr k e.symm hk))⟩
theorem Ch.below {W W' A : World} {X : Nat → Prop} (h : Ch W W' X) {B : Nat} (hb : Below B A W) (hB : B ≤ W.heap.size) (hX : ∀ k, X k → B ≤ k) : Below B A W' :=
  ⟨h.cos.trans hb.os, h.ctape.trans hb.tape, h.cout.trans hb.output, Nat.le_trans hb.size h.csize, fun k hk => (h.cblk k (by omega) (fun e => by have := hX k e; omega)).trans (hb.block k hk)⟩
theorem Ch.bs {W W' : World} {X : Nat → Prop} (h : Ch W W' X) {B : Nat} {a : Option Addr} {b : Stm.Tx} (hb : Bs W B a b) (hB : B ≤ W.heap.size) (hne : 0 < b.length → ∀ ad : Addr, a = some ad → ¬ X ad.block) : Bs W' B a b := fun h0 => by
  obtain ⟨k, off, e, hlt, hc⟩ := hb h0
  have hh := h.cblk k (by omega) (hne h0 _ e)
  refine ⟨k, off, e, hlt, fun i hi => ?_⟩
  rw [← hc i hi]
  unfold World.cell?
  rw [hh]
theorem Ch.txt {W W' : World} {X : Nat → Prop} (h : Ch W W' X) {s : Nat} {a : Option Addr} {b : Stm.Tx} (hb : Txt W s a b) (hX : ∀ k, X k → s ≤ k → k < W.heap.size → ∀ cs, W.heap[k]? ≠ some (.cells cs 5 (0, 0))) : Txt W' s a b := fun h0 => by
  obtain ⟨k, cs, e, hs, hh, hc⟩ := hb h0
  exact ⟨k, cs, e, hs, (h.cblk k (txt_lt hh) (fun hx => hX k hx hs (txt_lt hh) cs hh)).trans hh, hc⟩

/-- A stream's own blocks. -/
def Own (p g : Nat) (d : Option Nat) (mp : Option Addr) (k : Nat) : Prop := k = p ∨ k = g ∨ d = some k ∨ Met.blk mp = some k
/-- A stream's struct. -/
def Sb (W : World) (p : Nat) (mp wp : Option Addr) (s : St) : Prop :=
  W.heap[p]? = some (.cells #[.pointer mp, .int .i64 (s.most : Int), .pointer wp, .int .i64 (s.num : Int), .int .i64 (s.off : Int), .int .i64 (if s.bad = true then 15 else 0), .bool s.over] 70 (0, 0))
theorem Sb.lt {W : World} {p : Nat} {mp wp : Option Addr} {s : St} (h : Sb W p mp wp s) : p < W.heap.size := txt_lt h
theorem Sb.same {W W' : World} {p : Nat} {mp wp : Option Addr} {s : St} (h : Sb W p mp wp s) (e : W'.heap[p]? = W.heap[p]?) : Sb W' p mp wp s := e.trans h
theorem Sb.cells {W : World} {p : Nat} {mp wp : Option Addr} {s : St} (h : Sb W p mp wp s) : W.cell? ⟨p, 0, none⟩ = some (.pointer mp) ∧ W.cell? ⟨p, 1, none⟩ = some (.int .i64 (s.most : Int)) ∧ W.cell? ⟨p, 2, none⟩ = some (.pointer wp) ∧ W.cell? ⟨p, 3, none⟩ = some (.int .i64 (s.num : Int)) ∧
    W.cell? ⟨p, 4, none⟩ = some (.int .i64 (s.off : Int)) ∧ W.cell? ⟨p, 5, none⟩ = some (.int .i64 (if s.bad = true then 15 else 0)) ∧ W.cell? ⟨p, 6, none⟩ = some (.bool s.over) := by
  unfold Sb at h
  refine ⟨?_, ?_, ?_, ?_, ?_, ?_, ?_⟩ <;> (rw [cell_of_row W p _ _ 70 (0, 0) h]; rfl)
theorem Sb.free {W : World} {p : Nat} {mp wp : Option Addr} {s : St} (h : Sb W p mp wp s) (i : Nat) : W.frozen? ⟨p, i, none⟩ = false := by
  unfold Sb at h
  simp [World.frozen?, h]
/-- The window's pointer. -/
def wpOf (g : Nat) (s : St) : Option Addr := if s.bad = true then none else some ⟨g, 0, none⟩
/-- A stream and its meter, both made since W0. -/
structure Sm (W0 W : World) (p : Nat) (mp : Option Addr) (g : Nat) (d : Option Nat) (s : St) : Prop where
  sblk : Sb W p mp (wpOf g s) s
  swd : Win.Wd W g d mp s.w.held s.w.room
  smt : Met.Mt W mp 0 0 (s.hunt : Int) (s.w.move : Int)
  sbel : Below W0.heap.size W0 W
  sp0 : W0.heap.size ≤ p
  sg0 : W0.heap.size ≤ g
  sd0 : ∀ k, d = some k → W0.heap.size ≤ k
  sm0 : ∀ k, Met.blk mp = some k → W0.heap.size ≤ k ∧ k ≠ p ∧ k ≠ g ∧ d ≠ some k
  spg : p ≠ g
  spd : d ≠ some p
  sgl : g < W.heap.size
  sdl : ∀ k, d = some k → k < W.heap.size
theorem Sm.own0 {W0 W : World} {p g : Nat} {mp : Option Addr} {d : Option Nat} {s : St} (h : Sm W0 W p mp g d s) {k : Nat} (hk : Own p g d mp k) : W0.heap.size ≤ k := by
  rcases hk with rfl | rfl | hk | hk
  · exact h.sp0
  · exact h.sg0
  · exact h.sd0 k hk
  · exact (h.sm0 k hk).1
theorem Sm.ownl {W0 W : World} {p g : Nat} {mp : Option Addr} {d : Option Nat} {s : St} (h : Sm W0 W p mp g d s) {k : Nat} (hk : Own p g d mp k) : k < W.heap.size := by
  rcases hk with rfl | rfl | hk | hk
  · exact h.sblk.lt
  · exact h.sgl
  · exact h.sdl k hk
  · exact h.smt.lt hk.symm
/-- Other blocks have changed. -/
theorem Sm.ch {W0 W W' : World} {p g : Nat} {mp : Option Addr} {d : Option Nat} {s : St} (h : Sm W0 W p mp g d s) {X : Nat → Prop} (hc : Ch W W' X) (hX : ∀ k, X k → W0.heap.size ≤ k ∧ ¬ Own p g d mp k) : Sm W0 W' p mp g d s := by
  have hk : ∀ k, Own p g d mp k → W'.heap[k]? = W.heap[k]? := fun k hk => hc.cblk k (h.ownl hk) (fun e => (hX k e).2 hk)
  exact ⟨h.sblk.same (hk p (.inl rfl)), h.swd.same (hk g (.inr (.inl rfl))) (fun k e => hk k (.inr (.inr (.inl e)))), h.smt.same fun k e => hk k (.inr (.inr (.inr e.symm))), hc.below h.sbel h.sbel.size (fun k e => (hX k e).1), h.sp0, h.sg0, h.sd0, h.sm0, h.spg, h.spd, Nat.lt_of_lt_of_le h.sgl hc.csize, fun k e => Nat.lt_of_lt_of_le (h.sdl k e) hc.csize⟩
theorem Sm.keep {W0 W W' : World} {p g : Nat} {mp : Option Addr} {d : Option Nat} {s : St} (h : Sm W0 W p mp g d s) (hb : Below W.heap.size W W') : Sm W0 W' p mp g d s :=
  h.ch (X := fun _ => False) (Ch.of_below hb) (fun _ e => e.elim)
theorem snew_any (W0 w : World) (mp : Option Addr) (most : Int) (M : Nat) (hmx : max most 0 = (M : Int)) (hb : Below W0.heap.size W0 w) (hm : Met.Mt w mp 0 0 0 0) (h0 : ∀ k, Met.blk mp = some k → W0.heap.size ≤ k) :
    Calls Try.prog 13 #[.pointer mp, .int .i64 most] w fun e w' => ∃ p g, e = .returned (.pointer (some ⟨p, 0, none⟩)) ∧ w.heap.size ≤ p ∧ w.heap.size ≤ g ∧ Sm W0 w' p mp g none (stNew M) ∧ Below w.heap.size w w' := by
  have HM := Lib.hid hm
  have H0 := Lib.hid h0
  have HB := Lib.hid hb
  clear hm h0 hb
  go_enter Try.func13, Try.ntmps13
  go_wp2_with (go_at_call 25; (with_reducible refine (Win.wnew_any w mp).mono ?_); rintro e w1 ⟨g, rfl, hg, hw, hb⟩; have HG := Lib.hid hg; have HW := Lib.hid hw; have HB1 := Lib.hid hb; clear hg hw hb)
  go_ret
  have hb1 := HB1.out
  have hM1 := HM.out.keep hb1
  have hb2 : Below w1.heap.size w1 (w1.alloc (.cells #[.pointer mp, .int .i64 (M : Int), .pointer (some ⟨g, 0, none⟩), .int .i64 0, .int .i64 0, .int .i64 0, .bool false] 70)) := Met.below_new _ _
  have hg1 := HW.out.lt.1
  refine ⟨w1.heap.size, g, rfl, hb1.size, HG.out, ⟨heap_alloc_new w1 _, HW.out.keep hb2, hM1.keep hb2, HB.out.trans ((hb1.trans (hb2.mono hb1.size)).mono HB.out.size), Nat.le_trans HB.out.size hb1.size, Nat.le_trans HB.out.size HG.out, (fun k e => by cases e), fun k e => ⟨H0.out k e, fun e2 => ?_, fun e2 => ?_, fun e2 => by cases e2⟩, fun e => by omega, (fun e => by cases e), Nat.lt_of_lt_of_le hg1 hb2.size, fun k e => by cases e⟩, hb1.trans (hb2.mono hb1.size)⟩
  · have := hM1.lt e.symm; omega
  · have h1 := HM.out.lt e.symm; have h2 := HG.out; omega
/-- What Err answers. -/
def errOf (s : St) : Int := if s.bad = true then 15 else 0
def badNum (s : St) : Int := if s.bad = true then (s.num : Int) else 0
theorem serr_any (W0 w : World) (p : Nat) (mp : Option Addr) (g : Nat) (d : Option Nat) (s : St) (h : Sm W0 w p mp g d s) :
    Calls Try.prog 20 #[.pointer (some ⟨p, 0, none⟩)] w fun e w' => e = .returned (.tuple #[.int .i64 (errOf s), .int .i64 (badNum s)]) ∧ ∃ q, w' = w.drewN q := by
  obtain ⟨c0, c1, c2, c3, c4, c5, c6⟩ := h.sblk.cells
  have hlt := h.sblk.lt
  clear h
  unfold errOf badNum
  by_cases hb : s.bad = true
  · rw [if_pos hb] at c5 ⊢
    rw [if_pos hb]
    go_enter Try.func20, Try.ntmps20
    go_wp2_with fail
    go_quiet (fail)
    go_wp2
    refine bodyPost_ret (v := .tuple #[.int .i64 15, .int .i64 (s.num : Int)]) (by simp [results, Try.results20, go_sem]) rfl ?_
    exact ⟨rfl, _, rfl⟩
  · rw [if_neg hb] at c5 ⊢
    rw [if_neg hb]
    go_enter Try.func20, Try.ntmps20
    go_wp2_with fail
    refine bodyPost_ret (v := .tuple #[.int .i64 0, .int .i64 0]) (by simp [results, Try.results20, go_sem]) rfl ?_
    exact ⟨rfl, 0, rfl⟩
theorem serr_none (w : World) : Calls Try.prog 20 #[.pointer none] w fun e w' => e = .returned (.tuple #[.int .i64 0, .int .i64 0]) ∧ w' = w := by
  go_enter Try.func20, Try.ntmps20
  go_wp2_with fail
  refine bodyPost_ret (v := .tuple #[.int .i64 0, .int .i64 0]) (by simp [results, Try.results20, go_sem]) rfl ?_
  exact ⟨rfl, rfl⟩
/-- Stores to the struct alone. -/
theorem Sm.put {W0 W W' : World} {p g : Nat} {mp : Option Addr} {d : Option Nat} {s s' : St} (h : Sm W0 W p mp g d s) (hc : Ch W W' (fun k => k = p)) (hb : Sb W' p mp (wpOf g s') s') (hbad : s'.bad = false → s.bad = false) (hw : s'.w = s.w) (hh : s'.hunt = s.hunt) : Sm W0 W' p mp g d s' := by
  have hk : ∀ k, k ≠ p → k < W.heap.size → W'.heap[k]? = W.heap[k]? := fun k hk hl => hc.cblk k hl hk
  refine ⟨hb, ?_, ?_, hc.below h.sbel h.sbel.size (fun k e => by rw [e]; exact h.sp0), h.sp0, h.sg0, h.sd0, h.sm0, h.spg, h.spd, Nat.lt_of_lt_of_le h.sgl hc.csize, fun k e => Nat.lt_of_lt_of_le (h.sdl k e) hc.csize⟩
  · rw [hw]
    exact h.swd.same (hk g h.spg.symm h.sgl) (fun k e => hk k (fun e2 => h.spd (by rw [e, e2])) (h.sdl k e))
  · rw [hw, hh]
    exact h.smt.same fun k e => hk k (h.sm0 k e.symm).2.1 (h.smt.lt e)
theorem ch_set (W : World) (b i : Nat) (v : Value) : Ch W (W.setCell ⟨b, i, none⟩ v) (fun k => k = b) := Ch.of_grown (Met.grown_set W b i v) (fun k e _ => by cases e; rfl)
/-- Len, of a window that is there: it only reads. -/
theorem slen_any (W0 w : World) (p : Nat) (mp : Option Addr) (g : Nat) (d : Option Nat) (s : St) (h : Sm W0 w p mp g d s) (hbad : s.bad = false) (hr : s.w.room ≤ 1000000000) :
    Calls Try.prog 29 #[.pointer (some ⟨g, 0, none⟩)] w fun e w' => e = .returned (.int .i64 (s.w.held.length : Int)) ∧ w = w' := by
  obtain ⟨c0, c1, c2⟩ := Blk3.cells h.swd.1
  clear h
  go_enter Try.func29, Try.ntmps29
  go_wp2
  go_ret
  exact ⟨rfl, rfl⟩
def St.fail (s : St) : St := { s with over := true, bad := true }
theorem sfail_any (W0 w : World) (p : Nat) (mp : Option Addr) (g : Nat) (d : Option Nat) (s : St) (h : Sm W0 w p mp g d s) :
    Calls Try.prog 30 #[.pointer (some ⟨p, 0, none⟩)] w fun e w' => e = .returned (.tuple #[]) ∧ Sm W0 w' p mp g d (St.fail s) ∧ Ch w w' (fun k => k = p) := by
  obtain ⟨c0, c1, c2, c3, c4, c5, c6⟩ := h.sblk.cells
  have f := h.sblk.free
  have hlt := h.sblk.lt
  have f2 := f 2
  have f5 := f 5
  have f6 := f 6
  have H := Lib.hid h
  clear h f
  go_enter Try.func30, Try.ntmps30
  go_wp2
  go_end0
  have hc : Ch w (((w.setCell ⟨p, 5, none⟩ (.int .i64 15)).setCell ⟨p, 6, none⟩ (.bool true)).setCell ⟨p, 2, none⟩ (.pointer none)) (fun k => k = p) := ((ch_set _ _ _ _).trans (ch_set _ _ _ _) (fun _ _ h => h)).trans (ch_set _ _ _ _) (fun _ _ h => h)
  refine ⟨rfl, H.out.put hc ?_ (fun e => by cases e) rfl rfl, hc⟩
  have hb := H.out.sblk
  unfold Sb at hb ⊢
  rw [heap_set_same (heap_set_same (heap_set_same hb))]
  rfl
end Go.Proofs.Ytcekifknbljbiaa.Str
