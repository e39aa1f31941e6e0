/- What whole and line answer. -/
import Derived.Test.YtcekifknbljbiaaStrA1
namespace Go.Proofs.Ytcekifknbljbiaa.Str
open Go.Proofs.Ytcekifknbljbiaa.Stm Go.Proofs.Ytcekifknbljbiaa.Reg Go.RowKit Go.Maps
set_option maxRecDepth 100000
set_option linter.unusedVariables false

theorem wadd_is (x : Wn) (b : Tx) : (x.add b).move = x.move + ((Wn.mk x.held x.room 0).add b).move ∧ (x.add b).room = ((Wn.mk x.held x.room 0).add b).room := by
  unfold Wn.add
  split
  · exact ⟨rfl, rfl⟩
  · split
    · exact ⟨by simp only; omega, rfl⟩
    · exact ⟨by simp only; omega, rfl⟩
/-- A new row, or the one that was. -/
def Nd (w : World) (d d' : Option Nat) : Prop := d' = d ∨ ∃ k, d' = some k ∧ w.heap.size ≤ k
theorem Nd.trans {w w' : World} {d d' d'' : Option Nat} (h : Nd w d d') (h' : Nd w' d' d'') (hs : w.heap.size ≤ w'.heap.size) : Nd w d d'' := by
  rcases h' with rfl | ⟨k, rfl, hk⟩
  · exact h
  · exact .inr ⟨k, rfl, Nat.le_trans hs hk⟩
theorem Nd.own {w : World} {d d' : Option Nat} (h : Nd w d d') {p g : Nat} {mp : Option Addr} {k : Nat} (hk : k < w.heap.size) (ho : Own p g d' mp k) : Own p g d mp k := by
  rcases ho with h1 | h1 | h1 | h1
  · exact .inl h1
  · exact .inr (.inl h1)
  · rcases h with rfl | ⟨j, rfl, hj⟩
    · exact .inr (.inr (.inl h1))
    · cases h1; omega
  · exact .inr (.inr (.inr h1))
/-- Bytes that lie in memory, apart from a stream's own blocks. -/
def Bx (w : World) (p g : Nat) (d : Option Nat) (mp : Option Addr) (a : Option Addr) (b : Tx) : Prop := Bs w w.heap.size a b ∧ (0 < b.length → ∀ ad : Addr, a = some ad → ¬ Own p g d mp ad.block)
theorem Bx.mem {w : World} {p g : Nat} {d : Option Nat} {mp a : Option Addr} {b : Tx} (h : Bx w p g d mp a b) : Bs w w.heap.size a b := h.1
theorem bs_at {w : World} {B : Nat} {a : Option Addr} {b : Tx} (h : Bs w B a b) (h0 : 0 < b.length) {ad : Addr} (e : a = some ad) : ad.block < B := by
  obtain ⟨k, off, e2, hlt, _⟩ := h h0
  rw [e2] at e; cases e; exact hlt
theorem Bx.ch {w w' : World} {p g : Nat} {d d' : Option Nat} {mp a : Option Addr} {b : Tx} (h : Bx w p g d mp a b) (hc : Ch w w' (Own p g d mp)) (hd : Nd w d d') : Bx w' p g d' mp a b :=
  ⟨(hc.bs h.1 (Nat.le_refl _) h.2).more hc.csize, fun h0 ad e ho => h.2 h0 ad e (hd.own (bs_at h.1 h0 e) ho)⟩
theorem Bx.keep {w w' : World} {p g : Nat} {d : Option Nat} {mp a : Option Addr} {b : Tx} (h : Bx w p g d mp a b) (hc : Below w.heap.size w w') : Bx w' p g d mp a b := ⟨(h.1.keep hc).more hc.size, h.2⟩
theorem Bx.sub {w : World} {p g : Nat} {d : Option Nat} {mp : Option Addr} {k off : Nat} {b : Tx} (h : Bx w p g d mp (some ⟨k, off, none⟩) b) (i n : Nat) (hn : i + n ≤ b.length) : Bx w p g d mp (some ⟨k, off + i, none⟩) ((b.drop i).take n) := by
  refine ⟨fun h0 => ?_, fun h0 ad e => ?_⟩
  · have hl : ((b.drop i).take n).length = n := by simp; omega
    obtain ⟨k', off', e, hlt, hc⟩ := h.1 (by omega)
    cases e
    refine ⟨k, off + i, rfl, hlt, fun j hj => ?_⟩
    have := hc (i + j) (by omega)
    rw [Nat.add_assoc, this]
    simp
  · have hl : ((b.drop i).take n).length = n := by simp; omega
    cases e
    exact h.2 (by omega) ⟨k, off, none⟩ rfl
/-- What is added to the window. -/
theorem Sm.added {W0 w w' : World} {p g : Nat} {mp : Option Addr} {d : Option Nat} {s : St} (h : Sm W0 w p mp g d s) (hbad : s.bad = false) (b : Tx) {e : Ending} (hg : Win.GivesAdd w g d mp s.w.held s.w.room b 0 0 (s.hunt : Int) (s.w.move : Int) e w') :
    e = .returned (.tuple #[]) ∧ ∃ d', Nd w d d' ∧ Sm W0 w' p mp g d' { s with w := s.w.add b } ∧ Ch w w' (Own p g d mp) := by
  obtain ⟨rfl, d', hd, hw, hm, ht⟩ := hg
  have hc : Ch w w' (Own p g d mp) := Ch.of_touch ht (.inr (.inl rfl)) (fun k e => .inr (.inr (.inl e))) (fun k e => .inr (.inr (.inr e)))
  refine ⟨rfl, d', hd, ⟨?_, ?_, ?_, hc.below h.sbel h.sbel.size (fun k e => h.own0 e), h.sp0, h.sg0, ?_, ?_, h.spg, ?_, Nat.lt_of_lt_of_le h.sgl hc.csize, hw.lt.2⟩, hc⟩
  · exact h.sblk.same (ht.block p h.sblk.lt h.spg h.spd (fun e => (h.sm0 p e).2.1 rfl))
  · rw [(wadd_is s.w b).2, Wn.add_held]; exact hw
  · rw [(wadd_is s.w b).1]; simpa using hm
  · intro k e
    rcases hd with rfl | ⟨j, rfl, hj⟩
    · exact h.sd0 k e
    · cases e; exact Nat.le_trans h.sbel.size hj
  · intro k e
    refine ⟨(h.sm0 k e).1, (h.sm0 k e).2.1, (h.sm0 k e).2.2.1, ?_⟩
    rcases hd with rfl | ⟨j, rfl, hj⟩
    · exact (h.sm0 k e).2.2.2
    · intro e2; cases e2
      have := h.smt.lt e.symm
      omega
  · rcases hd with rfl | ⟨j, rfl, hj⟩
    · exact h.spd
    · intro e2; cases e2
      have := h.sblk.lt
      omega
theorem Sm.cleared {W0 w w' : World} {p g : Nat} {mp : Option Addr} {d : Option Nat} {s : St} (h : Sm W0 w p mp g d s) (hw : Win.Wd w' g d mp [] s.w.room) (ht : Win.Touch w w' g none none) : Sm W0 w' p mp g d { s with w := s.w.clear } ∧ Ch w w' (fun k => k = g) := by
  have hc : Ch w w' (fun k => k = g) := Ch.of_touch ht rfl (fun k e => by cases e) (fun k e => by cases e)
  exact ⟨⟨h.sblk.same (hc.cblk p h.sblk.lt h.spg), hw, h.smt.same fun k e => hc.cblk k (h.smt.lt e) (h.sm0 k e.symm).2.2.1, hc.below h.sbel h.sbel.size (fun k e => by rw [e]; exact h.sg0), h.sp0, h.sg0, h.sd0, h.sm0, h.spg, h.spd, Nat.lt_of_lt_of_le h.sgl hc.csize, fun k e => Nat.lt_of_lt_of_le (h.sdl k e) hc.csize⟩, hc⟩
theorem Sm.wlen {W0 w : World} {p g : Nat} {mp : Option Addr} {d : Option Nat} {s : St} (h : Sm W0 w p mp g d s) (hbad : s.bad = false) (hr : s.w.room ≤ 1000000000) :
    Calls Try.prog 29 #[.pointer (some ⟨g, 0, none⟩)] w fun e w' => e = .returned (.int .i64 (s.w.held.length : Int)) ∧ Below w.heap.size w w' := Win.wlen_any w g d mp s.w.held s.w.room h.swd hr
theorem Sm.wadd {W0 w : World} {p g : Nat} {mp : Option Addr} {d : Option Nat} {s : St} (h : Sm W0 w p mp g d s) (hbad : s.bad = false) (hr : s.w.room ≤ 1000000000) (b : Tx) (a : Option Addr) (n c : Nat) (hn : b.length = n) (hb : Bx w p g d mp a b) (hl : b.length ≤ 1000000000) (hh : s.hunt ≤ 1000000000) (hm : s.w.move ≤ 1000000000) :
    Calls Try.prog 31 #[.pointer (some ⟨g, 0, none⟩), .slice a n c] w fun e w' => e = .returned (.tuple #[]) ∧ ∃ d', Nd w d d' ∧ Sm W0 w' p mp g d' { s with w := s.w.add b } ∧ Ch w w' (Own p g d mp) := by
  subst hn
  exact (Win.wadd_any w g d mp s.w.held s.w.room h.swd b a c hb.1 (fun h0 ad e => ⟨fun e2 => hb.2 h0 ad e (.inr (.inl e2)), fun e2 => hb.2 h0 ad e (.inr (.inr (.inl e2)))⟩) hr hl 0 0 s.hunt s.w.move h.smt (by omega) (by omega) (by omega) (by omega) (fun k e => (h.sm0 k e).2.2)).mono fun e w' hg => h.added hbad b hg
theorem Sm.wclear {W0 w : World} {p g : Nat} {mp : Option Addr} {d : Option Nat} {s : St} (h : Sm W0 w p mp g d s) (hbad : s.bad = false) (hr : s.w.room ≤ 1000000000) :
    Calls Try.prog 44 #[.pointer (some ⟨g, 0, none⟩)] w fun e w' => e = .returned (.tuple #[]) ∧ Sm W0 w' p mp g d { s with w := s.w.clear } ∧ Ch w w' (fun k => k = g) := by
  refine (Win.wclear_any w g d mp s.w.held s.w.room h.swd hr).mono ?_
  rintro e w' ⟨rfl, hw, ht⟩
  exact ⟨rfl, h.cleared hw ht⟩
/-- Bytes that lie apart from a stream's own blocks. -/
def Ap (p g : Nat) (d : Option Nat) (mp a : Option Addr) (b : Tx) : Prop := 0 < b.length → ∀ ad : Addr, a = some ad → ¬ Own p g d mp ad.block
theorem ap_new {W : World} {s : Nat} {p g : Nat} {d : Option Nat} {mp a : Option Addr} {b : Tx} (h : Txt W s a b) (hn : ∀ k, Own p g d mp k → k < s) : Ap p g d mp a b := fun h0 ad e ho => by
  obtain ⟨k, cs, e2, hk, _⟩ := h h0
  rw [e2] at e; cases e
  have := hn _ ho
  simp only at this
  omega
theorem Ap.nd {w W : World} {s : Nat} {p g : Nat} {d d' : Option Nat} {mp a : Option Addr} {b : Tx} (h : Ap p g d mp a b) (hd : Nd w d d') (hT : Txt w s a b) : Ap p g d' mp a b := fun h0 ad e ho => by
  obtain ⟨k, cs, e2, hk, hh, _⟩ := hT h0
  refine h h0 ad e (hd.own ?_ ho)
  rw [e2] at e; cases e
  exact txt_lt hh
def lineW (s : St) (b : Tx) : Wn := if s.w.held = [] then s.w else (s.w.add b).clear
/-- All bytes of a line that ends with some. -/
def lineT (s : St) (b : Tx) : Tx := s.w.held ++ b
theorem lineT_len (s : St) (b : Tx) : (lineT s b).length = s.w.held.length + b.length := List.length_append
/-- All bytes of the line that ends with some. -/
def GivesWhole (W0 w : World) (p : Nat) (mp : Option Addr) (g : Nat) (d : Option Nat) (s : St) (b : Tx) (e : Ending) (w' : World) : Prop :=
  ∃ a c, e = .returned (.slice a (lineT s b).length c) ∧ Txt w' w.heap.size a (lineT s b) ∧ ∃ d', Nd w d d' ∧ Sm W0 w' p mp g d' { s with w := lineW s b } ∧ Ch w w' (Own p g d mp) ∧ Ap p g d' mp a (lineT s b)
theorem room_le {n : Nat} {x : Wn} (h : WInv n x) (hr : x.room ≤ 16 + 2 * n) (b : Tx) : (x.add b).room ≤ 16 + 2 * (n + b.length) := by
  have := h.came
  unfold Wn.add grown
  split
  · omega
  · split
    · simp only; omega
    · simp only; omega
/-- So many bytes were added. -/
structure Rv (n : Nat) (x : Wn) : Prop where
  rinv : WInv n x
  rroom : x.room ≤ 16 + 2 * n
theorem rv_new : Rv 0 wnNew := ⟨winv_new, by decide⟩
theorem Rv.add {n : Nat} {x : Wn} (h : Rv n x) (b : Tx) : Rv (n + b.length) (x.add b) := ⟨h.rinv.add b, room_le h.rinv h.rroom b⟩
theorem Rv.clear {n : Nat} {x : Wn} (h : Rv n x) : Rv n x.clear := ⟨h.rinv.clear, h.rroom⟩
set_option maxHeartbeats 1000000 in
theorem swhole_any (W0 w : World) (p : Nat) (mp : Option Addr) (g : Nat) (d : Option Nat) (s : St) (h : Sm W0 w p mp g d s) (hbad : s.bad = false) (n : Nat) (hv : Rv n s.w) (hn : n ≤ 1000000) (hh : s.hunt ≤ 1000000000) (b : Tx) (a : Option Addr) (c : Nat) (hb : Bx w p g d mp a b) (hl : b.length ≤ 1000000) :
    Calls Try.prog 35 #[.pointer (some ⟨p, 0, none⟩), .slice a b.length c] w (GivesWhole W0 w p mp g d s b) := by
  have hr : s.w.room ≤ 1000000000 := by have := hv.rroom; omega
  have hm : s.w.move ≤ 1000000000 := by have := hv.rinv.most; omega
  have hwp : wpOf g s = some ⟨g, 0, none⟩ := by unfold wpOf; rw [if_neg (by rw [hbad]; decide)]
  have hcl := h.sblk.cells
  have hlt := h.sblk.lt
  rw [hwp] at hcl
  obtain ⟨c0, c1, c2, c3, c4, c5, c6⟩ := hcl
  have LE := Lib.hid (h.wlen hbad hr)
  have H := Lib.hid h
  have HB := Lib.hid hb
  have HV := Lib.hid hv
  have HWP := Lib.hid hwp
  clear h hb hv c1 c3 c4 c5 c6 c0 hwp
  by_cases he : s.w.held = []
  · have hz : ((s.w.held.length : Nat) : Int) = 0 := by rw [he]; rfl
    rw [hz] at LE
    have HE := Lib.hid he
    clear he
    go_enter Try.func35, Try.ntmps35
    go_wp2_with (first
      | (go_at_call 29; (with_reducible refine LE.out.mono ?_); rintro e w1 ⟨rfl, hb1⟩; have HB1 := Lib.hid hb1; clear hb1)
      | (go_at_call 40; (with_reducible refine (Met.clone_any b a c w1 (by omega) (HB.out.keep HB1.out).mem).mono ?_); rintro e w2 ⟨a2, c2', rfl, ht, hc, hnn, hb2⟩; have HT := Lib.hid ht; have HB2 := Lib.hid hb2; clear ht hc hnn hb2))
    go_ret
    have hb2 := HB1.out.trans (HB2.out.mono HB1.out.size)
    have hs1 := HB1.out.size
    refine ⟨a2, c2', ?_, ?_, d, .inl rfl, ?_, Ch.of_below hb2, ap_new (W := w2) (s := w1.heap.size) ?_ (fun k hk => Nat.lt_of_lt_of_le (H.out.ownl hk) hs1)⟩
    · rw [lineT, HE.out]; rfl
    · rw [lineT, HE.out]; exact HT.out.less HB1.out.size
    · have e : ({ s with w := lineW s b } : St) = s := by unfold lineW; rw [if_pos HE.out]
      rw [e]
      exact H.out.keep hb2
    · rw [lineT, HE.out]; exact HT.out
  · have hz : ¬ ((s.w.held.length : Nat) : Int) = 0 := by
      have := List.length_pos_iff.2 he
      omega
    have HE := Lib.hid he
    clear he
    go_enter Try.func35, Try.ntmps35
    go_wp2_with (first
      | (go_at_call 29; (with_reducible refine LE.out.mono ?_); rintro e w1 ⟨rfl, hb1⟩; have q2 := (H.out.keep hb1).sblk.cells.2.2.1; rw [HWP.out] at q2; have HB1 := Lib.hid hb1; clear hb1 c2)
      | (go_at_call 31; (with_reducible refine ((H.out.keep HB1.out).wadd hbad hr b a b.length c rfl (HB.out.keep HB1.out) (by omega) hh hm).mono ?_); rintro e w2 ⟨rfl, d', hd, h2, hc2⟩; have q3 := h2.sblk.cells.2.2.1; rw [show wpOf g { s with w := s.w.add b } = some ⟨g, 0, none⟩ from HWP.out] at q3; have HD := Lib.hid hd; have H2 := Lib.hid h2; have HC2 := Lib.hid hc2; clear hd h2 hc2 q2)
      | (go_at_call 43; (with_reducible refine (Win.wbytes_any w2 g d' mp (s.w.add b).held (s.w.add b).room H2.out.swd (by have := (HV.out.add b).rroom; omega)).mono ?_); rintro e w3 ⟨a3, c3, rfl, ht, hc, hnn, hb3⟩; have q4 := (H2.out.keep hb3).sblk.cells.2.2.1; rw [show wpOf g { s with w := s.w.add b } = some ⟨g, 0, none⟩ from HWP.out] at q4; have HT := Lib.hid ht; have HB3 := Lib.hid hb3; clear ht hc hnn hb3 q3)
      | (go_at_call 44; (with_reducible refine ((H2.out.keep HB3.out).wclear hbad (by have := (HV.out.add b).rroom; simp only; omega)).mono ?_); rintro e w4 ⟨rfl, h4, hc4⟩; have H4 := Lib.hid h4; have HC4 := Lib.hid hc4; clear h4 hc4))
    go_ret
    have hs1 := HB1.out.size
    have hs2 := HC2.out.csize
    have hs3 := HB3.out.size
    have hgl := H.out.sgl
    have hc1 : Ch w w1 (Own p g d mp) := Ch.of_below HB1.out
    have hc2 : Ch w w2 (Own p g d mp) := hc1.trans HC2.out (fun _ _ h => h)
    have hc3 : Ch w w3 (Own p g d mp) := hc2.trans (Ch.of_below (X := fun _ => False) HB3.out) (fun _ _ h => h.elim)
    refine ⟨a3, c3, ?_, ?_, d', ?_, ?_, hc3.trans HC4.out (fun k _ e => .inr (.inl e)), ap_new (W := w3) (s := w2.heap.size) ?_ (fun k hk => H2.out.ownl hk)⟩
    · rw [lineT, Wn.add_held]; rfl
    · have ht := HT.out
      rw [Wn.add_held] at ht
      rw [lineT]
      exact HC4.out.txt (ht.less (by omega)) (fun k e hk _ => by omega)
    · rcases HD.out with h | ⟨k, rfl, hk⟩
      · exact .inl h
      · exact .inr ⟨k, rfl, by omega⟩
    · have e : ({ s with w := lineW s b } : St) = { s with w := (s.w.add b).clear } := by unfold lineW; rw [if_neg HE.out]
      rw [e]
      exact H4.out
    · rw [lineT, ← Wn.add_held]; exact HT.out
end Go.Proofs.Ytcekifknbljbiaa.Str
