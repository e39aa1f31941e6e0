/- Lines that are told, in memory; what the closure of Feed answers. -/
import Derived.Test.YtcekifknbljbiaaStrA3
namespace Go.Proofs.Ytcekifknbljbiaa.Str
open Go.Proofs.Ytcekifknbljbiaa.Stm Go.Proofs.Ytcekifknbljbiaa.Reg Go.RowKit Go.Maps
set_option maxRecDepth 100000
set_option linter.unusedVariables false

/-- A line in memory. -/
structure SlV where
  sl : Sl
  a : Option Addr
  cap : Nat
def scells (x : SlV) : List Value := [.int .i64 (x.sl.num : Int), .int .i64 (x.sl.off : Int), .slice x.a x.sl.text.length x.cap]
theorem infoL : (Try.prog.info? 47).map (fun i => (i.zero, i.size, i.bytes)) = some (some (.agg #[.int .i64 0, .int .i64 0, .slice none 0 0]), 3, 40) := by kernel_rfl
theorem slice_mid (a : Option Addr) (n c i j : Nat) (hi : i ≤ j) (hj : j ≤ n) (hn : n ≤ c) (ha : a = none → c = 0) (w : World) :
    (Instr.slice 38 (.slice a n c) (some (.int .i64 (i : Int))) (some (.int .i64 (j : Int))) none).run Try.prog w = .ok (.slice (if c = i then a else a.map (fun x => x.add i)) (j - i) (c - i)) w := by
  have hjc : j ≤ c := by omega
  rcases a with _ | k
  · have := ha rfl
    subst this
    have e1 : i = 0 := by omega
    have e2 : j = 0 := by omega
    subst e1; subst e2
    go_simp
  · go_simp
theorem slice_tail (a : Option Addr) (n c i : Nat) (hi : i ≤ n) (hn : n ≤ c) (ha : a = none → c = 0) (w : World) :
    (Instr.slice 38 (.slice a n c) (some (.int .i64 (i : Int))) none none).run Try.prog w = .ok (.slice (if c = i then a else a.map (fun x => x.add i)) (n - i) (c - i)) w := by
  rcases a with _ | k
  · have := ha rfl
    subst this
    have e1 : i = 0 := by omega
    have e2 : n = 0 := by omega
    subst e1; subst e2
    go_simp
  · go_simp
/-- The bytes between two places lie there. -/
theorem Bx.cut {w : World} {p g : Nat} {d : Option Nat} {mp a : Option Addr} {b : Tx} (h : Bx w p g d mp a b) (c i j : Nat) (hi : i ≤ j) (hj : j ≤ b.length) (hc : b.length ≤ c) : Bx w p g d mp (if c = i then a else a.map (fun x => x.add i)) (mid b i j) := by
  have hl := mid_len b i j hj
  rcases Nat.eq_or_lt_of_le hi with e | e
  · subst e
    rw [mid_self]
    exact ⟨bs_nil _ _ _, fun h0 => absurd h0 (Nat.lt_irrefl _)⟩
  · rw [if_neg (by omega)]
    obtain ⟨k, off, rfl, _, _⟩ := h.1 (by omega)
    have := h.sub i (j - i) (by omega)
    have e2 : (⟨k, off, none⟩ : Addr).add i = ⟨k, off + i, none⟩ := by unfold Addr.add; split <;> simp_all
    have e3 : mid b i j = (b.drop i).take (j - i) := by unfold mid; rw [List.drop_take]
    show Bx w p g d mp (some ((⟨k, off, none⟩ : Addr).add i)) (mid b i j)
    rw [e2, e3]
    exact this
/-- While Feed goes: its boxes (from block N on), what was told, the stream. -/
structure Lp (W0 w W : World) (N p : Nat) (mp : Option Addr) (g : Nat) (d0 d : Option Nat) (s : St) (a : Option Addr) (b : Tx) (c f : Nat) (pre : List SlV) (v : Value) : Prop where
  ls : Boxed W N 27 (.pointer (some ⟨p, 0, none⟩))
  lc : Boxed W (N + 1) 38 (.slice a b.length c)
  lt : Boxed W (N + 2) 35 v
  lf : Boxed W (N + 3) 3 (.int .i64 (f : Int))
  lr : W.ownsRow (N + 4) 47 3 v pre.length (pre.flatMap scells)
  lx : ∀ x ∈ pre, Txt W (N + 4) x.a x.sl.text ∧ Ap p g d mp x.a x.sl.text
  lm : Sm W0 W p mp g d s
  lb : Bx W p g d mp a b
  lbN : 0 < b.length → ∀ ad : Addr, a = some ad → ad.block < N
  lch : Ch w W (Own p g d0 mp)
  lnd : Nd w d0 d
  lN : w.heap.size = N
  lown : ∀ k, Own p g d0 mp k → k < N
  lsz : N + 4 ≤ W.heap.size
/-- A block that is no part of the stream's: by its type. -/
theorem not_own {W0 W : World} {p g : Nat} {mp : Option Addr} {d : Option Nat} {s : St} (h : Sm W0 W p mp g d s) {k : Nat} {cs : Array Value} {t : TypeId} {fr : Nat × Nat} (hk : W.heap[k]? = some (.cells cs t fr)) (h1 : t ≠ 70) (h2 : t ≠ 84) (h3 : t ≠ 5) (h4 : t ≠ 66) : ¬ Own p g d mp k := by
  rintro (e | e | e | e)
  · subst e
    have := h.sblk
    unfold Sb at this
    rw [this] at hk
    injection hk with hk; injection hk with _ hk _
    exact h1 hk.symm
  · subst e
    have := h.swd.1
    unfold Blk3 at this
    rw [this] at hk
    injection hk with hk; injection hk with _ hk _
    exact h2 hk.symm
  · obtain ⟨_, _, _, t', _, _, h6⟩ := h.swd
    have := (h6 k e).2
    unfold Win.Row at this
    rw [this] at hk
    injection hk with hk; injection hk with _ hk _
    exact h3 hk.symm
  · exact h.smt.not hk h4 e.symm
theorem own_row {W W' : World} {m e size n : Nat} {v : Value} {xs : List Value} (h : W.ownsRow m e size v n xs) (hk : ∀ k cs, v.ownBlock = some k → W.heap[k]? = some (.cells cs e (0, 0)) → W'.heap[k]? = W.heap[k]?) : W'.ownsRow m e size v n xs := by
  refine ⟨h.1, h.2.imp id ?_⟩
  rintro ⟨g, cap, cur, hv, hg, hh, r⟩
  exact ⟨g, cap, cur, hv, hg, (hk g cur (by rw [hv]; rfl) hh).trans hh, r⟩
/-- The stream's own blocks have changed. -/
theorem Lp.ch {W0 w W W' : World} {N p g : Nat} {mp : Option Addr} {d0 d d' : Option Nat} {s s' : St} {a : Option Addr} {b : Tx} {c f : Nat} {pre : List SlV} {v : Value} (h : Lp W0 w W N p mp g d0 d s a b c f pre v) (hbad : s.bad = false) (hc : Ch W W' (Own p g d mp)) (hd : Nd W d d') (hm : Sm W0 W' p mp g d' s') : Lp W0 w W' N p mp g d0 d' s' a b c f pre v := by
  have hbx : ∀ {k : Nat} {t : TypeId} {u : Value}, Boxed W k t u → t ≠ 70 → t ≠ 84 → t ≠ 5 → t ≠ 66 → Boxed W' k t u := fun hb h1 h2 h3 h4 => (hc.cblk _ hb.lt (not_own h.lm hb h1 h2 h3 h4)).trans hb
  have hN := h.lN
  have hsz := h.lsz
  refine ⟨hbx h.ls (by decide) (by decide) (by decide) (by decide), hbx h.lc (by decide) (by decide) (by decide) (by decide), hbx h.lt (by decide) (by decide) (by decide) (by decide), hbx h.lf (by decide) (by decide) (by decide) (by decide), own_row h.lr (fun k cs _ hh => hc.cblk k (txt_lt hh) (not_own h.lm hh (by decide) (by decide) (by decide) (by decide))), fun x hx => ?_, hm, h.lb.ch hc hd, h.lbN, h.lch.trans hc (fun k hk e => ?_), h.lnd.trans hd h.lch.csize, hN, h.lown, Nat.le_trans hsz hc.csize⟩
  · obtain ⟨h1, h2⟩ := h.lx x hx
    refine ⟨fun h0 => ?_, h2.nd (W := W) hd h1⟩
    obtain ⟨k, cs, e, hk, hh, hcs⟩ := h1 h0
    exact ⟨k, cs, e, hk, (hc.cblk k (txt_lt hh) (h2 h0 _ e)).trans hh, hcs⟩
  · exact h.lnd.own hk e
theorem Lp.keep {W0 w W W' : World} {N p g : Nat} {mp : Option Addr} {d0 d : Option Nat} {s : St} {a : Option Addr} {b : Tx} {c f : Nat} {pre : List SlV} {v : Value} (h : Lp W0 w W N p mp g d0 d s a b c f pre v) (hb : Below W.heap.size W W') : Lp W0 w W' N p mp g d0 d s a b c f pre v :=
  ⟨(hb.block _ h.ls.lt).trans h.ls, (hb.block _ h.lc.lt).trans h.lc, (hb.block _ h.lt.lt).trans h.lt, (hb.block _ h.lf.lt).trans h.lf, own_keep h.lr hb, fun x hx => ⟨(h.lx x hx).1.keep hb, (h.lx x hx).2⟩, h.lm.keep hb, h.lb.keep hb, h.lbN, h.lch.trans (Ch.of_below (X := fun _ => False) hb) (fun _ _ h => h.elim), h.lnd, h.lN, h.lown, Nat.le_trans h.lsz hb.size⟩
/-- What was told, one line more. -/
theorem Lp.tells {W0 w W W1 W2 : World} {N p g : Nat} {mp : Option Addr} {d0 d : Option Nat} {s : St} {a : Option Addr} {b : Tx} {c f : Nat} {pre : List SlV} {v v' : Value} {x : SlV} (h : Lp W0 w W N p mp g d0 d s a b c f pre v) (hbad : s.bad = false) (hx : Txt W (N + 4) x.a x.sl.text ∧ Ap p g d mp x.a x.sl.text) (hb : Below W.heap.size W W1)
    (hown : W2.ownsRow (N + 4) 47 3 v' (pre.length + 1) (pre.flatMap scells ++ scells x)) (hg : W1.grownBy W2 v.ownBlock) (n : Nat) :
    Lp W0 w ((W2.setCell ⟨N + 2, 0, none⟩ v').setCell ⟨N + 3, 0, none⟩ (.int .i64 (n : Int))) N p mp g d0 d s a b c n (pre ++ [x]) v' := by
  have h1 := h.keep hb
  have hrow : ∀ k, v.ownBlock = some k → N + 4 ≤ k ∧ k < W1.heap.size ∧ ∃ cs, W1.heap[k]? = some (.cells cs 47 (0, 0)) := fun k e => own_block_lt h1.lr e
  have hrow2 : ∀ k, v'.ownBlock = some k → N + 4 ≤ k := fun k e => (own_block_lt hown e).1
  have hN := h.lN
  have hsz := h1.lsz
  have hch2 : Ch W1 W2 (fun k => v.ownBlock = some k) := Ch.of_grown hg (fun k e _ => e)
  have hb2 : ∀ {k : Nat}, k < N + 4 → W2.heap[k]? = W1.heap[k]? := fun hk => hch2.cblk _ (by omega) (fun e => by have := (hrow _ e).1; omega)
  have hch3 : Ch W2 ((W2.setCell ⟨N + 2, 0, none⟩ v').setCell ⟨N + 3, 0, none⟩ (.int .i64 (n : Int))) (fun k => k = N + 2 ∨ k = N + 3) := ((ch_set W2 (N + 2) 0 v').more (fun k e => .inl e)).trans ((ch_set _ (N + 3) 0 _).more (fun k e => .inr e)) (fun _ _ h => h)
  have hX : Ch W1 ((W2.setCell ⟨N + 2, 0, none⟩ v').setCell ⟨N + 3, 0, none⟩ (.int .i64 (n : Int))) (fun k => v.ownBlock = some k ∨ k = N + 2 ∨ k = N + 3) := (hch2.more (fun k e => .inl e)).trans (hch3.more (fun k e => .inr e)) (fun _ _ h => h)
  have hown2 : (W2.setCell ⟨N + 2, 0, none⟩ v').ownsRow (N + 4) 47 3 v' (pre.length + 1) (pre.flatMap scells ++ scells x) := own_row hown (fun k cs e _ => Below.heap_setCell _ _ _ _ (by have := hrow2 k e; show k ≠ N + 2; omega))
  have hs2 : Boxed W2 (N + 2) 35 v := (hb2 (by omega)).trans h1.lt
  have hf2 : Boxed W2 (N + 3) 3 (.int .i64 (f : Int)) := (hb2 (by omega)).trans h1.lf
  have hno : ∀ k, v.ownBlock = some k ∨ k = N + 2 ∨ k = N + 3 → N ≤ k ∧ ¬ Own p g d mp k := by
    rintro k (e | rfl | rfl)
    · obtain ⟨q1, _, cs, q2⟩ := hrow k e
      exact ⟨by omega, not_own h1.lm q2 (by decide) (by decide) (by decide) (by decide)⟩
    · exact ⟨by omega, not_own h1.lm h1.lt (by decide) (by decide) (by decide) (by decide)⟩
    · exact ⟨by omega, not_own h1.lm h1.lf (by decide) (by decide) (by decide) (by decide)⟩
  have hW0 : W0.heap.size ≤ N := by
    have h3 := h.lm.sp0
    have h4 := h.lown p (.inl rfl)
    omega
  have htx : ∀ {s : Nat} {y : Option Addr} {t : Tx}, N + 4 ≤ s → Txt W1 s y t → Txt ((W2.setCell ⟨N + 2, 0, none⟩ v').setCell ⟨N + 3, 0, none⟩ (.int .i64 (n : Int))) s y t := fun hs ht => hX.txt ht (fun k e hk _ cs hh => by
    rcases e with e | e | e
    · obtain ⟨_, _, cs', q2⟩ := hrow k e
      rw [q2] at hh
      injection hh with hh; injection hh with _ hh _
      exact absurd hh (by decide)
    · omega
    · omega)
  refine ⟨?_, ?_, ?_, ?_, ?_, fun y hy => ?_, h1.lm.ch hX (fun k e => ⟨Nat.le_trans hW0 (hno k e).1, (hno k e).2⟩), ⟨?_, h1.lb.2⟩, h.lbN, h1.lch.trans hX (fun k hk e => ?_), h.lnd, hN, h.lown, Nat.le_trans hsz hX.csize⟩
  · exact (hX.cblk _ (by omega) (by rintro (e | e | e); exact absurd (hrow _ e).1 (by omega); omega; omega)).trans h1.ls
  · exact (hX.cblk _ (by omega) (by rintro (e | e | e); exact absurd (hrow _ e).1 (by omega); omega; omega)).trans h1.lc
  · exact (Below.heap_setCell _ _ _ _ (by show N + 2 ≠ N + 3; omega)).trans (hs2.set v')
  · exact Boxed.set _ ((Below.heap_setCell _ _ _ _ (by show N + 3 ≠ N + 2; omega)).trans hf2)
  · have e1 : (pre ++ [x]).flatMap scells = pre.flatMap scells ++ scells x := by simp
    have e2 : (pre ++ [x]).length = pre.length + 1 := by simp
    rw [e1, e2]
    exact own_row hown2 (fun k cs e _ => Below.heap_setCell _ _ _ _ (by have := hrow2 k e; show k ≠ N + 3; omega))
  · rcases List.mem_append.1 hy with hy | hy
    · exact ⟨htx (Nat.le_refl _) (h1.lx y hy).1, (h1.lx y hy).2⟩
    · rw [List.mem_singleton.1 hy]
      exact ⟨htx (Nat.le_refl _) (hx.1.keep hb), hx.2⟩
  · exact (hX.bs h1.lb.1 (Nat.le_refl _) (fun h0 ad e hh => by have h2 := (hno _ hh).1; have h3 := h.lbN h0 ad e; omega)).more hX.csize
  · have := (hno k e).1; omega
theorem Lp.after {W0 w W W1 W2 : World} {N p g : Nat} {mp : Option Addr} {d0 d : Option Nat} {s : St} {a : Option Addr} {b : Tx} {c f : Nat} {pre : List SlV} {v : Value} (h : Lp W0 w W N p mp g d0 d s a b c f pre v) (hb : Below W.heap.size W W1) (hg : W1.grownBy W2 v.ownBlock) :
    Boxed W2 N 27 (.pointer (some ⟨p, 0, none⟩)) ∧ Boxed W2 (N + 1) 38 (.slice a b.length c) ∧ Boxed W2 (N + 2) 35 v ∧ Boxed W2 (N + 3) 3 (.int .i64 (f : Int)) := by
  have h1 := h.keep hb
  have hsz := h1.lsz
  have hk : ∀ k, k < N + 4 → W2.heap[k]? = W1.heap[k]? := fun k hk => hg.block k (by omega) (fun e => by have := (own_block_lt h1.lr e.symm).1; omega)
  exact ⟨(hk _ (by omega)).trans h1.ls, (hk _ (by omega)).trans h1.lc, (hk _ (by omega)).trans h1.lt, (hk _ (by omega)).trans h1.lf⟩
/-- The closure tells a line. -/
def GivesTell (W0 w : World) (N p : Nat) (mp : Option Addr) (g : Nat) (d0 : Option Nat) (s : St) (a : Option Addr) (b : Tx) (c f t : Nat) (pre : List SlV) (e : Ending) (w' : World) : Prop :=
  e = .returned (.tuple #[]) ∧ ∃ d' x v', Lp W0 w w' N p mp g d0 d' (s.line (mid b f t)) a b c (t + 1) (pre ++ [x]) v' ∧ x.sl = s.told (mid b f t)
set_option maxHeartbeats 4000000 in
theorem tell_any (W0 w W : World) (N p : Nat) (mp : Option Addr) (g : Nat) (d0 d : Option Nat) (s : St) (a : Option Addr) (b : Tx) (c f : Nat) (pre : List SlV) (v : Value) (h : Lp W0 w W N p mp g d0 d s a b c f pre v) (hbad : s.bad = false) (n : Nat) (hv : Rv n s.w) (hn : n ≤ 1000000) (hh : s.hunt ≤ 1000000000) (hnum : s.num ≤ 1000000000) (hoff : s.off ≤ 1000000000) (hl : b.length ≤ 1000000) (hbc : b.length ≤ c) (hac : a = none → c = 0) (hp : pre.length ≤ 1000000) (t : Nat) (hft : f ≤ t) (ht : t ≤ b.length) :
    Calls Try.prog 26 #[.int .i64 (t : Int), .pointer (some ⟨N + 2, 0, none⟩), .pointer (some ⟨N, 0, none⟩), .pointer (some ⟨N + 1, 0, none⟩), .pointer (some ⟨N + 3, 0, none⟩)] W (GivesTell W0 w N p mp g d0 s a b c f t pre) := by
  obtain ⟨A, hA⟩ : ∃ A, A = (if c = f then a else a.map (fun x => x.add f)) := ⟨_, rfl⟩
  have hml := mid_len b f t ht
  have HSL : Hid (∀ w : World, (Instr.slice 38 (.slice a b.length c) (some (.int .i64 (f : Int))) (some (.int .i64 (t : Int))) none).run Try.prog w = .ok (.slice A (t - f) (c - f)) w) := Lib.hid (fun w => by rw [hA]; exact slice_mid a b.length c f t hft ht hbc hac w)
  have HX : Hid (∀ X : World, Below W.heap.size W X → Calls Try.prog 27 #[.pointer (some ⟨p, 0, none⟩), .slice A (t - f) (c - f)] X (GivesLine W0 X p mp g d s (mid b f t))) := Lib.hid fun X hX => by
    have hb := (h.keep hX).lb.cut c f t hft ht hbc
    rw [← hA] at hb
    have := sline_any W0 X p mp g d s (h.keep hX).lm hbad n hv hn hh hnum hoff (mid b f t) A (c - f) hb (by omega)
    rwa [hml] at this
  have H := Lib.hid h
  have HHB := Lib.hid hbad
  have q1 : IntKind.i64.wrap ((t : Int) + 1) = (t : Int) + 1 := IntWalk.i64_in _ (by omega)
  obtain ⟨i0, hi, hz0, hz1, hz2⟩ := info_parts infoL
  have c0 := h.ls.cell
  have c1 := h.lc.cell
  have c2 := h.lt.cell
  have c3 := h.lf.cell
  clear h hv hA hml hbad
  go_enter Try.func26, Try.ntmps26
  go_wp2_with fail
  refine wp_region_held_drew (S := fun w' => w'.cell? ⟨N, 0, none⟩ = some (.pointer (some ⟨p, 0, none⟩)) ∧ w'.cell? ⟨N + 1, 0, none⟩ = some (.slice a b.length c) ∧ w'.cell? ⟨N + 3, 0, none⟩ = some (.int .i64 (f : Int))) (by kernel_rfl) ⟨c0, c1, c3⟩ (fun hH0 => ?_)
  have H0 : Hid (Lp W0 w W.drew N p mp g d0 d s a b c f pre v) := Lib.hid (H.out.keep (below_drews (Below.refl _ _) 1))
  have HX0 : Hid (Below W.heap.size W W.drew) := Lib.hid (below_drews (Below.refl _ _) 1)
  have c2 : W.drew.cell? ⟨N + 2, 0, none⟩ = some v := c2
  clear c0 c1 c3
  generalize W.drew = x0 at *
  refine held_take (i := 1) (d := 7) (oi := _) (v := ?_) rfl rfl (by kernel_rfl) (by kernel_rfl) (by kernel_rfl) (fun _ _ _ h => h) (Or.inl ⟨by rfl, ?_⟩) (by assumption) ?_
  rotate_left
  · (intro w hSw; obtain ⟨s0, s1, s3⟩ := hSw; go_simp; (try with_reducible rfl))
  simp only [Act.put, List.setIfInBounds_toArray, List.set_cons_zero, List.set_cons_succ]
  refine held_take (i := 2) (d := 8) (oi := _) (v := ?_) rfl rfl (by kernel_rfl) (by kernel_rfl) (by kernel_rfl) (fun _ _ _ h => h) (Or.inl ⟨by rfl, ?_⟩) (by assumption) ?_
  rotate_left
  · (intro w hSw; obtain ⟨s0, s1, s3⟩ := hSw; go_simp; (try with_reducible rfl))
  simp only [Act.put, List.setIfInBounds_toArray, List.set_cons_zero, List.set_cons_succ]
  refine held_take (i := 3) (d := 9) (oi := _) (v := ?_) rfl rfl (by kernel_rfl) (by kernel_rfl) (by kernel_rfl) (fun _ _ _ h => h) (Or.inl ⟨by rfl, ?_⟩) (by assumption) ?_
  rotate_left
  · (intro w hSw; obtain ⟨s0, s1, s3⟩ := hSw; go_simp; (try with_reducible rfl))
  simp only [Act.put, List.setIfInBounds_toArray, List.set_cons_zero, List.set_cons_succ]
  refine held_take (i := 4) (d := 10) (oi := _) (v := ?_) rfl rfl (by kernel_rfl) (by kernel_rfl) (by kernel_rfl) (fun _ _ _ h => h) (Or.inl ⟨by rfl, ?_⟩) (by assumption) ?_
  rotate_left
  · (intro w hSw; obtain ⟨s0, s1, s3⟩ := hSw; go_simp; (try with_reducible rfl))
  simp only [Act.put, List.setIfInBounds_toArray, List.set_cons_zero, List.set_cons_succ]
  refine held_take (i := 5) (d := 11) (oi := _) (v := ?_) rfl rfl (by kernel_rfl) (by kernel_rfl) (by kernel_rfl) (fun _ _ _ h => h) (Or.inl ⟨by rfl, ?_⟩) (by assumption) ?_
  rotate_left
  · (intro w hSw; obtain ⟨s0, s1, s3⟩ := hSw; have hsl := HSL.out w; go_simp; (try with_reducible rfl))
  simp only [Act.put, List.setIfInBounds_toArray, List.set_cons_zero, List.set_cons_succ]
  refine wpAnyH_ready (rs := [0, 6]) (by kernel_rfl) (by simp) ?_
  refine AllReadyH.cons rfl (fun K hK => ?_) (AllReadyH.cons rfl (fun K hK => ?_) AllReadyH.nil)
  · go_simp
    refine hK.out _ _ (show x0.cell? ⟨N, 0, none⟩ = some (.pointer (some ⟨p, 0, none⟩)) ∧ x0.cell? ⟨N + 1, 0, none⟩ = some (.slice a b.length c) ∧ x0.cell? ⟨N + 3, 0, none⟩ = some (.int .i64 (f : Int)) from by assumption) (fun _ => ?_)
    clear hK K
    refine wpAnyH_ready (rs := [6]) (by kernel_rfl) (by simp) ?_
    refine AllReadyH.cons rfl (fun K hK => ?_) AllReadyH.nil
    go_simp
    go_wp2_with (go_at_call 27; (with_reducible refine (HX.out x0 HX0.out).mono ?_); rintro e x1 ⟨a1, c1', rfl, ht1, d', hd, h1, hch, ha⟩; have HT := Lib.hid ht1; have HL1 := Lib.hid (H0.out.ch HHB.out hch hd h1); have HA := Lib.hid ha; clear ht1 hd h1 hch ha)
    have hH1 : x1.cell? ⟨N, 0, none⟩ = some (.pointer (some ⟨p, 0, none⟩)) ∧ x1.cell? ⟨N + 1, 0, none⟩ = some (.slice a b.length c) ∧ x1.cell? ⟨N + 3, 0, none⟩ = some (.int .i64 (f : Int)) := ⟨(HL1.out).ls.cell, (HL1.out).lc.cell, (HL1.out).lf.cell⟩
    have k2 := HL1.out.lt.cell
    refine hK.out _ _ hH1 (fun _ => ?_)
    clear hK K
    refine wpAnyH_ready (rs := [7]) (by kernel_rfl) (by simp) ?_
    refine AllReadyH.cons rfl (fun K hK => ?_) AllReadyH.nil
    go_simp
    have HB1 : Hid (Below x1.heap.size x1 (x1.alloc (.cells #[.int .i64 (s.num : Int), .int .i64 (s.off : Int), .slice a1 (lineT s (mid b f t)).length c1'] 47))) := Lib.hid (Met.below_new _ _)
    have hH2 : (x1.alloc (.cells #[.int .i64 (s.num : Int), .int .i64 (s.off : Int), .slice a1 (lineT s (mid b f t)).length c1'] 47)).cell? ⟨N, 0, none⟩ = some (.pointer (some ⟨p, 0, none⟩)) ∧ (x1.alloc (.cells #[.int .i64 (s.num : Int), .int .i64 (s.off : Int), .slice a1 (lineT s (mid b f t)).length c1'] 47)).cell? ⟨N + 1, 0, none⟩ = some (.slice a b.length c) ∧ (x1.alloc (.cells #[.int .i64 (s.num : Int), .int .i64 (s.off : Int), .slice a1 (lineT s (mid b f t)).length c1'] 47)).cell? ⟨N + 3, 0, none⟩ = some (.int .i64 (f : Int)) := ⟨(HL1.out.keep HB1.out).ls.cell, (HL1.out.keep HB1.out).lc.cell, (HL1.out.keep HB1.out).lf.cell⟩
    have k3 : (x1.alloc (.cells #[.int .i64 (s.num : Int), .int .i64 (s.off : Int), .slice a1 (lineT s (mid b f t)).length c1'] 47)).cell? ⟨N + 2, 0, none⟩ = some v := (HL1.out.keep HB1.out).lt.cell
    refine hK.out _ _ hH2 (fun _ => ?_)
    clear hK K
    refine wpAnyH_ready (rs := [8]) (by kernel_rfl) (by simp) ?_
    refine AllReadyH.cons rfl (fun K hK => ?_) AllReadyH.nil
    refine wp_append_own (x1.alloc (.cells #[.int .i64 (s.num : Int), .int .i64 (s.off : Int), .slice a1 (lineT s (mid b f t)).length c1'] 47)) (.tmp 6) (.tmp 13) 35 rfl (N + 4) 47 i0 (.agg #[.int .i64 0, .int .i64 0, .slice none 0 0]) 3 40 Try.underlying35 hi hz0 hz1 hz2 rfl (by decide) v pre.length (pre.flatMap scells) rfl (HL1.out.lr.alloc _) ⟨x1.heap.size, 0, none⟩ 1 1 (scells (⟨s.told (mid b f t), a1, c1'⟩ : SlV)) rfl rfl (cells_new3 _ _ _ _ _) (by simp [scells, Value.oneCell']) (by unfold maxLen; omega) (by omega) (by have := (HL1.out.keep HB1.out).lsz; omega) ?_
    intro v' w2 hown' hgrow _
    obtain ⟨g', cap', rfl⟩ := ownsRow_succ hown'
    obtain ⟨bx0, bx1, bx2, bx3⟩ := HL1.out.after HB1.out hgrow
    have HOW := Lib.hid hown'
    have HGR := Lib.hid hgrow
    clear hown' hgrow
    have hH3 : w2.cell? ⟨N, 0, none⟩ = some (.pointer (some ⟨p, 0, none⟩)) ∧ w2.cell? ⟨N + 1, 0, none⟩ = some (.slice a b.length c) ∧ w2.cell? ⟨N + 3, 0, none⟩ = some (.int .i64 (f : Int)) := ⟨bx0.cell, bx1.cell, bx3.cell⟩
    refine hK.out _ _ hH3 (fun _ => ?_)
    clear hK K
    have m2 := bx2.cell
    have m3 := bx3.cell
    have z2 := bx2.frozen
    have z3 := bx3.frozen
    have hH4 : (w2.setCell ⟨N + 2, 0, none⟩ (.slice (some ⟨g', 0, none⟩) (pre.length + 1) cap')).cell? ⟨N, 0, none⟩ = some (.pointer (some ⟨p, 0, none⟩)) ∧ (w2.setCell ⟨N + 2, 0, none⟩ (.slice (some ⟨g', 0, none⟩) (pre.length + 1) cap')).cell? ⟨N + 1, 0, none⟩ = some (.slice a b.length c) ∧ (w2.setCell ⟨N + 2, 0, none⟩ (.slice (some ⟨g', 0, none⟩) (pre.length + 1) cap')).cell? ⟨N + 3, 0, none⟩ = some (.int .i64 (f : Int)) := ⟨(cell_beside (.inl (by omega))).trans bx0.cell, (cell_beside (.inl (by omega))).trans bx1.cell, (cell_beside (.inl (by omega))).trans bx3.cell⟩
    clear bx0 bx1 bx2 bx3
    refine wpAnyH_ready (rs := [9]) (by kernel_rfl) (by simp) ?_
    refine AllReadyH.cons rfl (fun K hK => ?_) AllReadyH.nil
    go_simp
    refine hK.out _ _ hH4 (fun _ => ?_)
    clear hK K
    refine wpAnyH_done (by kernel_rfl) ?_ _
    clear hH4
    go_wp2_with fail
    go_end0
    exact ⟨rfl, d', (⟨s.told (mid b f t), a1, c1'⟩ : SlV), _, HL1.out.tells HHB.out (x := (⟨s.told (mid b f t), a1, c1'⟩ : SlV)) ⟨HT.out.less H0.out.lsz, HA.out⟩ HB1.out HOW.out HGR.out (t + 1), rfl⟩
  · go_simp
    go_wp2_with (go_at_call 27; (with_reducible refine (HX.out x0 HX0.out).mono ?_); rintro e x1 ⟨a1, c1', rfl, ht1, d', hd, h1, hch, ha⟩; have HT := Lib.hid ht1; have HL1 := Lib.hid (H0.out.ch HHB.out hch hd h1); have HA := Lib.hid ha; clear ht1 hd h1 hch ha)
    have hH1 : x1.cell? ⟨N, 0, none⟩ = some (.pointer (some ⟨p, 0, none⟩)) ∧ x1.cell? ⟨N + 1, 0, none⟩ = some (.slice a b.length c) ∧ x1.cell? ⟨N + 3, 0, none⟩ = some (.int .i64 (f : Int)) := ⟨(HL1.out).ls.cell, (HL1.out).lc.cell, (HL1.out).lf.cell⟩
    have k2 := HL1.out.lt.cell
    refine hK.out _ _ hH1 (fun _ => ?_)
    clear hK K
    refine wpAnyH_ready (rs := [0, 7]) (by kernel_rfl) (by simp) ?_
    refine AllReadyH.cons rfl (fun K hK => ?_) (AllReadyH.cons rfl (fun K hK => ?_) AllReadyH.nil)
    · go_simp
      refine hK.out _ _ (show x1.cell? ⟨N, 0, none⟩ = some (.pointer (some ⟨p, 0, none⟩)) ∧ x1.cell? ⟨N + 1, 0, none⟩ = some (.slice a b.length c) ∧ x1.cell? ⟨N + 3, 0, none⟩ = some (.int .i64 (f : Int)) from by assumption) (fun _ => ?_)
      clear hK K
      refine wpAnyH_ready (rs := [7]) (by kernel_rfl) (by simp) ?_
      refine AllReadyH.cons rfl (fun K hK => ?_) AllReadyH.nil
      go_simp
      have HB1 : Hid (Below x1.heap.size x1 (x1.alloc (.cells #[.int .i64 (s.num : Int), .int .i64 (s.off : Int), .slice a1 (lineT s (mid b f t)).length c1'] 47))) := Lib.hid (Met.below_new _ _)
      have hH2 : (x1.alloc (.cells #[.int .i64 (s.num : Int), .int .i64 (s.off : Int), .slice a1 (lineT s (mid b f t)).length c1'] 47)).cell? ⟨N, 0, none⟩ = some (.pointer (some ⟨p, 0, none⟩)) ∧ (x1.alloc (.cells #[.int .i64 (s.num : Int), .int .i64 (s.off : Int), .slice a1 (lineT s (mid b f t)).length c1'] 47)).cell? ⟨N + 1, 0, none⟩ = some (.slice a b.length c) ∧ (x1.alloc (.cells #[.int .i64 (s.num : Int), .int .i64 (s.off : Int), .slice a1 (lineT s (mid b f t)).length c1'] 47)).cell? ⟨N + 3, 0, none⟩ = some (.int .i64 (f : Int)) := ⟨(HL1.out.keep HB1.out).ls.cell, (HL1.out.keep HB1.out).lc.cell, (HL1.out.keep HB1.out).lf.cell⟩
      have k3 : (x1.alloc (.cells #[.int .i64 (s.num : Int), .int .i64 (s.off : Int), .slice a1 (lineT s (mid b f t)).length c1'] 47)).cell? ⟨N + 2, 0, none⟩ = some v := (HL1.out.keep HB1.out).lt.cell
      refine hK.out _ _ hH2 (fun _ => ?_)
      clear hK K
      refine wpAnyH_ready (rs := [8]) (by kernel_rfl) (by simp) ?_
      refine AllReadyH.cons rfl (fun K hK => ?_) AllReadyH.nil
      refine wp_append_own (x1.alloc (.cells #[.int .i64 (s.num : Int), .int .i64 (s.off : Int), .slice a1 (lineT s (mid b f t)).length c1'] 47)) (.tmp 6) (.tmp 13) 35 rfl (N + 4) 47 i0 (.agg #[.int .i64 0, .int .i64 0, .slice none 0 0]) 3 40 Try.underlying35 hi hz0 hz1 hz2 rfl (by decide) v pre.length (pre.flatMap scells) rfl (HL1.out.lr.alloc _) ⟨x1.heap.size, 0, none⟩ 1 1 (scells (⟨s.told (mid b f t), a1, c1'⟩ : SlV)) rfl rfl (cells_new3 _ _ _ _ _) (by simp [scells, Value.oneCell']) (by unfold maxLen; omega) (by omega) (by have := (HL1.out.keep HB1.out).lsz; omega) ?_
      intro v' w2 hown' hgrow _
      obtain ⟨g', cap', rfl⟩ := ownsRow_succ hown'
      obtain ⟨bx0, bx1, bx2, bx3⟩ := HL1.out.after HB1.out hgrow
      have HOW := Lib.hid hown'
      have HGR := Lib.hid hgrow
      clear hown' hgrow
      have hH3 : w2.cell? ⟨N, 0, none⟩ = some (.pointer (some ⟨p, 0, none⟩)) ∧ w2.cell? ⟨N + 1, 0, none⟩ = some (.slice a b.length c) ∧ w2.cell? ⟨N + 3, 0, none⟩ = some (.int .i64 (f : Int)) := ⟨bx0.cell, bx1.cell, bx3.cell⟩
      refine hK.out _ _ hH3 (fun _ => ?_)
      clear hK K
      have m2 := bx2.cell
      have m3 := bx3.cell
      have z2 := bx2.frozen
      have z3 := bx3.frozen
      have hH4 : (w2.setCell ⟨N + 2, 0, none⟩ (.slice (some ⟨g', 0, none⟩) (pre.length + 1) cap')).cell? ⟨N, 0, none⟩ = some (.pointer (some ⟨p, 0, none⟩)) ∧ (w2.setCell ⟨N + 2, 0, none⟩ (.slice (some ⟨g', 0, none⟩) (pre.length + 1) cap')).cell? ⟨N + 1, 0, none⟩ = some (.slice a b.length c) ∧ (w2.setCell ⟨N + 2, 0, none⟩ (.slice (some ⟨g', 0, none⟩) (pre.length + 1) cap')).cell? ⟨N + 3, 0, none⟩ = some (.int .i64 (f : Int)) := ⟨(cell_beside (.inl (by omega))).trans bx0.cell, (cell_beside (.inl (by omega))).trans bx1.cell, (cell_beside (.inl (by omega))).trans bx3.cell⟩
      clear bx0 bx1 bx2 bx3
      refine wpAnyH_ready (rs := [9]) (by kernel_rfl) (by simp) ?_
      refine AllReadyH.cons rfl (fun K hK => ?_) AllReadyH.nil
      go_simp
      refine hK.out _ _ hH4 (fun _ => ?_)
      clear hK K
      refine wpAnyH_done (by kernel_rfl) ?_ _
      clear hH4
      go_wp2_with fail
      go_end0
      exact ⟨rfl, d', (⟨s.told (mid b f t), a1, c1'⟩ : SlV), _, HL1.out.tells HHB.out (x := (⟨s.told (mid b f t), a1, c1'⟩ : SlV)) ⟨HT.out.less H0.out.lsz, HA.out⟩ HB1.out HOW.out HGR.out (t + 1), rfl⟩
    · go_simp
      have HB1 : Hid (Below x1.heap.size x1 (x1.alloc (.cells #[.int .i64 (s.num : Int), .int .i64 (s.off : Int), .slice a1 (lineT s (mid b f t)).length c1'] 47))) := Lib.hid (Met.below_new _ _)
      have hH2 : (x1.alloc (.cells #[.int .i64 (s.num : Int), .int .i64 (s.off : Int), .slice a1 (lineT s (mid b f t)).length c1'] 47)).cell? ⟨N, 0, none⟩ = some (.pointer (some ⟨p, 0, none⟩)) ∧ (x1.alloc (.cells #[.int .i64 (s.num : Int), .int .i64 (s.off : Int), .slice a1 (lineT s (mid b f t)).length c1'] 47)).cell? ⟨N + 1, 0, none⟩ = some (.slice a b.length c) ∧ (x1.alloc (.cells #[.int .i64 (s.num : Int), .int .i64 (s.off : Int), .slice a1 (lineT s (mid b f t)).length c1'] 47)).cell? ⟨N + 3, 0, none⟩ = some (.int .i64 (f : Int)) := ⟨(HL1.out.keep HB1.out).ls.cell, (HL1.out.keep HB1.out).lc.cell, (HL1.out.keep HB1.out).lf.cell⟩
      have k3 : (x1.alloc (.cells #[.int .i64 (s.num : Int), .int .i64 (s.off : Int), .slice a1 (lineT s (mid b f t)).length c1'] 47)).cell? ⟨N + 2, 0, none⟩ = some v := (HL1.out.keep HB1.out).lt.cell
      refine hK.out _ _ hH2 (fun _ => ?_)
      clear hK K
      refine wpAnyH_ready (rs := [0]) (by kernel_rfl) (by simp) ?_
      refine AllReadyH.cons rfl (fun K hK => ?_) AllReadyH.nil
      go_simp
      refine hK.out _ _ (show (x1.alloc (.cells #[.int .i64 (s.num : Int), .int .i64 (s.off : Int), .slice a1 (lineT s (mid b f t)).length c1'] 47)).cell? ⟨N, 0, none⟩ = some (.pointer (some ⟨p, 0, none⟩)) ∧ (x1.alloc (.cells #[.int .i64 (s.num : Int), .int .i64 (s.off : Int), .slice a1 (lineT s (mid b f t)).length c1'] 47)).cell? ⟨N + 1, 0, none⟩ = some (.slice a b.length c) ∧ (x1.alloc (.cells #[.int .i64 (s.num : Int), .int .i64 (s.off : Int), .slice a1 (lineT s (mid b f t)).length c1'] 47)).cell? ⟨N + 3, 0, none⟩ = some (.int .i64 (f : Int)) from by assumption) (fun _ => ?_)
      clear hK K
      refine wpAnyH_ready (rs := [8]) (by kernel_rfl) (by simp) ?_
      refine AllReadyH.cons rfl (fun K hK => ?_) AllReadyH.nil
      refine wp_append_own (x1.alloc (.cells #[.int .i64 (s.num : Int), .int .i64 (s.off : Int), .slice a1 (lineT s (mid b f t)).length c1'] 47)) (.tmp 6) (.tmp 13) 35 rfl (N + 4) 47 i0 (.agg #[.int .i64 0, .int .i64 0, .slice none 0 0]) 3 40 Try.underlying35 hi hz0 hz1 hz2 rfl (by decide) v pre.length (pre.flatMap scells) rfl (HL1.out.lr.alloc _) ⟨x1.heap.size, 0, none⟩ 1 1 (scells (⟨s.told (mid b f t), a1, c1'⟩ : SlV)) rfl rfl (cells_new3 _ _ _ _ _) (by simp [scells, Value.oneCell']) (by unfold maxLen; omega) (by omega) (by have := (HL1.out.keep HB1.out).lsz; omega) ?_
      intro v' w2 hown' hgrow _
      obtain ⟨g', cap', rfl⟩ := ownsRow_succ hown'
      obtain ⟨bx0, bx1, bx2, bx3⟩ := HL1.out.after HB1.out hgrow
      have HOW := Lib.hid hown'
      have HGR := Lib.hid hgrow
      clear hown' hgrow
      have hH3 : w2.cell? ⟨N, 0, none⟩ = some (.pointer (some ⟨p, 0, none⟩)) ∧ w2.cell? ⟨N + 1, 0, none⟩ = some (.slice a b.length c) ∧ w2.cell? ⟨N + 3, 0, none⟩ = some (.int .i64 (f : Int)) := ⟨bx0.cell, bx1.cell, bx3.cell⟩
      refine hK.out _ _ hH3 (fun _ => ?_)
      clear hK K
      have m2 := bx2.cell
      have m3 := bx3.cell
      have z2 := bx2.frozen
      have z3 := bx3.frozen
      have hH4 : (w2.setCell ⟨N + 2, 0, none⟩ (.slice (some ⟨g', 0, none⟩) (pre.length + 1) cap')).cell? ⟨N, 0, none⟩ = some (.pointer (some ⟨p, 0, none⟩)) ∧ (w2.setCell ⟨N + 2, 0, none⟩ (.slice (some ⟨g', 0, none⟩) (pre.length + 1) cap')).cell? ⟨N + 1, 0, none⟩ = some (.slice a b.length c) ∧ (w2.setCell ⟨N + 2, 0, none⟩ (.slice (some ⟨g', 0, none⟩) (pre.length + 1) cap')).cell? ⟨N + 3, 0, none⟩ = some (.int .i64 (f : Int)) := ⟨(cell_beside (.inl (by omega))).trans bx0.cell, (cell_beside (.inl (by omega))).trans bx1.cell, (cell_beside (.inl (by omega))).trans bx3.cell⟩
      clear bx0 bx1 bx2 bx3
      refine wpAnyH_ready (rs := [9]) (by kernel_rfl) (by simp) ?_
      refine AllReadyH.cons rfl (fun K hK => ?_) AllReadyH.nil
      go_simp
      refine hK.out _ _ hH4 (fun _ => ?_)
      clear hK K
      refine wpAnyH_done (by kernel_rfl) ?_ _
      clear hH4
      go_wp2_with fail
      go_end0
      exact ⟨rfl, d', (⟨s.told (mid b f t), a1, c1'⟩ : SlV), _, HL1.out.tells HHB.out (x := (⟨s.told (mid b f t), a1, c1'⟩ : SlV)) ⟨HT.out.less H0.out.lsz, HA.out⟩ HB1.out HOW.out HGR.out (t + 1), rfl⟩
end Go.Proofs.Ytcekifknbljbiaa.Str
