/- Package by package: WinA1 WinA2 WinA3 WinA4 WinA WinB. -/
import Derived.Test.YtcekifknbljbiaaGM
import Derived.Test.YtcekifknbljbiaaGV
/- A window in memory; what New, Len, Room, Clear, held and Bytes answer. -/
namespace Go.Proofs.Ytcekifknbljbiaa.Win
open Go.Proofs.Ytcekifknbljbiaa.Stm Go.Proofs.Ytcekifknbljbiaa.Reg Go.RowKit Go.Maps
set_option maxRecDepth 100000
set_option linter.unusedVariables false

/-- What a call on a window may change: its own blocks, the meter, and new ones. -/
structure Touch (W W' : World) (g : Nat) (d : Option Nat) (mp : Option Addr) : Prop where
  os : W'.os = W.os
  tape : W'.tape = W.tape
  output : W'.output = W.output
  size : W.heap.size ≤ W'.heap.size
  block : ∀ k, k < W.heap.size → k ≠ g → d ≠ some k → Met.blk mp ≠ some k → W'.heap[k]? = W.heap[k]?
theorem Touch.below {W W' A : World} {g : Nat} {d : Option Nat} {mp : Option Addr} (h : Touch W W' g d mp) {B : Nat} (hb : Below B A W) (hB : B ≤ W.heap.size) (hg : B ≤ g) (hd : ∀ k, d = some k → B ≤ k) (hm : ∀ k, Met.blk mp = some k → B ≤ k) : Below B A W' :=
  ⟨h.os.trans hb.os, h.tape.trans hb.tape, h.output.trans hb.output, Nat.le_trans hb.size h.size, fun k hk => (h.block k (by omega) (by omega) (fun e => by have := hd k e; omega) (fun e => by have := hm k e; omega)).trans (hb.block k hk)⟩
theorem Touch.trans {W W' W'' : World} {g : Nat} {d d' : Option Nat} {mp : Option Addr} (h : Touch W W' g d mp) (h' : Touch W' W'' g d' mp) (hd : d' = d ∨ ∃ k, d' = some k ∧ W.heap.size ≤ k) : Touch W W'' g d mp :=
  ⟨h'.os.trans h.os, h'.tape.trans h.tape, h'.output.trans h.output, Nat.le_trans h.size h'.size, fun k hk h1 h2 h3 => (h'.block k (Nat.lt_of_lt_of_le hk h.size) h1 (by rcases hd with rfl | ⟨k', rfl, hk'⟩; exact h2; intro e; cases e; omega) h3).trans (h.block k hk h1 h2 h3)⟩
theorem Touch.of_below {W W' : World} {g : Nat} {d : Option Nat} {mp : Option Addr} (h : Below W.heap.size W W') : Touch W W' g d mp := ⟨h.os, h.tape, h.output, h.size, fun k hk _ _ _ => h.block k hk⟩
theorem Touch.of_grown {W W' : World} {g : Nat} {d : Option Nat} {mp : Option Addr} {r : Option Nat} (h : W.grownBy W' r) (hr : ∀ k, r = some k → k < W.heap.size → k = g ∨ d = some k ∨ Met.blk mp = some k) : Touch W W' g d mp :=
  ⟨h.os, h.tape, h.output, h.size, fun k hk h1 h2 h3 => h.block k hk (fun e => by rcases hr k e.symm hk with h | h | h; exact h1 h; exact h2 h; exact h3 h)⟩
/-- A block of just these bytes. -/
def Row (W : World) (k : Nat) (t : Stm.Tx) : Prop := W.heap[k]? = some (.cells (vals t).toArray 5 (0, 0))
theorem Row.same {W W' : World} {k : Nat} {t : Stm.Tx} (h : Row W k t) (e : W'.heap[k]? = W.heap[k]?) : Row W' k t := e.trans h
theorem Row.lt {W : World} {k : Nat} {t : Stm.Tx} (h : Row W k t) : k < W.heap.size := txt_lt h
theorem Row.bs {W : World} {k : Nat} {t : Stm.Tx} (h : Row W k t) (n : Nat) : Bs W W.heap.size (some ⟨k, 0, none⟩) (t.take n) := fun _ => by
  unfold Row at h
  refine ⟨k, 0, rfl, txt_lt h, fun i hi => ?_⟩
  have hi' : i < t.length := by rw [List.length_take] at hi; omega
  rw [Nat.zero_add, cell_of_row W k _ _ 5 (0, 0) h]
  simp [vals, hi']
theorem _root_.Go.Proofs.Ytcekifknbljbiaa.Blk3.same' {w w' : World} {g : Nat} {t : TypeId} {u0 u1 u2 : Value} (h : Blk3 w g t u0 u1 u2) (e : w'.heap[g]? = w.heap[g]?) : Blk3 w' g t u0 u1 u2 := e.trans h
/-- The slice over a window's row. -/
abbrev rowOf (d : Option Nat) (n : Nat) : Value := .slice (d.map fun k => ⟨k, 0, none⟩) n n
/-- A window in memory: its struct in block g, its bytes in block d, if it has room. -/
def Wd (W : World) (g : Nat) (d : Option Nat) (mp : Option Addr) (held : Stm.Tx) (room : Nat) : Prop :=
  Blk3 W g 84 (.pointer mp) (rowOf d room) (.int .i64 (held.length : Int)) ∧ (d = none → room = 0) ∧ held.length ≤ room ∧ ∃ t : Stm.Tx, t.length = room ∧ t.take held.length = held ∧ ∀ k, d = some k → k ≠ g ∧ Row W k t
theorem Wd.same {W W' : World} {g : Nat} {d : Option Nat} {mp : Option Addr} {held : Stm.Tx} {room : Nat} (h : Wd W g d mp held room) (hg : W'.heap[g]? = W.heap[g]?) (hd : ∀ k, d = some k → W'.heap[k]? = W.heap[k]?) : Wd W' g d mp held room := by
  obtain ⟨h1, h2, h3, t, h4, h5, h6⟩ := h
  exact ⟨hg.trans h1, h2, h3, t, h4, h5, fun k hk => ⟨(h6 k hk).1, (h6 k hk).2.same (hd k hk)⟩⟩
theorem Wd.lt {W : World} {g : Nat} {d : Option Nat} {mp : Option Addr} {held : Stm.Tx} {room : Nat} (h : Wd W g d mp held room) : g < W.heap.size ∧ ∀ k, d = some k → k < W.heap.size := by
  obtain ⟨h1, _, _, t, _, _, h6⟩ := h
  exact ⟨txt_lt h1, fun k hk => (h6 k hk).2.lt⟩
theorem Wd.fits {W : World} {g : Nat} {d : Option Nat} {mp : Option Addr} {held : Stm.Tx} {room : Nat} (h : Wd W g d mp held room) : held.length ≤ room := h.2.2.1
theorem Wd.keep {W W' : World} {g : Nat} {d : Option Nat} {mp : Option Addr} {held : Stm.Tx} {room : Nat} (h : Wd W g d mp held room) (hb : Below W.heap.size W W') : Wd W' g d mp held room :=
  h.same (hb.block g h.lt.1) fun k hk => hb.block k (h.lt.2 k hk)
theorem Wd.bs {W : World} {g : Nat} {d : Option Nat} {mp : Option Addr} {held : Stm.Tx} {room : Nat} (h : Wd W g d mp held room) : Bs W W.heap.size (d.map fun k => ⟨k, 0, none⟩) held := by
  obtain ⟨_, h2, h3, t, h4, h5, h6⟩ := h
  rcases d with _ | k
  · intro h0; have := h2 rfl; omega
  · have := (h6 k rfl).2.bs held.length
    rw [h5] at this
    exact this

theorem wnew_any (w : World) (mp : Option Addr) : Calls Try.prog 25 #[.pointer mp] w fun e w' => ∃ g, e = .returned (.pointer (some ⟨g, 0, none⟩)) ∧ w.heap.size ≤ g ∧ Wd w' g none mp [] 0 ∧ Below w.heap.size w w' := by
  go_enter Try.func25, Try.ntmps25
  go_wp2
  go_ret
  exact ⟨w.heap.size, rfl, Nat.le_refl _, ⟨heap_alloc_new w _, fun _ => rfl, Nat.le_refl _, [], rfl, rfl, fun k hk => by cases hk⟩, (Below.refl _ _).alloc (Nat.le_refl _) _⟩
theorem wlen_any (w : World) (g : Nat) (d : Option Nat) (mp : Option Addr) (held : Stm.Tx) (room : Nat) (h : Wd w g d mp held room) (hr : room ≤ 1000000000) :
    Calls Try.prog 29 #[.pointer (some ⟨g, 0, none⟩)] w fun e w' => e = .returned (.int .i64 (held.length : Int)) ∧ Below w.heap.size w w' := by
  have hlt := h.lt.1
  obtain ⟨c0, c1, c2⟩ := Blk3.cells h.1
  clear h
  go_enter Try.func29, Try.ntmps29
  go_wp2
  go_ret
  exact ⟨rfl, Below.refl _ _⟩
theorem wclear_any (w : World) (g : Nat) (d : Option Nat) (mp : Option Addr) (held : Stm.Tx) (room : Nat) (h : Wd w g d mp held room) (hr : room ≤ 1000000000) :
    Calls Try.prog 44 #[.pointer (some ⟨g, 0, none⟩)] w fun e w' => e = .returned (.tuple #[]) ∧ Wd w' g d mp [] room ∧ Touch w w' g none none := by
  have hlt := h.lt.1
  obtain ⟨c0, c1, c2⟩ := Blk3.cells h.1
  obtain ⟨f0, f1, f2⟩ := Blk3.free h.1
  have H := Lib.hid h
  clear h
  go_enter Try.func44, Try.ntmps44
  go_wp2
  go_end0
  obtain ⟨h1, h2, h3, t, h4, h5, h6⟩ := H.out
  refine ⟨rfl, ⟨?_, h2, Nat.zero_le _, t, h4, rfl, fun k hk => ⟨(h6 k hk).1, (h6 k hk).2.same (Below.heap_setCell _ _ _ _ (h6 k hk).1)⟩⟩, Touch.of_grown (Met.grown_set w g 2 _) (fun k e _ => Or.inl (by cases e; rfl))⟩
  unfold Blk3 at h1 ⊢
  rw [heap_set_same h1]
  rfl
/-- held is what it holds, in the window's own memory. -/
theorem wheld_any (w : World) (g : Nat) (d : Option Nat) (mp : Option Addr) (held : Stm.Tx) (room : Nat) (h : Wd w g d mp held room) (hr : room ≤ 10000000000) :
    Calls Try.prog 45 #[.pointer (some ⟨g, 0, none⟩)] w fun e w' => e = .returned (rowOf d held.length) ∧ ∃ q, w' = w.drewN q := by
  have hlt := h.lt.1
  have hf := h.fits
  obtain ⟨c0, c1, c2⟩ := Blk3.cells h.1
  have hn := h.2.1
  clear h
  rcases d with _ | k
  · have := hn rfl
    subst this
    have e : held = [] := List.eq_nil_of_length_eq_zero (by omega)
    subst e
    go_enter Try.func45, Try.ntmps45
    go_wp2_with fail
    go_quiet (fail)
    go_wp2
    go_ret
    exact ⟨rfl, _, rfl⟩
  · go_enter Try.func45, Try.ntmps45
    go_wp2_with fail
    go_quiet (fail)
    go_wp2
    go_ret
    exact ⟨rfl, _, rfl⟩
theorem wbytes_any (w : World) (g : Nat) (d : Option Nat) (mp : Option Addr) (held : Stm.Tx) (room : Nat) (h : Wd w g d mp held room) (hr : room ≤ 1000000000) :
    Calls Try.prog 43 #[.pointer (some ⟨g, 0, none⟩)] w (GivesText w held) := by
  have hlt := h.lt.1
  have hf := h.fits
  have H := Lib.hid h
  clear h
  go_enter Try.func43, Try.ntmps43
  go_wp2_with (first
    | (go_at_call 45; (with_reducible refine (wheld_any _ g d mp held room H.out (by omega)).mono ?_); rintro e w1 ⟨rfl, q, hq⟩; have HQ := Lib.hid hq; clear hq)
    | (go_at_call 40; (with_reducible refine (Met.clone_any held _ _ _ (by omega) (H.out.keep (by rw [HQ.out]; exact below_drews (Below.refl _ _) q)).bs).mono ?_); rintro e w2 ⟨a2, c2, rfl, ht, hc, hn, hb⟩; have HT := Lib.hid ht; have HC := Lib.hid hc; have HN := Lib.hid hn; have HB := Lib.hid hb; clear ht hc hn hb))
  go_ret
  have hq : Below w.heap.size w w1 := by rw [HQ.out]; exact below_drews (Below.refl _ _) q
  exact ⟨a2, c2, rfl, HT.out.less hq.size, HC.out, HN.out, hq.trans (HB.out.mono hq.size)⟩
theorem wadd_none (w : World) (a : Option Addr) (n c : Nat) : Calls Try.prog 31 #[.pointer none, .slice a n c] w fun e w' => e = .returned (.tuple #[]) ∧ Below w.heap.size w w' := by
  go_enter Try.func31, Try.ntmps31
  go_wp2
  exact bodyPost_ret (v := .tuple #[]) (by simp [results, Try.results31, go_sem]) rfl ⟨rfl, Below.refl _ _⟩
theorem wclear_none (w : World) : Calls Try.prog 44 #[.pointer none] w fun e w' => e = .returned (.tuple #[]) ∧ Below w.heap.size w w' := by
  go_enter Try.func44, Try.ntmps44
  go_wp2
  exact bodyPost_ret (v := .tuple #[]) (by simp [results, Try.results44, go_sem]) rfl ⟨rfl, Below.refl _ _⟩
theorem wbytes_none (w : World) : Calls Try.prog 43 #[.pointer none] w (GivesText w []) := by
  go_enter Try.func43, Try.ntmps43
  go_wp2
  go_ret
  exact ⟨none, 0, rfl, fun h => absurd h (Nat.lt_irrefl _), Nat.le_refl _, fun _ => rfl, Below.refl _ _⟩
theorem wlen_none (w : World) : Calls Try.prog 29 #[.pointer none] w fun e w' => e = .returned (.int .i64 0) ∧ Below w.heap.size w w' := by
  go_enter Try.func29, Try.ntmps29
  go_wp2
  go_ret
  exact ⟨rfl, Below.refl _ _⟩
end Go.Proofs.Ytcekifknbljbiaa.Win
/- A window; what Copy into its row, widen and Add answer. -/
namespace Go.Proofs.Ytcekifknbljbiaa.Win
open Go.Proofs.Ytcekifknbljbiaa.Stm Go.Proofs.Ytcekifknbljbiaa.Reg Go.RowKit Go.Maps
set_option maxRecDepth 100000
set_option linter.unusedVariables false
/-- Bytes l put into a row from n on. -/
def put (t : Stm.Tx) (n : Nat) (l : Stm.Tx) : Stm.Tx := t.take n ++ (l ++ t.drop (n + l.length))
theorem put_length {t : Stm.Tx} {n : Nat} {l : Stm.Tx} (h : n + l.length ≤ t.length) : (put t n l).length = t.length := by
  simp only [put, List.length_append, List.length_take, List.length_drop]
  omega
theorem put_take {t : Stm.Tx} {n : Nat} {l : Stm.Tx} (h : n + l.length ≤ t.length) : (put t n l).take (n + l.length) = t.take n ++ l := by
  unfold put
  rw [← List.append_assoc, List.take_left' (by rw [List.length_append, List.length_take]; omega)]
/-- copy, at the operation: into a row, where all has room. -/
theorem copy_row {w : World} {ops : Array Oper} {rest : List Oper} {o : Oper} {a : Act} {Q : Exit → Act → World → Prop} (hgd : o.guard = none) (d s : Operand)
    (ho : o.op = .call { callee := .builtin .copy, args := #[d, s], argTypes := #[38, 38] }) (A : Option Addr) (m cap k n : Nat) (t : Stm.Tx) (hd : a.eval d = .slice A m cap)
    (B : Option Addr) (l : Stm.Tx) (c N : Nat) (hs : a.eval s = .slice B l.length c) (hB : Bs w N B l) (hm : l.length ≤ m) (hA : 0 < l.length → A = some ⟨k, n, none⟩ ∧ Row w k t ∧ n + l.length ≤ t.length)
    (h : ∀ w' r, (0 < l.length → Row w' k (put t n l)) → (∀ j, r = some j → j = k ∧ 0 < l.length) → w.grownBy w' r → wpList Try.prog ops Q rest (a.put o.dst (.int .i64 (l.length : Int))) w') : wpList Try.prog ops Q (o :: rest) a w := by
  have hsz : (Try.prog.info? 5).map (·.size) = some 1 := by kernel_rfl
  by_cases h0 : l.length = 0
  · refine wpList_copy_nothing hgd d s 38 38 ho 5 und22 hsz A B m cap l.length c hd hs ((Nat.min_eq_left hm).trans h0) ?_
    have := h w none (fun e => by omega) (fun k hk => by cases hk) (World.grownBy.refl w _)
    rw [h0] at this
    exact this
  · obtain ⟨rfl, hr, hf⟩ := hA (by omega)
    obtain ⟨b, off, rfl, _, hbs⟩ := hB (by omega)
    have hvl : (vals l).length = l.length := by simp [vals]
    have hvt : (vals t).length = t.length := by simp [vals]
    unfold Row at hr
    refine wpList_copy_own hgd d s 38 38 ho 5 und22 hsz k n m cap ⟨b, off, none⟩ l.length c hd hs (vals t).toArray 5 hr (vals l) (by rw [hvl]; exact (Nat.min_eq_left hm).symm) ?_ (by rw [hvl, List.size_toArray, hvt]; omega) (vals_one _) ?_
    · intro j v hj
      have hjl : j < l.length := by rw [← hvl]; exact (List.getElem?_eq_some_iff.1 hj).1
      have e2 : (⟨b, off, none⟩ : Addr).add j = ⟨b, off + j, none⟩ := by unfold Addr.add; split <;> simp_all
      rw [e2, hbs j hjl]
      simpa [vals, hjl] using hj
    · rw [hvl]
      refine h _ (some k) (fun _ => ?_) (fun j hj => by cases hj; exact ⟨rfl, by omega⟩) ⟨rfl, rfl, rfl, by simp [World.setRow], fun j _ hj => setRow_other w k j _ (fun e => hj (by rw [e]))⟩
      unfold Row
      rw [setRow_heap w k _ _ 5 _ hr]
      simp [put, vals, List.map_take, List.map_drop]
/-- What Copy gives: so many bytes lie in the row, and are counted. -/
def GivesCopy (w : World) (p : Option Addr) (k n : Nat) (l t : Stm.Tx) (a b c d : Int) (e : Ending) (w' : World) : Prop :=
  e = .returned (.int .i64 (l.length : Int)) ∧ (0 < l.length → Row w' k (put t n l)) ∧ Met.Mt w' p a b c (d + (l.length : Int)) ∧
    ∃ w1 r, (∀ j, r = some j → j = k ∧ 0 < l.length) ∧ w.grownBy w1 r ∧ w1.grownBy w' (Met.blk p)
set_option maxHeartbeats 1000000 in
theorem copy_fit (w : World) (p : Option Addr) (A : Option Addr) (m cap k n : Nat) (t : Stm.Tx) (B : Option Addr) (l : Stm.Tx) (cb N : Nat) (hB : Bs w N B l) (hl : l.length ≤ 1000000000000) (hm : l.length ≤ m) (hA : 0 < l.length → A = some ⟨k, n, none⟩ ∧ Row w k t ∧ n + l.length ≤ t.length)
    (a b c d : Int) (hM : Met.Mt w p a b c d) (ha : 0 ≤ a ∧ a ≤ 1000000000000) (hb : 0 ≤ b ∧ b ≤ 1000000000000) (hc : 0 ≤ c ∧ c ≤ 1000000000000) (hd : 0 ≤ d ∧ d ≤ 1000000000000) :
    Calls Try.prog 38 #[.pointer p, .slice A m cap, .slice B l.length cb] w (GivesCopy w p k n l t a b c d) := by
  have HB := Lib.hid hB
  have HM := Lib.hid hM
  have HA := Lib.hid hA
  clear hB hM hA
  go_enter Try.func38, Try.ntmps38
  go_wp2_with (first
    | ((with_reducible refine copy_row rfl (.tmp 8) (.tmp 9) rfl A m cap k n t rfl B l cb N rfl HB.out hm HA.out ?_); intro w1 r ht1 hr1 hg1; have HM1 := Lib.hid (HM.out.same fun j hj => hg1.block j (HM.out.lt hj) (fun e => by obtain ⟨rfl, h0⟩ := hr1 j e.symm; exact HM.out.not (HA.out h0).2.1 (by decide) hj)); have HT1 := Lib.hid ht1; have HR1 := Lib.hid hr1; have HG1 := Lib.hid hg1; clear ht1 hr1 hg1)
    | (go_at_call 36; (with_reducible refine (Met.add_move w1 p a b c d _ HM1.out ha hb hc hd (by omega)).mono ?_); rintro e w2 ⟨rfl, hM2, hg2⟩; have HM2 := Lib.hid hM2; have HG2 := Lib.hid hg2; clear hM2 hg2))
  go_ret
  exact ⟨rfl, fun h0 => (HT1.out h0).same (HG2.out.block k (HT1.out h0).lt (HM1.out.not (HT1.out h0) (by decide))), HM2.out, w1, r, HR1.out, HG1.out, HG2.out⟩
theorem made_zeros (n : Nat) : madeCells (Value.int .u8 0).cells (n * 1) = (vals (List.replicate n 0)).toArray := by
  apply Array.ext_getElem?
  intro j
  by_cases hj : j < n
  · simp only [madeCells, vals, List.map_replicate, List.toArray_replicate, Array.getElem?_map, Array.getElem?_replicate, if_pos hj]
    rw [Array.getElem?_range]
    have : j % 1 = 0 := Nat.mod_one j
    simp [Value.cells, hj, this]
  · simp [madeCells, vals, Value.cells, hj]
/-- make([]byte, n). -/
theorem wp_make_bytes {w : World} {o : Oper} {a : Act} {K : Act → World → Prop} {Q : Exit → Act → World → Prop} (l c : Operand) (hop : o.op = .makeSlice 38 l c) (n : Nat) (hl : a.eval l = .int .i64 (n : Int)) (hc : a.eval c = .int .i64 (n : Int)) (hn : n ≤ 10000000000)
    (hK : ∀ w', Row w' w.heap.size (List.replicate n 0) → Below w.heap.size w w' → K (a.put o.dst (.slice (some ⟨w.heap.size, 0, none⟩) n n)) w') : o.wp Try.prog a w K Q := by
  obtain ⟨i0, hi, hz0, hz1, hz2⟩ := info_parts info5
  obtain ⟨w', hrun, r1, r2⟩ := run_make_full (P := Try.prog) w w.heap.size 38 5 i0 (.int .u8 0) 1 und22 hi hz0 hz1 .i64 .i64 n (by rw [hz2]; omega) (by unfold maxLen; omega) (Nat.le_refl _)
  have hg : Row w' w.heap.size (List.replicate n 0) := by
    rcases r1.2 with ⟨e, _⟩ | ⟨g, cap, cur, e, _, hh, _, _, hs, ht⟩
    · cases e
    · injection e with e1 e2 e3
      have eg : w.heap.size = g := by simpa using e1
      subst eg
      subst e3
      have : cur = (vals (List.replicate n 0)).toArray := by
        rw [← made_zeros]
        apply Array.toList_inj.1
        rw [← ht]
        exact (List.take_of_length_le (by rw [Array.length_toList, hs]; exact Nat.le_refl _)).symm
      unfold Row
      rw [hh, this]
  unfold Oper.wp
  simp [execOp, hop, hl, hc, hrun, Result.andThen]
  exact hK _ hg ((Below.refl _ w).grown r2 (Nat.le_refl _) (fun k hk => by cases hk))
theorem make_list {w : World} {ops : Array Oper} {rest : List Oper} {o : Oper} {a : Act} {Q : Exit → Act → World → Prop} (hgd : o.guard = none) (l c : Operand) (hop : o.op = .makeSlice 38 l c) (n : Nat) (hl : a.eval l = .int .i64 (n : Int)) (hc : a.eval c = .int .i64 (n : Int)) (hn : n ≤ 10000000000)
    (h : ∀ w', Row w' w.heap.size (List.replicate n 0) → Below w.heap.size w w' → wpList Try.prog ops Q rest (a.put o.dst (.slice (some ⟨w.heap.size, 0, none⟩) n n)) w') : wpList Try.prog ops Q (o :: rest) a w :=
  wpList_plain hgd fun K hK => wp_make_bytes l c hop n hl hc hn fun w' h1 h2 => hK _ _ (h w' h1 h2)
end Go.Proofs.Ytcekifknbljbiaa.Win
/- A window; what widen answers. -/
namespace Go.Proofs.Ytcekifknbljbiaa.Win
open Go.Proofs.Ytcekifknbljbiaa.Stm Go.Proofs.Ytcekifknbljbiaa.Reg Go.RowKit Go.Maps
set_option maxRecDepth 100000
set_option linter.unusedVariables false
/-- What widen gives: room for so many bytes. -/
def GivesWide (w : World) (g : Nat) (d : Option Nat) (mp : Option Addr) (held : Stm.Tx) (room need : Nat) (s l hu mv : Int) (e : Ending) (w' : World) : Prop :=
  e = .returned (.tuple #[]) ∧ ∃ d' room', (d' = d ∨ ∃ k, d' = some k ∧ w.heap.size ≤ k) ∧ room' = (if room < need then grown room need else room) ∧ Wd w' g d' mp held room' ∧
    Met.Mt w' mp s l hu (mv + ((if room < need then held.length else 0 : Nat) : Int)) ∧ Touch w w' g d mp
theorem widen_small (w : World) (g : Nat) (d : Option Nat) (mp : Option Addr) (held : Stm.Tx) (room : Nat) (h : Wd w g d mp held room) (need : Nat) (hn : ¬ room < need) (s l hu mv : Int) (hM : Met.Mt w mp s l hu mv) :
    Calls Try.prog 37 #[.pointer (some ⟨g, 0, none⟩), .int .i64 (need : Int)] w (GivesWide w g d mp held room need s l hu mv) := by
  have hlt := h.lt.1
  obtain ⟨c0, c1, c2⟩ := Blk3.cells h.1
  have H := Lib.hid h
  have HM := Lib.hid hM
  have hle : decide ((need : Int) ≤ (room : Int)) = true := by rw [decide_eq_true_iff]; omega
  clear h hM
  go_enter Try.func37, Try.ntmps37
  go_wp2
  refine bodyPost_ret (v := .tuple #[]) (by simp [results, Try.results37, go_sem]) rfl ?_
  refine ⟨rfl, d, room, Or.inl rfl, by rw [if_neg hn], H.out, ?_, Touch.of_below (Below.refl _ _)⟩
  rw [if_neg hn]
  simpa using HM.out
theorem widen_big (w : World) (g : Nat) (d : Option Nat) (mp : Option Addr) (held : Stm.Tx) (room : Nat) (h : Wd w g d mp held room) (hr : room ≤ 1000000000) (need : Nat) (hn : room < need) (hz : need ≤ 2000000000) (s l hu mv : Int) (hM : Met.Mt w mp s l hu mv)
    (hs : 0 ≤ s ∧ s ≤ 1000000000000) (hl' : 0 ≤ l ∧ l ≤ 1000000000000) (hh : 0 ≤ hu ∧ hu ≤ 1000000000000) (hm : 0 ≤ mv ∧ mv ≤ 1000000000000) (hmp : ∀ k, Met.blk mp = some k → k ≠ g ∧ d ≠ some k) :
    Calls Try.prog 37 #[.pointer (some ⟨g, 0, none⟩), .int .i64 (need : Int)] w (GivesWide w g d mp held room need s l hu mv) := by
  have hlt := h.lt.1
  obtain ⟨c0, c1, c2⟩ := Blk3.cells h.1
  have H := Lib.hid h
  have HM := Lib.hid hM
  have hle : decide ((need : Int) ≤ (room : Int)) = false := by rw [decide_eq_false_iff_not]; omega
  have q2 : IntKind.i64.wrap (2 * (room : Int)) = 2 * (room : Int) := IntWalk.i64_in _ (by omega)
  have hf := h.fits
  obtain ⟨N, HN⟩ : ∃ N, Hid (N = grown room need) := ⟨_, Lib.hid rfl⟩
  have hN : (N : Int) = max (max (2 * (room : Int)) (need : Int)) 16 := by rw [HN.out]; unfold grown; omega
  have HNI : Hid ((if (if 2 * (room : Int) < (need : Int) then (need : Int) else 2 * (room : Int)) < 16 then 16 else if 2 * (room : Int) < (need : Int) then (need : Int) else 2 * (room : Int)) = (N : Int)) := Lib.hid (by rw [hN]; split <;> split <;> omega)
  have hNz : N ≤ 10000000000 := by omega
  have hNh : held.length ≤ N := by omega
  clear hN
  clear h hM
  go_enter Try.func37, Try.ntmps37
  go_wp2_with (first
    | (at_make; refine make_list rfl (.tmp 19) (.tmp 19) rfl N (congrArg (Value.int .i64) HNI.out) (congrArg (Value.int .i64) HNI.out) hNz ?_; rw [HNI.out]; intro w1 hr1 hb1; have HR1 := Lib.hid hr1; have HB1 := Lib.hid hb1; have HC : Hid (w1.drew.cell? ⟨g, 0, none⟩ = some (.pointer mp)) := Lib.hid ((hb1.cell (p := ⟨g, 0, none⟩) hlt).trans c0); clear hr1 hb1))
  refine wp_region_held_drew (S := fun w' => w'.cell? ⟨g, 0, none⟩ = some (.pointer mp)) (by kernel_rfl) HC.out (fun hH0 => ?_)
  have B0 := Lib.hid (below_drews HB1.out 1)
  have R0 := Lib.hid (HR1.out.same (W' := w1.drew) rfl)
  change Hid (Below _ _ w1.drew) at B0
  change Hid (Row w1.drew _ _) at R0
  generalize w1.drew = x0 at *
  refine held_take (i := 0) (d := 21) (oi := _) (v := ?_) rfl rfl (by kernel_rfl) (by kernel_rfl) (by kernel_rfl) (fun _ _ _ h => h) (Or.inl ⟨by rfl, ?_⟩) (by assumption) ?_
  rotate_left
  · (intro w hSw; go_simp; (try with_reducible rfl))
  simp only [Act.put, List.setIfInBounds_toArray, List.set_cons_zero, List.set_cons_succ]
  refine held_take (i := 1) (d := 22) (oi := _) (v := ?_) rfl rfl (by kernel_rfl) (by kernel_rfl) (by kernel_rfl) (fun _ _ _ h => h) (Or.inl ⟨by rfl, ?_⟩) (by assumption) ?_
  rotate_left
  · (intro w hSw; go_simp; (try with_reducible rfl))
  simp only [Act.put, List.setIfInBounds_toArray, List.set_cons_zero, List.set_cons_succ]
  refine held_take (i := 2) (d := 23) (oi := _) (v := ?_) rfl rfl (by kernel_rfl) (by kernel_rfl) (by kernel_rfl) (fun _ _ _ h => h) (Or.inl ⟨by rfl, ?_⟩) (by assumption) ?_
  rotate_left
  · (intro w hSw; go_simp; (try with_reducible rfl))
  simp only [Act.put, List.setIfInBounds_toArray, List.set_cons_zero, List.set_cons_succ]
  refine held_take (i := 3) (d := 24) (oi := _) (v := ?_) rfl rfl (by kernel_rfl) (by kernel_rfl) (by kernel_rfl) (fun _ _ _ h => h) (Or.inl ⟨by rfl, ?_⟩) (by assumption) ?_
  rotate_left
  · (intro w hSw; go_simp; (try with_reducible rfl))
  simp only [Act.put, List.setIfInBounds_toArray, List.set_cons_zero, List.set_cons_succ]
  refine held_take (i := 4) (d := 25) (oi := _) (v := ?_) rfl rfl (by kernel_rfl) (by kernel_rfl) (by kernel_rfl) (fun _ _ _ h => h) (Or.inl ⟨by rfl, ?_⟩) (by assumption) ?_
  rotate_left
  · (intro w hSw; go_simp; (try with_reducible rfl))
  simp only [Act.put, List.setIfInBounds_toArray, List.set_cons_zero, List.set_cons_succ]
  refine held_take (i := 5) (d := 26) (oi := _) (v := ?_) rfl rfl (by kernel_rfl) (by kernel_rfl) (by kernel_rfl) (fun _ _ _ h => h) (Or.inl ⟨by rfl, ?_⟩) (by assumption) ?_
  rotate_left
  · (intro w hSw; go_simp; (try with_reducible rfl))
  simp only [Act.put, List.setIfInBounds_toArray, List.set_cons_zero, List.set_cons_succ]
  refine wpAnyH_ready (rs := [6]) (by kernel_rfl) (by simp) ?_
  refine AllReadyH.cons rfl (fun K hK => ?_) AllReadyH.nil
  go_simp
  go_wp2_with (go_at_call 45; (with_reducible refine (wheld_any x0 g d mp held room (H.out.keep B0.out) (by omega)).mono ?_); rintro e x1 ⟨rfl, q, hq⟩; have HQ := Lib.hid hq; clear hq)
  have B1 : Hid (Below w.heap.size w x1) := Lib.hid (by rw [HQ.out]; exact below_drews B0.out q)
  have R1 : Hid (Row x1 w.heap.size (List.replicate N 0)) := Lib.hid (R0.out.same (by rw [HQ.out]; rfl))
  have hH1 : x1.cell? ⟨g, 0, none⟩ = some (.pointer mp) := (B1.out.cell (p := ⟨g, 0, none⟩) hlt).trans c0
  refine hK.out _ _ hH1 (fun _ => ?_)
  clear hK K hH0 B0 R0 HQ
  refine wpAnyH_ready (rs := [7]) (by kernel_rfl) (by simp) ?_
  refine AllReadyH.cons rfl (fun K hK => ?_) AllReadyH.nil
  go_simp
  go_wp2_with (go_at_call 38; (with_reducible refine (copy_fit x1 mp (some ⟨w.heap.size, 0, none⟩) N N w.heap.size 0 (List.replicate N 0) _ held held.length x1.heap.size (H.out.keep B1.out).bs (by omega) (by omega) (fun _ => ⟨rfl, R1.out, by rw [List.length_replicate]; omega⟩) s l hu mv (HM.out.keep B1.out) hs hl' hh hm).mono ?_); rintro e x2 ⟨rfl, hr2, hm2, y, r, h1, h2, h3⟩; have HR2 := Lib.hid hr2; have HM2 := Lib.hid hm2; have H1 := Lib.hid h1; have H2 := Lib.hid h2; have H3 := Lib.hid h3; clear hr2 hm2 h1 h2 h3)
  have h2 := H.out.1
  have hgr : Met.blk mp ≠ some g := fun e => (hmp g e).1 rfl
  have E2 : x2.heap[g]? = w.heap[g]? := by
    have e1 := B1.out.block g hlt
    have e2 := H2.out.block g (Nat.lt_of_lt_of_le hlt B1.out.size) (fun e => by have := (H1.out g e.symm).1; omega)
    have e3 := H3.out.block g (Nat.lt_of_lt_of_le hlt (Nat.le_trans B1.out.size H2.out.size)) (fun e => hgr e.symm)
    exact e3.trans (e2.trans e1)
  have b2 : Blk3 x2 g 84 (.pointer mp) (rowOf d room) (.int .i64 (held.length : Int)) := h2.same' E2
  have hR : Row x2 w.heap.size (put (List.replicate N 0) 0 held) := by
    rcases Nat.eq_zero_or_pos held.length with e | e
    · have e' : held = [] := List.eq_nil_of_length_eq_zero e
      subst e'
      refine (R1.out.same ((H3.out.block _ (Nat.lt_of_lt_of_le R1.out.lt H2.out.size) (fun e => by have := HM.out.lt e; omega)).trans (H2.out.block _ R1.out.lt (fun e => by have := (H1.out _ e.symm).2; simp at this))))
    · exact HR2.out e
  have hT : Touch w x2 g d mp := ((Touch.of_below B1.out).trans (Touch.of_grown (d := some w.heap.size) H2.out (fun k e _ => Or.inr (Or.inl (by rw [(H1.out k e).1])))) (Or.inr ⟨_, rfl, Nat.le_refl _⟩)).trans (Touch.of_grown (d := d) H3.out (fun k e _ => Or.inr (Or.inr e))) (Or.inl rfl)
  have HB2 := Lib.hid b2
  have HR := Lib.hid hR
  have HT := Lib.hid hT
  have HE2 := Lib.hid E2
  obtain ⟨d0, d1, d2⟩ := Blk3.cells b2
  obtain ⟨f0, f1, f2⟩ := Blk3.free b2
  clear h2 hR hT E2 b2 HR2 H1 H2 H3
  refine hK.out _ _ d0 (fun _ => ?_)
  clear hK K hH1
  refine wpAnyH_done (by kernel_rfl) ?_ _
  go_wp2
  go_end0
  have hne : w.heap.size ≠ g := by omega
  have hl0 : 0 + held.length ≤ (List.replicate N (0 : UInt8)).length := by rw [List.length_replicate]; omega
  have hp1 := put_length hl0
  have hp2 := put_take hl0
  rw [List.length_replicate] at hp1
  rw [Nat.zero_add, List.take_zero, List.nil_append] at hp2
  refine ⟨rfl, some w.heap.size, N, Or.inr ⟨_, rfl, Nat.le_refl _⟩, by rw [if_pos hn]; exact HN.out, ⟨?_, (fun e => by cases e), hNh, put (List.replicate N 0) 0 held, hp1, hp2, fun k hk => by cases hk; exact ⟨hne, HR.out.same (Below.heap_setCell _ _ _ _ hne)⟩⟩, ?_, HT.out.trans (Touch.of_grown (d := d) (Met.grown_set x2 g 1 _) (fun k e _ => Or.inl (by cases e; rfl))) (Or.inl rfl)⟩
  · have := HB2.out
    unfold Blk3 at this ⊢
    rw [heap_set_same this]
    rfl
  · rw [if_pos hn]
    exact HM2.out.same fun k hk => Below.heap_setCell _ _ _ _ (fun e => hgr (by rw [← hk, e]))
theorem widen_any (w : World) (g : Nat) (d : Option Nat) (mp : Option Addr) (held : Stm.Tx) (room : Nat) (h : Wd w g d mp held room) (hr : room ≤ 1000000000) (need : Nat) (hz : need ≤ 2000000000) (ni : Int) (hni : ni = (need : Int)) (s l hu mv : Int) (hM : Met.Mt w mp s l hu mv)
    (hs : 0 ≤ s ∧ s ≤ 1000000000000) (hl' : 0 ≤ l ∧ l ≤ 1000000000000) (hh : 0 ≤ hu ∧ hu ≤ 1000000000000) (hm : 0 ≤ mv ∧ mv ≤ 1000000000000) (hmp : ∀ k, Met.blk mp = some k → k ≠ g ∧ d ≠ some k) :
    Calls Try.prog 37 #[.pointer (some ⟨g, 0, none⟩), .int .i64 ni] w (GivesWide w g d mp held room need s l hu mv) := by
  subst hni
  by_cases hn : room < need
  · exact widen_big w g d mp held room h hr need hn hz s l hu mv hM hs hl' hh hm hmp
  · exact widen_small w g d mp held room h need hn s l hu mv hM
end Go.Proofs.Ytcekifknbljbiaa.Win
/- A window; what Add answers. -/
namespace Go.Proofs.Ytcekifknbljbiaa.Win
open Go.Proofs.Ytcekifknbljbiaa.Stm Go.Proofs.Ytcekifknbljbiaa.Reg Go.RowKit Go.Maps
set_option maxRecDepth 100000
set_option linter.unusedVariables false
/-- What a call of Add gives. -/
def GivesAdd (w : World) (g : Nat) (d : Option Nat) (mp : Option Addr) (held : Stm.Tx) (room : Nat) (b : Stm.Tx) (s l hu mv : Int) (e : Ending) (w' : World) : Prop :=
  e = .returned (.tuple #[]) ∧ ∃ d', (d' = d ∨ ∃ k, d' = some k ∧ w.heap.size ≤ k) ∧ Wd w' g d' mp (held ++ b) ((Wn.mk held room 0).add b).room ∧ Met.Mt w' mp s l hu (mv + (((Wn.mk held room 0).add b).move : Int)) ∧ Touch w w' g d mp
theorem room_add (held b : Stm.Tx) (room : Nat) (h : held.length ≤ room) : ((Wn.mk held room 0).add b).room = (if room < held.length + b.length then grown room (held.length + b.length) else room) := by
  unfold Wn.add
  by_cases e : b = []
  · subst e; rw [if_pos rfl, if_neg (by simp only [List.length_nil]; omega)]
  · rw [if_neg e]; simp only; split <;> rfl
theorem move_add (held b : Stm.Tx) (room : Nat) (h : held.length ≤ room) : ((Wn.mk held room 0).add b).move = (if room < held.length + b.length then held.length else 0) + b.length := by
  unfold Wn.add
  by_cases e : b = []
  · subst e; rw [if_pos rfl, if_neg (by simp only [List.length_nil]; omega)]; simp
  · rw [if_neg e]; simp only; split <;> simp
theorem Touch.bs {W W' : World} {g : Nat} {d : Option Nat} {mp : Option Addr} (h : Touch W W' g d mp) {a : Option Addr} {b : Stm.Tx} {s l hu mv : Int} (hb : Bs W W.heap.size a b) (hne : 0 < b.length → ∀ ad : Addr, a = some ad → ad.block ≠ g ∧ d ≠ some ad.block) (hM : Met.Mt W mp s l hu mv) : Bs W' W'.heap.size a b := fun h0 => by
  obtain ⟨k, off, e, hlt, hc⟩ := hb h0
  obtain ⟨n1, n2⟩ := hne h0 _ e
  have hh := h.block k hlt n1 n2 (fun e' => hM.byte (hc 0 h0) e'.symm)
  refine ⟨k, off, e, Nat.lt_of_lt_of_le hlt h.size, fun i hi => ?_⟩
  rw [← hc i hi]
  unfold World.cell?
  rw [hh]
/-- What stands behind the bytes were copied. -/
structure Mid (w x : World) (g : Nat) (d : Option Nat) (mp : Option Addr) (d1 : Option Nat) (held : Stm.Tx) (room1 : Nat) (t b : Stm.Tx) (s l hu mv : Int) : Prop where
  mblk : Blk3 x g 84 (.pointer mp) (rowOf d1 room1) (.int .i64 (held.length : Int))
  mrows : ∀ k, d1 = some k → k ≠ g ∧ Row x k (put t held.length b)
  mmt : Met.Mt x mp s l hu mv
  mtouch : Touch w x g d mp
theorem mid_of {w x0 x1 : World} {g : Nat} {d : Option Nat} {mp : Option Addr} {d1 : Option Nat} {held : Stm.Tx} {room1 : Nat} {t b : Stm.Tx} {s l hu mv : Int} {e : Ending} (hT : Touch w x0 g d mp) (hd : d1 = d ∨ ∃ k, d1 = some k ∧ w.heap.size ≤ k)
    (hblk : Blk3 x0 g 84 (.pointer mp) (rowOf d1 room1) (.int .i64 (held.length : Int))) (hrow : ∀ k, d1 = some k → k ≠ g ∧ Row x0 k t) (hM : Met.Mt x0 mp s l hu mv) (hg : Met.blk mp ≠ some g) (hA : 0 < b.length → d1 = some (d1.getD 0))
    (h : GivesCopy x0 mp (d1.getD 0) held.length b t s l hu mv e x1) : e = .returned (.int .i64 (b.length : Int)) ∧ Mid w x1 g d mp d1 held room1 t b s l hu (mv + (b.length : Int)) := by
  obtain ⟨rfl, hr, hm, y, r, h1, h2, h3⟩ := h
  have hgl := hblk.lt
  have hrg : some g ≠ r := fun e => by
    obtain ⟨e1, e2⟩ := h1 g e.symm
    exact (hrow _ (hA e2)).1 e1.symm
  have E : x1.heap[g]? = x0.heap[g]? := (h3.block g (Nat.lt_of_lt_of_le hgl h2.size) (fun e => hg e.symm)).trans (h2.block g hgl hrg)
  refine ⟨rfl, hblk.same' E, fun k hk => ⟨(hrow k hk).1, ?_⟩, hm, ?_⟩
  · rcases Nat.eq_zero_or_pos b.length with e | e
    · have e' : b = [] := List.eq_nil_of_length_eq_zero e
      subst e'
      have hk' := (hrow k hk).2
      have ep : put t held.length [] = t := by simp [put]
      rw [ep]
      exact hk'.same ((h3.block k (Nat.lt_of_lt_of_le hk'.lt h2.size) (hM.not hk' (by decide))).trans (h2.block k hk'.lt (fun e => by have := (h1 k e.symm).2; simp at this)))
    · have hk0 := hA e
      rw [hk] at hk0
      have : d1.getD 0 = k := by rw [hk]; rfl
      rw [← this]
      exact hr e
  · exact (hT.trans (Touch.of_grown (d := d1) h2 (fun k e _ => Or.inr (Or.inl (by obtain ⟨e1, e2⟩ := h1 k e; rw [e1]; exact hA e2)))) hd).trans (Touch.of_grown (d := d) h3 (fun k e _ => Or.inr (Or.inr e))) (Or.inl rfl)
/-- And behind the new length was stored. -/
theorem Mid.stored {w x : World} {g : Nat} {d : Option Nat} {mp : Option Addr} {d1 : Option Nat} {held : Stm.Tx} {room room1 : Nat} {t b : Stm.Tx} {s l hu mv : Int} (hM : Mid w x g d mp d1 held room1 t b s l hu (mv + ((if room < held.length + b.length then held.length else 0 : Nat) : Int) + (b.length : Int))) (hd : d1 = d ∨ ∃ k, d1 = some k ∧ w.heap.size ≤ k)
    (hf : held.length ≤ room) (hrm : room1 = (if room < held.length + b.length then grown room (held.length + b.length) else room)) (hn : d1 = none → room1 = 0) (hfit : held.length + b.length ≤ room1) (ht : t.length = room1) (htk : t.take held.length = held) (hg : Met.blk mp ≠ some g) :
    GivesAdd w g d mp held room b s l hu mv (.returned (.tuple #[])) (x.setCell ⟨g, 2, none⟩ (.int .i64 ((held.length : Int) + (b.length : Int)))) := by
  refine ⟨rfl, d1, hd, ?_, ?_, hM.mtouch.trans (Touch.of_grown (d := d) (Met.grown_set x g 2 _) (fun k e _ => Or.inl (by cases e; rfl))) (Or.inl rfl)⟩
  · rw [room_add held b room hf, ← hrm]
    have hl0 : held.length + b.length ≤ t.length := by omega
    have hp2 := put_take hl0
    rw [htk] at hp2
    refine ⟨?_, hn, by rw [List.length_append]; exact hfit, put t held.length b, (put_length hl0).trans ht, by rw [List.length_append]; exact hp2, fun k hk => ⟨(hM.mrows k hk).1, (hM.mrows k hk).2.same (Below.heap_setCell _ _ _ _ (hM.mrows k hk).1)⟩⟩
    have := hM.mblk
    unfold Blk3 at this ⊢
    rw [heap_set_same this, List.length_append, Int.natCast_add]
    rfl
  · rw [move_add held b room hf, Int.natCast_add, ← Int.add_assoc]
    exact hM.mmt.same fun k hk => Below.heap_setCell _ _ _ _ (fun e => hg (by rw [← hk, e]))
theorem slice_from (d : Option Nat) (room n : Nat) (hn : n ≤ room) (h : d = none → room = 0) (hr : room ≤ 10000000000) (w : World) : (Instr.slice 38 (rowOf d room) (some (.int .i64 (n : Int))) none none).run Try.prog w = .ok (.slice (d.map fun k => ⟨k, if room = n then 0 else n, none⟩) (room - n) (room - n)) w := by
  rcases d with _ | k
  · have := h rfl
    subst this
    have : n = 0 := by omega
    subst this
    go_simp
  · go_simp
    split <;> rfl
/-- A cell beside the one that is stored to. -/
theorem cell_other (w : World) (g i j : Nat) (v : Value) (h : i ≠ j) : (w.setCell ⟨g, i, none⟩ v).cell? ⟨g, j, none⟩ = w.cell? ⟨g, j, none⟩ :=
  World.cell?_setCell_other _ _ _ _ (fun e => h (by injection e))
set_option maxHeartbeats 4000000 in
theorem wadd_any (w : World) (g : Nat) (d : Option Nat) (mp : Option Addr) (held : Stm.Tx) (room : Nat) (h : Wd w g d mp held room) (b : Stm.Tx) (a : Option Addr) (c : Nat) (hb : Bs w w.heap.size a b) (hne : 0 < b.length → ∀ ad : Addr, a = some ad → ad.block ≠ g ∧ d ≠ some ad.block)
    (hr : room ≤ 1000000000) (hl : b.length ≤ 1000000000) (s l hu mv : Int) (hM : Met.Mt w mp s l hu mv) (hs : 0 ≤ s ∧ s ≤ 1000000000000) (hl' : 0 ≤ l ∧ l ≤ 1000000000000) (hh : 0 ≤ hu ∧ hu ≤ 1000000000000) (hm : 0 ≤ mv ∧ mv ≤ 900000000000)
    (hmp : ∀ k, Met.blk mp = some k → k ≠ g ∧ d ≠ some k) :
    Calls Try.prog 31 #[.pointer (some ⟨g, 0, none⟩), .slice a b.length c] w (GivesAdd w g d mp held room b s l hu mv) := by
  have hlt := h.lt.1
  have hf := h.fits
  obtain ⟨c0, c1, c2⟩ := Blk3.cells h.1
  have H := Lib.hid h
  have HM := Lib.hid hM
  have HB := Lib.hid hb
  have HNE := Lib.hid hne
  have q1 : IntKind.i64.wrap ((held.length : Int) + (b.length : Int)) = (held.length : Int) + (b.length : Int) := IntWalk.i64_in _ (by omega)
  clear h hM hb hne
  go_enter Try.func31, Try.ntmps31
  go_wp2_with (go_at_call 37; (with_reducible refine (widen_any w g d mp held room H.out hr (held.length + b.length) (by omega) ((held.length : Int) + (b.length : Int)) (Int.natCast_add _ _).symm s l hu mv HM.out hs hl' hh (by omega) hmp).mono ?_); rintro e w1 ⟨rfl, d1, room1, h1, h2, h3, h4, h5⟩; have H1 := Lib.hid h1; have H2 := Lib.hid h2; have H3 := Lib.hid h3; have H4 := Lib.hid h4; have H5 := Lib.hid h5; clear h1 h2 h3 h4 h5)
  obtain ⟨hblk, hnr, hf1, t, htl, htk, hrow⟩ := H3.out
  have HNR := Lib.hid hnr
  have HTL := Lib.hid htl
  have HTK := Lib.hid htk
  have hr1 : room1 ≤ 10000000000 := by rw [H2.out]; unfold grown; split <;> omega
  have hfit : held.length + b.length ≤ room1 := by rw [H2.out]; unfold grown; split <;> omega
  have hgr : Met.blk mp ≠ some g := fun e => (hmp g e).1 rfl
  obtain ⟨A, HAE⟩ : ∃ A : Option Addr, Hid (A = d1.map fun k => ⟨k, if room1 = held.length then 0 else held.length, none⟩) := ⟨_, Lib.hid rfl⟩
  have HSL : Hid (∀ w : World, (Instr.slice 38 (rowOf d1 room1) (some (.int .i64 (held.length : Int))) none none).run Try.prog w = .ok (.slice A (room1 - held.length) (room1 - held.length)) w) := Lib.hid (fun w => by rw [HAE.out]; exact slice_from d1 room1 held.length (by omega) hnr hr1 w)
  obtain ⟨e0, e1, e2⟩ := Blk3.cells hblk
  have HBL := Lib.hid hblk
  have HRW := Lib.hid hrow
  have HDD : Hid (0 < b.length → d1 = some (d1.getD 0)) := Lib.hid (fun h0 => by rcases d1 with _ | k; exact absurd (hnr rfl) (by omega); rfl)
  clear hblk hrow hnr htl htk
  refine wp_region_held_drew (S := fun w' => w'.cell? ⟨g, 0, none⟩ = some (.pointer mp) ∧ w'.cell? ⟨g, 1, none⟩ = some (rowOf d1 room1)) (by kernel_rfl) ⟨e0, e1⟩ (fun hH0 => ?_)
  have HBL : Hid (Blk3 w1.drew g 84 (.pointer mp) (rowOf d1 room1) (.int .i64 (held.length : Int))) := Lib.hid HBL.out
  have HRW : Hid (∀ k, d1 = some k → k ≠ g ∧ Row w1.drew k t) := Lib.hid HRW.out
  have HT0 : Hid (Touch w w1.drew g d mp) := Lib.hid (H5.out.trans (Touch.of_below (d := d) (below_drews (Below.refl _ w1) 1)) (Or.inl rfl))
  have HM0 : Hid (Met.Mt w1.drew mp s l hu (mv + ((if room < held.length + b.length then held.length else 0 : Nat) : Int))) := Lib.hid (H4.out.keep (below_drews (Below.refl _ w1) 1))
  have e2 : w1.drew.cell? ⟨g, 2, none⟩ = some (.int .i64 (held.length : Int)) := e2
  have HB0 : Hid (Bs w1.drew w1.drew.heap.size a b) := Lib.hid (HT0.out.bs HB.out HNE.out HM.out)
  have HMV : Hid (0 ≤ mv + ((if room < held.length + b.length then held.length else 0 : Nat) : Int) ∧ mv + ((if room < held.length + b.length then held.length else 0 : Nat) : Int) ≤ 1000000000000) := Lib.hid (by split <;> omega)
  clear H3 H4 H5 e0 e1
  generalize w1.drew = x0 at *
  have HA : Hid (0 < b.length → A = some ⟨d1.getD 0, held.length, none⟩ ∧ Row x0 (d1.getD 0) t ∧ held.length + b.length ≤ t.length) := Lib.hid (fun h0 => by have e := HDD.out h0; refine ⟨?_, (HRW.out _ e).2, by rw [HTL.out]; exact hfit⟩; rw [HAE.out, e, if_neg (by omega)]; rfl)
  refine held_take (i := 0) (d := 15) (oi := _) (v := ?_) rfl rfl (by kernel_rfl) (by kernel_rfl) (by kernel_rfl) (fun _ _ _ h => h) (Or.inl ⟨by rfl, ?_⟩) (by assumption) ?_
  rotate_left
  · (intro w hSw; obtain ⟨s0, s1⟩ := hSw; go_simp; (try with_reducible rfl))
  simp only [Act.put, List.setIfInBounds_toArray, List.set_cons_zero, List.set_cons_succ]
  refine held_take (i := 1) (d := 16) (oi := _) (v := ?_) rfl rfl (by kernel_rfl) (by kernel_rfl) (by kernel_rfl) (fun _ _ _ h => h) (Or.inl ⟨by rfl, ?_⟩) (by assumption) ?_
  rotate_left
  · (intro w hSw; obtain ⟨s0, s1⟩ := hSw; go_simp; (try with_reducible rfl))
  simp only [Act.put, List.setIfInBounds_toArray, List.set_cons_zero, List.set_cons_succ]
  refine held_take (i := 2) (d := 17) (oi := _) (v := ?_) rfl rfl (by kernel_rfl) (by kernel_rfl) (by kernel_rfl) (fun _ _ _ h => h) (Or.inl ⟨by rfl, ?_⟩) (by assumption) ?_
  rotate_left
  · (intro w hSw; obtain ⟨s0, s1⟩ := hSw; go_simp; (try with_reducible rfl))
  simp only [Act.put, List.setIfInBounds_toArray, List.set_cons_zero, List.set_cons_succ]
  refine held_take (i := 4) (d := 19) (oi := _) (v := ?_) rfl rfl (by kernel_rfl) (by kernel_rfl) (by kernel_rfl) (fun _ _ _ h => h) (Or.inl ⟨by rfl, ?_⟩) (by assumption) ?_
  rotate_left
  · (intro w hSw; obtain ⟨s0, s1⟩ := hSw; go_simp; (try with_reducible rfl))
  simp only [Act.put, List.setIfInBounds_toArray, List.set_cons_zero, List.set_cons_succ]
  refine held_take (i := 5) (d := 20) (oi := _) (v := ?_) rfl rfl (by kernel_rfl) (by kernel_rfl) (by kernel_rfl) (fun _ _ _ h => h) (Or.inl ⟨by rfl, ?_⟩) (by assumption) ?_
  rotate_left
  · (intro w hSw; obtain ⟨s0, s1⟩ := hSw; go_simp; (try with_reducible rfl))
  simp only [Act.put, List.setIfInBounds_toArray, List.set_cons_zero, List.set_cons_succ]
  refine held_take (i := 6) (d := 21) (oi := _) (v := ?_) rfl rfl (by kernel_rfl) (by kernel_rfl) (by kernel_rfl) (fun _ _ _ h => h) (Or.inl ⟨by rfl, ?_⟩) (by assumption) ?_
  rotate_left
  · (intro w hSw; obtain ⟨s0, s1⟩ := hSw; go_simp; (try with_reducible rfl))
  simp only [Act.put, List.setIfInBounds_toArray, List.set_cons_zero, List.set_cons_succ]
  refine held_take (i := 7) (d := 22) (oi := _) (v := ?_) rfl rfl (by kernel_rfl) (by kernel_rfl) (by kernel_rfl) (fun _ _ _ h => h) (Or.inl ⟨by rfl, ?_⟩) (by assumption) ?_
  rotate_left
  · (intro w hSw; obtain ⟨s0, s1⟩ := hSw; go_simp; (try with_reducible rfl))
  simp only [Act.put, List.setIfInBounds_toArray, List.set_cons_zero, List.set_cons_succ]
  refine held_take (i := 8) (d := 23) (oi := _) (v := ?_) rfl rfl (by kernel_rfl) (by kernel_rfl) (by kernel_rfl) (fun _ _ _ h => h) (Or.inl ⟨by rfl, ?_⟩) (by assumption) ?_
  rotate_left
  · (intro w hSw; obtain ⟨s0, s1⟩ := hSw; go_simp; (try with_reducible rfl))
  simp only [Act.put, List.setIfInBounds_toArray, List.set_cons_zero, List.set_cons_succ]
  refine held_take (i := 9) (d := 24) (oi := _) (v := ?_) rfl rfl (by kernel_rfl) (by kernel_rfl) (by kernel_rfl) (fun _ _ _ h => h) (Or.inl ⟨by rfl, ?_⟩) (by assumption) ?_
  rotate_left
  · (intro w hSw; obtain ⟨s0, s1⟩ := hSw; go_simp; (try with_reducible rfl))
  simp only [Act.put, List.setIfInBounds_toArray, List.set_cons_zero, List.set_cons_succ]
  refine held_take (i := 10) (d := 25) (oi := _) (v := ?_) rfl rfl (by kernel_rfl) (by kernel_rfl) (by kernel_rfl) (fun _ _ _ h => h) (Or.inl ⟨by rfl, ?_⟩) (by assumption) ?_
  rotate_left
  · (intro w hSw; obtain ⟨s0, s1⟩ := hSw; go_simp; (try with_reducible rfl))
  simp only [Act.put, List.setIfInBounds_toArray, List.set_cons_zero, List.set_cons_succ]
  refine held_take (i := 11) (d := 26) (oi := _) (v := ?_) rfl rfl (by kernel_rfl) (by kernel_rfl) (by kernel_rfl) (fun _ _ _ h => h) (Or.inl ⟨by rfl, ?_⟩) (by assumption) ?_
  rotate_left
  · (intro w hSw; obtain ⟨s0, s1⟩ := hSw; go_simp; (try with_reducible rfl))
  simp only [Act.put, List.setIfInBounds_toArray, List.set_cons_zero, List.set_cons_succ]
  refine held_take (i := 12) (d := 27) (oi := _) (v := ?_) rfl rfl (by kernel_rfl) (by kernel_rfl) (by kernel_rfl) (fun _ _ _ h => h) (Or.inl ⟨by rfl, ?_⟩) (by assumption) ?_
  rotate_left
  · (intro w hSw; obtain ⟨s0, s1⟩ := hSw; go_simp; (try with_reducible rfl))
  simp only [Act.put, List.setIfInBounds_toArray, List.set_cons_zero, List.set_cons_succ]
  refine held_take (i := 13) (d := 28) (oi := _) (v := ?_) rfl rfl (by kernel_rfl) (by kernel_rfl) (by kernel_rfl) (fun _ _ _ h => h) (Or.inl ⟨by rfl, ?_⟩) (by assumption) ?_
  rotate_left
  · (intro w hSw; obtain ⟨s0, s1⟩ := hSw; go_simp; (try with_reducible rfl))
  simp only [Act.put, List.setIfInBounds_toArray, List.set_cons_zero, List.set_cons_succ]
  refine held_take (i := 14) (d := 29) (oi := _) (v := ?_) rfl rfl (by kernel_rfl) (by kernel_rfl) (by kernel_rfl) (fun _ _ _ h => h) (Or.inl ⟨by rfl, ?_⟩) (by assumption) ?_
  rotate_left
  · (intro w hSw; obtain ⟨s0, s1⟩ := hSw; go_simp; (try with_reducible rfl))
  simp only [Act.put, List.setIfInBounds_toArray, List.set_cons_zero, List.set_cons_succ]
  refine held_take (i := 17) (d := 32) (oi := _) (v := ?_) rfl rfl (by kernel_rfl) (by kernel_rfl) (by kernel_rfl) (fun _ _ _ h => h) (Or.inl ⟨by rfl, ?_⟩) (by assumption) ?_
  rotate_left
  · (intro w hSw; obtain ⟨s0, s1⟩ := hSw; go_simp; (try with_reducible rfl))
  simp only [Act.put, List.setIfInBounds_toArray, List.set_cons_zero, List.set_cons_succ]
  refine wpAnyH_ready (rs := [3, 15]) (by kernel_rfl) (by simp) ?_
  refine AllReadyH.cons rfl (fun K hK => ?_) (AllReadyH.cons rfl (fun K hK => ?_) AllReadyH.nil)
  · go_simp
    refine hK.out _ _ hH0 (fun _ => ?_)
    clear hK K
    refine wpAnyH_ready (rs := [15]) (by kernel_rfl) (by simp) ?_
    refine AllReadyH.cons rfl (fun K hK => ?_) AllReadyH.nil
    go_simp
    refine hK.out _ _ hH0 (fun _ => ?_)
    clear hK K
    refine held_take (i := 16) (d := 31) (oi := _) (v := ?_) rfl rfl (by kernel_rfl) (by kernel_rfl) (by kernel_rfl) (fun _ _ _ h => h) (Or.inl ⟨by rfl, ?_⟩) (by assumption) ?_
    rotate_left
    · (intro w hSw; obtain ⟨s0, s1⟩ := hSw; have hsl := HSL.out w; go_simp; (try with_reducible rfl))
    simp only [Act.put, List.setIfInBounds_toArray, List.set_cons_zero, List.set_cons_succ]
    refine wpAnyH_ready (rs := [18]) (by kernel_rfl) (by simp) ?_
    refine AllReadyH.cons rfl (fun K hK => ?_) AllReadyH.nil
    go_simp
    go_wp2_with (go_at_call 38; (with_reducible refine (copy_fit x0 mp A (room1 - held.length) (room1 - held.length) (d1.getD 0) held.length t a b c x0.heap.size HB0.out (by omega) (by omega) HA.out s l hu _ HM0.out hs hl' hh HMV.out).mono ?_); rintro e x1 hgv; obtain ⟨rfl, hmid⟩ := mid_of HT0.out H1.out HBL.out HRW.out HM0.out hgr (fun h0 => (HDD.out h0)) hgv; have HMID := Lib.hid hmid; clear hgv hmid)
    obtain ⟨d0, dd1, d2⟩ := Blk3.cells HMID.out.mblk
    obtain ⟨f0, f1, f2⟩ := Blk3.free HMID.out.mblk
    have hH1 : x1.cell? ⟨g, 0, none⟩ = some (.pointer mp) ∧ x1.cell? ⟨g, 1, none⟩ = some (rowOf d1 room1) := ⟨d0, dd1⟩
    refine hK.out _ _ hH1 (fun _ => ?_)
    clear hK K
    refine held_take (i := 19) (d := 34) (oi := _) (v := ?_) rfl rfl (by kernel_rfl) (by kernel_rfl) (by kernel_rfl) (fun _ _ _ h => h) (Or.inl ⟨by rfl, ?_⟩) (by assumption) ?_
    rotate_left
    · (intro w hSw; obtain ⟨s0, s1⟩ := hSw; go_simp; (try with_reducible rfl))
    simp only [Act.put, List.setIfInBounds_toArray, List.set_cons_zero, List.set_cons_succ]
    refine held_take (i := 20) (d := 35) (oi := _) (v := ?_) rfl rfl (by kernel_rfl) (by kernel_rfl) (by kernel_rfl) (fun _ _ _ h => h) (Or.inl ⟨by rfl, ?_⟩) (by assumption) ?_
    rotate_left
    · (intro w hSw; obtain ⟨s0, s1⟩ := hSw; go_simp; (try with_reducible rfl))
    simp only [Act.put, List.setIfInBounds_toArray, List.set_cons_zero, List.set_cons_succ]
    refine held_take (i := 21) (d := 36) (oi := _) (v := ?_) rfl rfl (by kernel_rfl) (by kernel_rfl) (by kernel_rfl) (fun _ _ _ h => h) (Or.inl ⟨by rfl, ?_⟩) (by assumption) ?_
    rotate_left
    · (intro w hSw; obtain ⟨s0, s1⟩ := hSw; go_simp; (try with_reducible rfl))
    simp only [Act.put, List.setIfInBounds_toArray, List.set_cons_zero, List.set_cons_succ]
    refine wpAnyH_ready (rs := [22]) (by kernel_rfl) (by simp) ?_
    refine AllReadyH.cons rfl (fun K hK => ?_) AllReadyH.nil
    go_simp
    have hH2 : (x1.setCell ⟨g, 2, none⟩ (.int .i64 ((held.length : Int) + (b.length : Int)))).cell? ⟨g, 0, none⟩ = some (.pointer mp) ∧ (x1.setCell ⟨g, 2, none⟩ (.int .i64 ((held.length : Int) + (b.length : Int)))).cell? ⟨g, 1, none⟩ = some (rowOf d1 room1) := ⟨(cell_other x1 g 2 0 _ (by omega)).trans d0, (cell_other x1 g 2 1 _ (by omega)).trans dd1⟩
    refine hK.out _ _ hH2 (fun _ => ?_)
    clear hK K
    refine wpAnyH_done (by kernel_rfl) ?_ _
    go_wp2
    go_end0
    exact HMID.out.stored H1.out hf H2.out HNR.out hfit HTL.out HTK.out hgr
  · go_simp
    refine hK.out _ _ hH0 (fun _ => ?_)
    clear hK K
    refine held_take (i := 16) (d := 31) (oi := _) (v := ?_) rfl rfl (by kernel_rfl) (by kernel_rfl) (by kernel_rfl) (fun _ _ _ h => h) (Or.inl ⟨by rfl, ?_⟩) (by assumption) ?_
    rotate_left
    · (intro w hSw; obtain ⟨s0, s1⟩ := hSw; have hsl := HSL.out w; go_simp; (try with_reducible rfl))
    simp only [Act.put, List.setIfInBounds_toArray, List.set_cons_zero, List.set_cons_succ]
    refine wpAnyH_ready (rs := [3, 18]) (by kernel_rfl) (by simp) ?_
    refine AllReadyH.cons rfl (fun K hK => ?_) (AllReadyH.cons rfl (fun K hK => ?_) AllReadyH.nil)
    · go_simp
      refine hK.out _ _ hH0 (fun _ => ?_)
      clear hK K
      refine wpAnyH_ready (rs := [18]) (by kernel_rfl) (by simp) ?_
      refine AllReadyH.cons rfl (fun K hK => ?_) AllReadyH.nil
      go_simp
      go_wp2_with (go_at_call 38; (with_reducible refine (copy_fit x0 mp A (room1 - held.length) (room1 - held.length) (d1.getD 0) held.length t a b c x0.heap.size HB0.out (by omega) (by omega) HA.out s l hu _ HM0.out hs hl' hh HMV.out).mono ?_); rintro e x1 hgv; obtain ⟨rfl, hmid⟩ := mid_of HT0.out H1.out HBL.out HRW.out HM0.out hgr (fun h0 => (HDD.out h0)) hgv; have HMID := Lib.hid hmid; clear hgv hmid)
      obtain ⟨d0, dd1, d2⟩ := Blk3.cells HMID.out.mblk
      obtain ⟨f0, f1, f2⟩ := Blk3.free HMID.out.mblk
      have hH1 : x1.cell? ⟨g, 0, none⟩ = some (.pointer mp) ∧ x1.cell? ⟨g, 1, none⟩ = some (rowOf d1 room1) := ⟨d0, dd1⟩
      refine hK.out _ _ hH1 (fun _ => ?_)
      clear hK K
      refine held_take (i := 19) (d := 34) (oi := _) (v := ?_) rfl rfl (by kernel_rfl) (by kernel_rfl) (by kernel_rfl) (fun _ _ _ h => h) (Or.inl ⟨by rfl, ?_⟩) (by assumption) ?_
      rotate_left
      · (intro w hSw; obtain ⟨s0, s1⟩ := hSw; go_simp; (try with_reducible rfl))
      simp only [Act.put, List.setIfInBounds_toArray, List.set_cons_zero, List.set_cons_succ]
      refine held_take (i := 20) (d := 35) (oi := _) (v := ?_) rfl rfl (by kernel_rfl) (by kernel_rfl) (by kernel_rfl) (fun _ _ _ h => h) (Or.inl ⟨by rfl, ?_⟩) (by assumption) ?_
      rotate_left
      · (intro w hSw; obtain ⟨s0, s1⟩ := hSw; go_simp; (try with_reducible rfl))
      simp only [Act.put, List.setIfInBounds_toArray, List.set_cons_zero, List.set_cons_succ]
      refine held_take (i := 21) (d := 36) (oi := _) (v := ?_) rfl rfl (by kernel_rfl) (by kernel_rfl) (by kernel_rfl) (fun _ _ _ h => h) (Or.inl ⟨by rfl, ?_⟩) (by assumption) ?_
      rotate_left
      · (intro w hSw; obtain ⟨s0, s1⟩ := hSw; go_simp; (try with_reducible rfl))
      simp only [Act.put, List.setIfInBounds_toArray, List.set_cons_zero, List.set_cons_succ]
      refine wpAnyH_ready (rs := [22]) (by kernel_rfl) (by simp) ?_
      refine AllReadyH.cons rfl (fun K hK => ?_) AllReadyH.nil
      go_simp
      have hH2 : (x1.setCell ⟨g, 2, none⟩ (.int .i64 ((held.length : Int) + (b.length : Int)))).cell? ⟨g, 0, none⟩ = some (.pointer mp) ∧ (x1.setCell ⟨g, 2, none⟩ (.int .i64 ((held.length : Int) + (b.length : Int)))).cell? ⟨g, 1, none⟩ = some (rowOf d1 room1) := ⟨(cell_other x1 g 2 0 _ (by omega)).trans d0, (cell_other x1 g 2 1 _ (by omega)).trans dd1⟩
      refine hK.out _ _ hH2 (fun _ => ?_)
      clear hK K
      refine wpAnyH_done (by kernel_rfl) ?_ _
      go_wp2
      go_end0
      exact HMID.out.stored H1.out hf H2.out HNR.out hfit HTL.out HTK.out hgr
    · go_simp
      go_wp2_with (go_at_call 38; (with_reducible refine (copy_fit x0 mp A (room1 - held.length) (room1 - held.length) (d1.getD 0) held.length t a b c x0.heap.size HB0.out (by omega) (by omega) HA.out s l hu _ HM0.out hs hl' hh HMV.out).mono ?_); rintro e x1 hgv; obtain ⟨rfl, hmid⟩ := mid_of HT0.out H1.out HBL.out HRW.out HM0.out hgr (fun h0 => (HDD.out h0)) hgv; have HMID := Lib.hid hmid; clear hgv hmid)
      obtain ⟨d0, dd1, d2⟩ := Blk3.cells HMID.out.mblk
      obtain ⟨f0, f1, f2⟩ := Blk3.free HMID.out.mblk
      have hH1 : x1.cell? ⟨g, 0, none⟩ = some (.pointer mp) ∧ x1.cell? ⟨g, 1, none⟩ = some (rowOf d1 room1) := ⟨d0, dd1⟩
      refine hK.out _ _ hH1 (fun _ => ?_)
      clear hK K
      refine wpAnyH_ready (rs := [3]) (by kernel_rfl) (by simp) ?_
      refine AllReadyH.cons rfl (fun K hK => ?_) AllReadyH.nil
      go_simp
      refine hK.out _ _ hH1 (fun _ => ?_)
      clear hK K
      refine held_take (i := 19) (d := 34) (oi := _) (v := ?_) rfl rfl (by kernel_rfl) (by kernel_rfl) (by kernel_rfl) (fun _ _ _ h => h) (Or.inl ⟨by rfl, ?_⟩) (by assumption) ?_
      rotate_left
      · (intro w hSw; obtain ⟨s0, s1⟩ := hSw; go_simp; (try with_reducible rfl))
      simp only [Act.put, List.setIfInBounds_toArray, List.set_cons_zero, List.set_cons_succ]
      refine held_take (i := 20) (d := 35) (oi := _) (v := ?_) rfl rfl (by kernel_rfl) (by kernel_rfl) (by kernel_rfl) (fun _ _ _ h => h) (Or.inl ⟨by rfl, ?_⟩) (by assumption) ?_
      rotate_left
      · (intro w hSw; obtain ⟨s0, s1⟩ := hSw; go_simp; (try with_reducible rfl))
      simp only [Act.put, List.setIfInBounds_toArray, List.set_cons_zero, List.set_cons_succ]
      refine held_take (i := 21) (d := 36) (oi := _) (v := ?_) rfl rfl (by kernel_rfl) (by kernel_rfl) (by kernel_rfl) (fun _ _ _ h => h) (Or.inl ⟨by rfl, ?_⟩) (by assumption) ?_
      rotate_left
      · (intro w hSw; obtain ⟨s0, s1⟩ := hSw; go_simp; (try with_reducible rfl))
      simp only [Act.put, List.setIfInBounds_toArray, List.set_cons_zero, List.set_cons_succ]
      refine wpAnyH_ready (rs := [22]) (by kernel_rfl) (by simp) ?_
      refine AllReadyH.cons rfl (fun K hK => ?_) AllReadyH.nil
      go_simp
      have hH2 : (x1.setCell ⟨g, 2, none⟩ (.int .i64 ((held.length : Int) + (b.length : Int)))).cell? ⟨g, 0, none⟩ = some (.pointer mp) ∧ (x1.setCell ⟨g, 2, none⟩ (.int .i64 ((held.length : Int) + (b.length : Int)))).cell? ⟨g, 1, none⟩ = some (rowOf d1 room1) := ⟨(cell_other x1 g 2 0 _ (by omega)).trans d0, (cell_other x1 g 2 1 _ (by omega)).trans dd1⟩
      refine hK.out _ _ hH2 (fun _ => ?_)
      clear hK K
      refine wpAnyH_done (by kernel_rfl) ?_ _
      go_wp2
      go_end0
      exact HMID.out.stored H1.out hf H2.out HNR.out hfit HTL.out HTK.out hgr
end Go.Proofs.Ytcekifknbljbiaa.Win
/- A window: what its functions answer. -/
/- The reference of layer 18: Add, Clear. -/
namespace Go.Proofs.Ytcekifknbljbiaa.Win
open Go.Proofs.Ytcekifknbljbiaa.Stm Go.Proofs.Ytcekifknbljbiaa.Reg Go.RowKit Go.Maps
set_option maxRecDepth 100000
set_option linter.unusedVariables false

theorem str_emp (l : Tx) : (str l).toList.isEmpty = decide (l = []) := by
  rw [ByteArray.toList_eq]
  cases l <;> simp [str]
theorem str_add (a b : Tx) : str a ++ str b = str (a ++ b) := by
  apply ByteArray.ext
  simp [str]
/-- What a window holds, as the reference has it. -/
abbrev wv (x : Wn) : Value := .agg #[.string (str x.held), .int .i64 (x.room : Int), .int .i64 (x.move : Int)]
/-- A new block of three cells. -/
theorem new3 (w : World) (t : TypeId) (u0 u1 u2 : Value) : Blk3 (w.alloc (.cells #[u0, u1, u2] t)) w.heap.size t u0 u1 u2 := heap_alloc_new w _
set_option maxHeartbeats 2000000 in
theorem rwclear_any (w : World) (x : Wn) : Calls Try.prog 39 #[wv x] w fun e w' => e = .returned (wv x.clear) ∧ Below w.heap.size w w' := by
  obtain ⟨h, r, m⟩ := x
  go_enter Try.func39, Try.ntmps39
  go_wp2_with fail
  refine bodyPost_ret (v := wv (Wn.clear ⟨h, r, m⟩)) (by simp [results, Try.results39, go_sem, Wn.clear, str]) rfl ?_
  exact ⟨rfl, ((Below.refl _ _).alloc (Nat.le_refl _) _).alloc (by simp) _⟩
set_option maxHeartbeats 2000000 in
theorem rwadd_any (w : World) (x : Wn) (b : Tx) (h1 : x.held.length ≤ 1000000000) (h2 : x.room ≤ 1000000000) (h3 : x.move ≤ 1000000000000) (h4 : b.length ≤ 1000000000) :
    Calls Try.prog 33 #[wv x, .string (str b)] w fun e w' => e = .returned (wv (x.add b)) ∧ Below w.heap.size w w' := by
  obtain ⟨h, r, m⟩ := x
  have hs := str_size h
  have hb := str_size b
  have hap := str_add h b
  simp only at h1 h2 h3
  by_cases he : b = []
  · subst he
    have he2 : (str []).toList.isEmpty = true := by rw [str_emp]; rfl
    have HE : Hid (Wn.add ⟨h, r, m⟩ [] = ⟨h, r, m⟩) := Lib.hid (if_pos rfl)
    go_enter Try.func33, Try.ntmps33
    go_wp2_with fail
    refine bodyPost_ret (v := wv ⟨h, r, m⟩) (by simp [results, Try.results33, go_sem]) rfl ?_
    exact ⟨by rw [HE.out], ((Below.refl _ _).alloc (Nat.le_refl _) _).alloc (by simp) _⟩
  have he2 : (str b).toList.isEmpty = false := by rw [str_emp]; exact decide_eq_false he
  by_cases hf : r < h.length + b.length
  · have hf2 : (r : Int) < (h.length : Int) + (b.length : Int) := by omega
    have HE : Hid (Wn.add ⟨h, r, m⟩ b = ⟨h ++ b, grown r (h.length + b.length), m + h.length + b.length⟩) := Lib.hid (by unfold Wn.add; rw [if_neg he, if_pos hf])
    go_enter Try.func33, Try.ntmps33
    go_wp2_with fail
    all_goals
      have hbl : ∀ (o1 o2 : Obj), Below w.heap.size w ((w.alloc o1).alloc o2) := fun o1 o2 => ((Below.refl _ _).alloc (Nat.le_refl _) _).alloc (by simp) _
      first
        | (have hg : ((grown r (h.length + b.length) : Nat) : Int) = 16 := by unfold grown; omega
           refine bodyPost_ret (v := .agg #[.string (str (h ++ b)), .int .i64 (16), .int .i64 ((m : Int) + (h.length : Int) + (b.length : Int))]) (by simp [results, Try.results33, go_sem]) rfl ?_
           exact ⟨by rw [HE.out]; simp only [wv, hg]; rfl, hbl _ _⟩)
        | (have hg : ((grown r (h.length + b.length) : Nat) : Int) = (h.length : Int) + (b.length : Int) := by unfold grown; omega
           refine bodyPost_ret (v := .agg #[.string (str (h ++ b)), .int .i64 ((h.length : Int) + (b.length : Int)), .int .i64 ((m : Int) + (h.length : Int) + (b.length : Int))]) (by simp [results, Try.results33, go_sem]) rfl ?_
           exact ⟨by rw [HE.out]; simp only [wv, hg]; rfl, hbl _ _⟩)
        | (have hg : ((grown r (h.length + b.length) : Nat) : Int) = 2 * (r : Int) := by unfold grown; omega
           refine bodyPost_ret (v := .agg #[.string (str (h ++ b)), .int .i64 (2 * (r : Int)), .int .i64 ((m : Int) + (h.length : Int) + (b.length : Int))]) (by simp [results, Try.results33, go_sem]) rfl ?_
           exact ⟨by rw [HE.out]; simp only [wv, hg]; rfl, hbl _ _⟩)
  · have hf2 : ¬ (r : Int) < (h.length : Int) + (b.length : Int) := by omega
    have HE : Hid (Wn.add ⟨h, r, m⟩ b = ⟨h ++ b, r, m + b.length⟩) := Lib.hid (by unfold Wn.add; rw [if_neg he, if_neg hf])
    go_enter Try.func33, Try.ntmps33
    go_wp2_with fail
    refine bodyPost_ret (v := .agg #[.string (str (h ++ b)), .int .i64 (r : Int), .int .i64 ((m : Int) + (b.length : Int))]) (by simp [results, Try.results33, go_sem]) rfl ?_
    exact ⟨by rw [HE.out]; rfl, ((Below.refl _ _).alloc (Nat.le_refl _) _).alloc (by simp) _⟩
end Go.Proofs.Ytcekifknbljbiaa.Win
