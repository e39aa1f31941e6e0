/- The contract of patset's texts: a file's lines, without case if that is asked for. -/
import Derived.Test.YteggdhfchamffaaWe
import Derived.Test.YteggdhfchamffaaFb
import Derived.Test.YteggdhfchamffaaPv
namespace Go.Proofs.Yteggdhfchamffaa
open Go.RowKit Go.Shelf
attribute [local go_sem] Oper.semAt_some

/-- A text, without case if that is asked for. -/
def cased (f : Bool) (l : List UInt8) : List UInt8 := if f then lows l else l
/-- The texts of a file's lines. -/
def textsOf (f : Bool) (t : List UInt8) : List (List UInt8) := (linesOf t).map fun x => cased f x.text
theorem cased_len (f : Bool) (l : List UInt8) : (cased f l).length = l.length := by cases f <;> simp [cased, lows]

/-- What has been collected: the box B holds a slice of the lines' texts; they lie; nothing that lay below n0 has changed. -/
def Coll (f : Bool) (B m n0 : Nat) (w : World) (pre : List LnV) (W : World) : Prop :=
  ∃ (v : Value) (xs : List TxV), Boxed W B 39 v ∧ W.ownsRow m 22 1 v pre.length (tvals xs) ∧ xs.map TxV.text = pre.map (fun x => cased f x.ln.text) ∧ (∀ x ∈ xs, Txt W n0 x.a x.text) ∧ Below n0 w W
theorem coll_own {f : Bool} {B m n0 N : Nat} {w : World} (h : n0 ≤ w.heap.size) (hN : n0 ≤ N) : OwnFrom N (Coll f B m n0 w) := by
  rintro pre X Y row ⟨v, xs, hv, hr, he, ht, hb⟩ hg hrow
  refine ⟨v, xs, hv.kept hg (fun e' => ?_), hr.kept hg ?_, he, fun x hx => txt_grown (ht x hx) hg fun r cs fr e hc => ?_, hb.grown hg (Nat.le_trans h hb.size) (fun k e => Nat.le_trans hN (hrow k e).1)⟩
  · obtain ⟨_, o, ho, hc⟩ := hrow B e'.symm
    rw [show X.heap[B]? = _ from hv] at ho; cases ho; cases hc
  · rcases hr.2 with ⟨rfl, _⟩ | ⟨g, cap, cur, rfl, _, hgb, _⟩
    · exact .inl rfl
    · refine .inr fun e' => ?_
      obtain ⟨_, o, ho, hc⟩ := hrow g (by simpa [Value.ownBlock] using e'.symm)
      rw [hgb] at ho; cases ho; cases hc
  · obtain ⟨_, o, ho, hk⟩ := hrow r e
    rw [hc] at ho; cases ho; cases hk

/-- One more text collected. -/
theorem collected {V W w1 : World} {N B m s k k' : Nat} {v v' : Value} {xs ys : List Value} {tmp : Obj} (hVW : Below V.heap.size V W) (hv : Boxed W B 39 v) (hrow : W.ownsRow m 22 1 v k xs) (hs : ∀ g, v.ownBlock = some g → g < s) (hBm : B < m) (hBV : B < V.heap.size)
    (hown' : w1.ownsRow m 22 1 v' k' ys) (hgrow : (W.alloc tmp).grownBy w1 v.ownBlock) :
    Boxed w1 B 39 v ∧ Boxed (w1.setCell ⟨B, 0, none⟩ v') B 39 v' ∧ (w1.setCell ⟨B, 0, none⟩ v').ownsRow m 22 1 v' k' ys ∧ KeepsFrom N V (w1.setCell ⟨B, 0, none⟩ v') ∧ Kept B m s V (w1.setCell ⟨B, 0, none⟩ v') ∧
      (∀ n0 a l, Txt W n0 a l → Txt (w1.setCell ⟨B, 0, none⟩ v') n0 a l) ∧ Below B W (w1.setCell ⟨B, 0, none⟩ v') := by
  have hv1 : Boxed w1 B 39 v := (hv.alloc tmp).kept hgrow (hv.not_row (by decide) hrow)
  have hsz : W.heap.size ≤ (w1.setCell ⟨B, 0, none⟩ v').heap.size := by
    have h1 := hgrow.size
    have h2 := (grownBy_setCell' w1 B v').size
    rw [World.size_alloc] at h1
    omega
  have hblk : ∀ j, j < W.heap.size → j ≠ B → some j ≠ v.ownBlock → (w1.setCell ⟨B, 0, none⟩ v').heap[j]? = W.heap[j]? := fun j hj hB hne =>
    ((Below.heap_setCell w1 ⟨B, 0, none⟩ v' j hB).trans (hgrow.block j (by simp; omega) hne)).trans (Below.heap_alloc W tmp j hj)
  have hVs := hVW.size
  refine ⟨hv1, hv1.set v', hown'.kept (grownBy_setCell' w1 B v') (.inr (hv1.not_row (by decide) hown').symm), ⟨by omega, fun j o _ hj ho => ?_⟩, ⟨by omega, fun j hj hjB hjm => ?_⟩, fun n0 a l ht h0 => ?_, ⟨hgrow.os, hgrow.tape, hgrow.output, hsz, fun j hj => ?_⟩⟩
  · have hj2 : W.heap[j]? = some o := (hVW.block j (txt_lt hj)).trans hj
    refine (hblk j (txt_lt hj2) (fun e => ?_) (fun e => ?_)).trans hj2
    · subst e; rw [show W.heap[j]? = _ from hv] at hj2; cases hj2; cases ho
    · obtain ⟨_, _, cs, hh⟩ := own_block_lt hrow e.symm
      rw [hh] at hj2; cases hj2; cases ho
  · refine (hblk j (by omega) hjB (fun e => ?_)).trans (hVW.block j hj)
    have h1 := (own_block_lt hrow e.symm).1
    have h2 := hs j e.symm
    omega
  · obtain ⟨b, cs, e, hsb, hh, hc⟩ := ht h0
    refine ⟨b, cs, e, hsb, (hblk b (txt_lt hh) (fun e' => ?_) (fun e' => ?_)).trans hh, hc⟩
    · subst e'; rw [show W.heap[b]? = _ from hv] at hh; cases hh
    · obtain ⟨_, _, cs', hh'⟩ := own_block_lt hrow e'.symm
      rw [hh'] at hh; cases hh
  · refine hblk j (by have := hv.lt; omega) (by omega) (fun e => ?_)
    have := (own_block_lt hrow e.symm).1
    omega

set_option maxRecDepth 100000 in
set_option maxHeartbeats 4000000 in
theorem texts_any (f : Bool) (t : List UInt8) (a : Option Addr) (cap : Nat) (w : World) (ht : t.length ≤ 100000000) (hb : Bs w w.heap.size a t) :
    Calls Try.prog 23 #[.slice a t.length cap, .bool f] w (GivesTexts w (textsOf f t)) := by
  refine (callsIn_wide (n := 5)).1 ?_
  obtain ⟨i0, hi, hz0, hz1, hz2⟩ := info_parts info22
  refine callsIn_of_wp_marks Try.func23 rfl trivial ?_ rfl
  simp only [Try.ntmps23, List.size_toArray, List.length_cons, List.length_nil, Nat.reduceAdd, Nat.reduceSub, Array.replicate_succ, Array.replicate_zero, List.push_toArray, List.append_toArray, List.nil_append, List.cons_append]
  gi_wp2_with (fail)
  have hb0 : Below w.heap.size w ((w.alloc (.cells #[.bool f] 4)).alloc (.cells #[.slice none 0 0] 39)) := ((Below.refl _ _).alloc (Nat.le_refl _) _).alloc (by simp) _
  have hbs : Bs ((w.alloc (.cells #[.bool f] 4)).alloc (.cells #[.slice none 0 0] 39)) ((w.alloc (.cells #[.bool f] 4)).alloc (.cells #[.slice none 0 0] 39)).heap.size a t := (hb.keep hb0).more hb0.size
  refine ⟨trivial, (callsIn_wide.2 (all_any t a cap _ (by omega) hbs)).mono ?_⟩
  rintro e w1 ⟨g, a1, cap1, rfl, hg, hbox, htx, hlc, hb1⟩
  have hz1' : w.heap.size + 2 ≤ w1.heap.size := by have := hb1.size; simpa using this
  have hF1 : Boxed w1 w.heap.size 4 (.bool f) := (hb1.block w.heap.size (by simp; omega)).trans ((Boxed.new w 4 (.bool f)).alloc _)
  have hB1 : Boxed w1 (w.heap.size + 1) 39 (.slice none 0 0) := by
    have := Boxed.new (w.alloc (.cells #[.bool f] 4)) 39 (.slice none 0 0)
    rw [World.size_alloc] at this
    exact (hb1.block (w.heap.size + 1) (by simp)).trans this
  have hbw : Below w.heap.size w w1 := hb0.trans (hb1.mono (by simp; omega))
  have hg' : w.heap.size + 2 ≤ g := by simpa using hg
  gi_wp2
  refine range_lines 5 g (w.heap.size + 1) rfl t a1 cap1 (by omega) hlc hbox (by omega) (by omega) ?text (Coll f (w.heap.size + 1) w1.heap.size (w.heap.size + 1) w1) (fun _ _ _ => False) (coll_own (by omega) (by omega)) (fun _ _ _ _ _ h _ _ => h)
    ⟨_, [], hB1, World.ownsRow_nil _ _ _ _, rfl, (fun x hx => by cases hx), Below.refl _ _⟩
    (fun x Bx => { tmps := #[.slice a t.length cap, .bool f, undef, .pointer (some ⟨w.heap.size, 0, none⟩), .slice none 0 0, .pointer (some ⟨w.heap.size + 1, 0, none⟩), .pointer (some ⟨Bx, 0, none⟩), undef, .slice a t.length cap,
          .func (.func 31) #[] #[.pointer (some ⟨g, 0, none⟩)], x.val, undef, undef, undef, undef, undef, undef, undef, undef, undef, undef], defers := [] }) ?assign ?body ?done ?stop
  case text =>
    intro h0
    obtain ⟨b, cs, e, hs, hh, hc⟩ := htx h0
    exact ⟨b, cs, e, (by simp at hs; omega), hh, hc⟩
  case assign =>
    intro l x W K hK
    unfold LnV.val lnv
    unfold LnV.val lnv at hK
    gi_wp2
    exact hK
  case body =>
    rintro l pre x W0 W Bx ⟨v, xs, hv0, hrow0, hxs, hts, hbel⟩ hb hx hBx hblk hlt hpf
    have hs0 := hbel.size
    have hv : Boxed W (w.heap.size + 1) 39 v := (hb.block _ (by omega)).trans hv0
    have hrow := own_keep hrow0 hb
    have hown : ∀ q, v.ownBlock = some q → q < W0.heap.size := fun q e => (own_block_lt hrow0 e).2.1
    have hbelW : Below (w.heap.size + 1) w1 W := hbel.trans (hb.mono (by omega))
    have hF : Boxed W w.heap.size 4 (.bool f) := (hbelW.block w.heap.size (by omega)).trans hF1
    have htsW : ∀ y ∈ xs, Txt W (w.heap.size + 1) y.a y.text := fun y hy => (hts y hy).keep hb
    have hlen : pre.length < 1000000000 ∧ x.ln.text.length ≤ 100000000 := by
      have h1 := hpf.length_le
      have h2 := lines_le t
      have h3 := lines_bound t x.ln (hpf.subset (by simp))
      simp at h1
      omega
    obtain ⟨hlen, hxl⟩ := hlen
    have hcB := hv.cell
    have hcF := hF.cell
    obtain ⟨c0, c1, c2⟩ := hblk.cells
    have hsW : w1.heap.size ≤ W.heap.size := by have := hb.size; omega
    have HTS := Lib.hid htsW
    have HOW := Lib.hid hown
    have HXS := Lib.hid hxs
    unfold LnV.val lnv
    clear hts htsW hown hrow0 hv0 hxs
    cases f with
    | false =>
      gi_wp2_with (gi_at_builtin; refine wpListIn_append_own _ rfl _ _ 39 rfl w1.heap.size 22 i0 (.slice none 0 0) 1 24 Try.underlying39 hi hz0 hz1 hz2 rfl (by decide) _ _ _ rfl (hrow.alloc _) ⟨W.heap.size, 0, none⟩ 1 1 [.slice x.a x.ln.text.length x.cap] rfl rfl (cell_new1 _ _ _) (by simp [Value.oneCell']) (by unfold maxLen; omega) (by omega) (by simp; omega) ?_; intro v' w2 hown' hgrow _; obtain ⟨g', cap', rfl⟩ := ownsRow_succ hown'; obtain ⟨q1, q2, q3, q4, q5, q6, q7⟩ := collected (N := w1.heap.size) (Below.refl _ _) hv hrow HOW.out (by omega) (by omega) hown' hgrow; have hc1 := q1.cell; have hf1 := q1.frozen)
      refine ⟨q4, q5, _, xs ++ [⟨x.ln.text, x.a, x.cap, x.nil0⟩], q2, ?_, ?_, ?_, hbelW.trans q7⟩
      · rw [tvals_snoc]; simpa using q3
      · rw [List.map_append, List.map_append, HXS.out]; rfl
      · intro y hy
        refine q6 _ _ _ ?_
        rcases List.mem_append.1 hy with h | h
        · exact HTS.out y h
        · rw [List.mem_singleton] at h
          subst h
          exact hx.less (by omega)
    | true =>
      gi_wp2_with (fail)
      have hbx : Bs W W.heap.size x.a x.ln.text := hx.bs
      refine ⟨trivial, (CallsIn.inRound l (callsIn_wide.2 (bytes_any x.ln.text x.a x.cap W (by omega) hbx))).mono ?_⟩
      rintro e W2 ⟨a2, cap2, rfl, ht2, _, hn2, hb2⟩
      have hl2 : (lows x.ln.text).length = x.ln.text.length := by simp [lows]
      have HL := Lib.hid hl2
      clear hl2
      have hv2 : Boxed W2 (w.heap.size + 1) 39 v := (hb2.block _ (by omega)).trans hv
      have hrow2 := own_keep hrow hb2
      have hcB2 := hv2.cell
      have hs2 := hb2.size
      gi_wp2_with (gi_at_builtin; refine wpListIn_append_own _ rfl _ _ 39 rfl w1.heap.size 22 i0 (.slice none 0 0) 1 24 Try.underlying39 hi hz0 hz1 hz2 rfl (by decide) _ _ _ rfl (hrow2.alloc _) ⟨W2.heap.size, 0, none⟩ 1 1 [.slice a2 (lows x.ln.text).length cap2] rfl rfl (cell_new1 _ _ _) (by simp [Value.oneCell']) (by unfold maxLen; omega) (by omega) (by simp; omega) ?_; intro v' w2 hown' hgrow _; obtain ⟨g', cap', rfl⟩ := ownsRow_succ hown'; obtain ⟨q1, q2, q3, q4, q5, q6, q7⟩ := collected (N := w1.heap.size) hb2 hv2 hrow2 HOW.out (by omega) (by omega) hown' hgrow; have hc1 := q1.cell; have hf1 := q1.frozen)
      refine ⟨q4, q5, _, xs ++ [⟨lows x.ln.text, a2, cap2, hn2⟩], q2, ?_, ?_, ?_, (hbelW.trans (hb2.mono (by omega))).trans q7⟩
      · rw [tvals_snoc]; simpa using q3
      · rw [List.map_append, List.map_append, HXS.out]; rfl
      · intro y hy
        refine q6 _ _ _ ?_
        rcases List.mem_append.1 hy with h | h
        · exact (HTS.out y h).keep hb2
        · rw [List.mem_singleton] at h
          subst h
          exact ht2.less (by omega)
  case done =>
    rintro D xs W hD hS ⟨v, ys, hv, hrow, hys, hts, hbel⟩ hK
    have hc := hv.cell
    obtain ⟨av, cv, rfl, htv, _⟩ := own_ts hrow (fun x hx => (hts x hx).bs)
    gi_wp2
    refine ⟨by simp, .inl ⟨_, _, rfl, run_takeDeferred hK, ?_⟩⟩
    have e1 : ys.map TxV.text = textsOf f t := by rw [hys, textsOf, ← hS, List.map_map]; rfl
    have e2 : ys.length = (textsOf f t).length := by rw [← e1]; simp
    have hrow' := ownsRow_putObj hrow (.deferred none) hK rfl
    obtain ⟨av', cv', ev, htv', _⟩ := own_ts hrow' (fun x hx => (txt_grown (hts x hx) (grownBy_putObj' W D _) (fun r cs fr e he => by cases e; rw [hK] at he; cases he)).bs)
    injection ev with ev1 _ ev2
    subst ev1
    refine ⟨_, results_tmp rfl _ _ _, av, cv, ys, ?_, e1, htv', ?_⟩
    · rw [← e2]; rfl
    · exact (hbw.trans (hbel.mono (by omega))).trans (belowK_b (w := w1) hbw.size W D _ _ (by simpa using hD) hK rfl rfl)
  case stop =>
    rintro D c pre W _ _ h _
    exact h.elim
end Go.Proofs.Yteggdhfchamffaa
