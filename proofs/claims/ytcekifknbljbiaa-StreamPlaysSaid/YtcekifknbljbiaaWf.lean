/- The contract of lines.Split. -/
import Derived.Test.YtcekifknbljbiaaGW
import Derived.Maps.AppendAt
namespace Go.Proofs.Ytcekifknbljbiaa
open Go.RowKit Go.Shelf
set_option maxRecDepth 100000
attribute [local go_sem] Oper.semAt_some

def lcells (x : LnV) : List Value := [.int .i64 (x.ln.off : Int), .slice x.a x.ln.text.length x.cap, .bool x.ln.ends]
/-- A call that hands out lines, and leaves what was there as it was. -/
def GivesLines (w : World) (ls : List Ln) (e : Ending) (w' : World) : Prop :=
  ∃ (v : Value) (xs : List LnV), e = .returned v ∧ xs.map LnV.ln = ls ∧ w'.ownsRow w.heap.size 60 3 v xs.length (xs.flatMap lcells) ∧ (∀ x ∈ xs, Txt w' w.heap.size x.a x.ln.text) ∧ Below w.heap.size w w'

theorem info31 : (Try.prog.info? 60).map (fun i => (i.zero, i.size, i.bytes)) = some (some (.agg #[.int .i64 0, .slice none 0 0, .bool false]), 3, 40) := by kernel_rfl

theorem own_texts (N s : Nat) : OwnFrom N (fun (pre : List LnV) W => ∀ x ∈ pre, Txt W s x.a x.ln.text) := by
  intro pre X Y row hs hg hr x hx
  refine txt_grown (hs x hx) hg fun r cs fr e he => ?_
  obtain ⟨_, o, ho, hc⟩ := hr r e
  rw [he] at ho; cases ho; cases hc

/-- What has been collected: the box B holds a slice of the lines; their texts lie; nothing that lay below n0 has changed. -/
def Coll (B m n0 : Nat) (w : World) (pre : List LnV) (W : World) : Prop :=
  (∃ v, Boxed W B 57 v ∧ W.ownsRow m 60 3 v pre.length (pre.flatMap lcells) ∧ True) ∧ (∀ x ∈ pre, Txt W n0 x.a x.ln.text) ∧ Below n0 w W
theorem coll_own {B m n0 N : Nat} {w : World} (h : n0 ≤ w.heap.size) (hN : n0 ≤ N) : OwnFrom N (Coll B m n0 w) :=
  OwnFrom.and (Own.from (holdsRow_own m B 57 60 3 (fun pre : List LnV => pre.length) (fun pre => pre.flatMap lcells) (fun _ _ => True)) _) (OwnFrom.and (own_texts _ _) (ownFrom_below h hN))

/-- One more line collected. -/
theorem collected {W w1 : World} {N B m s k k' : Nat} {v v' : Value} {xs ys : List Value} {tmp : Obj} (hv : Boxed W B 57 v) (hrow : W.ownsRow m 60 3 v k xs) (hs : ∀ g, v.ownBlock = some g → g < s) (hBm : B < m)
    (hown' : w1.ownsRow m 60 3 v' k' ys) (hgrow : (W.alloc tmp).grownBy w1 v.ownBlock) :
    Boxed w1 B 57 v ∧ Boxed (w1.setCell ⟨B, 0, none⟩ v') B 57 v' ∧ (w1.setCell ⟨B, 0, none⟩ v').ownsRow m 60 3 v' k' ys ∧ KeepsFrom N W (w1.setCell ⟨B, 0, none⟩ v') ∧ Kept B m s W (w1.setCell ⟨B, 0, none⟩ v') ∧
      (∀ n0 a l, Txt W n0 a l → Txt (w1.setCell ⟨B, 0, none⟩ v') n0 a l) ∧ Below B W (w1.setCell ⟨B, 0, none⟩ v') := by
  have hv1 : Boxed w1 B 57 v := (hv.alloc tmp).kept hgrow (hv.not_row (by decide) hrow)
  have hsz : W.heap.size ≤ (w1.setCell ⟨B, 0, none⟩ v').heap.size := by
    have h1 := hgrow.size
    have h2 := (grownBy_setCell' w1 B v').size
    rw [World.size_alloc] at h1
    omega
  have hblk : ∀ j, j < W.heap.size → j ≠ B → some j ≠ v.ownBlock → (w1.setCell ⟨B, 0, none⟩ v').heap[j]? = W.heap[j]? := fun j hj hB hne =>
    ((Below.heap_setCell w1 ⟨B, 0, none⟩ v' j hB).trans (hgrow.block j (by simp; omega) hne)).trans (Below.heap_alloc W tmp j hj)
  refine ⟨hv1, hv1.set v', hown'.kept (grownBy_setCell' w1 B v') (.inr (hv1.not_row (by decide) hown').symm), ⟨hsz, fun j o _ hj ho => ?_⟩, ⟨hsz, fun j hj hjB hjm => ?_⟩, fun n0 a l ht h0 => ?_, ⟨hgrow.os, hgrow.tape, hgrow.output, hsz, fun j hj => ?_⟩⟩
  · refine (hblk j (txt_lt hj) (fun e => ?_) (fun e => ?_)).trans hj
    · subst e; rw [show W.heap[j]? = _ from hv] at hj; cases hj; cases ho
    · obtain ⟨_, _, cs, hh⟩ := own_block_lt hrow e.symm
      rw [hh] at hj; cases hj; cases ho
  · refine hblk j hj hjB (fun e => ?_)
    have h1 := (own_block_lt hrow e.symm).1
    have h2 := hs j e.symm
    omega
  · obtain ⟨b, cs, e, hsb, hh, hc⟩ := ht h0
    refine ⟨b, cs, e, hsb, (hblk b (txt_lt hh) (fun e' => ?_) (fun e' => ?_)).trans hh, hc⟩
    · subst e'; rw [show W.heap[b]? = _ from hv] at hh; cases hh
    · obtain ⟨_, _, cs', hh'⟩ := own_block_lt hrow e'.symm
      rw [hh'] at hh; cases hh
  · refine hblk j (by have := hv.lt; omega) (by omega) (fun e => ?_)
    have := (own_block_lt hrow e.symm).1
    omega

set_option maxRecDepth 100000 in
set_option maxHeartbeats 4000000 in
theorem split_any (t : List UInt8) (a : Option Addr) (cap : Nat) (w : World) (ht : t.length ≤ 1000000000) (hb : Bs w w.heap.size a t) :
    Calls Try.prog 24 #[.slice a t.length cap] w (GivesLines w (linesOf t)) := by
  refine (callsIn_wide (n := 5)).1 ?_
  obtain ⟨i0, hi, hz0, hz1, hz2⟩ := info_parts info31
  refine callsIn_of_wp_marks Try.func24 rfl trivial ?_ rfl
  simp only [Try.ntmps24, List.size_toArray, List.length_cons, List.length_nil, Nat.reduceAdd, Nat.reduceSub, Array.replicate_succ, Array.replicate_zero, List.push_toArray, List.append_toArray, List.nil_append, List.cons_append]
  gi_wp2_with (fail)
  have hb0 : Below w.heap.size w (w.alloc (.cells #[.slice none 0 0] 57)) := (Below.refl _ _).alloc (Nat.le_refl _) _
  have hbs : Bs (w.alloc (.cells #[.slice none 0 0] 57)) (w.alloc (.cells #[.slice none 0 0] 57)).heap.size a t := (hb.keep hb0).more hb0.size
  refine ⟨trivial, (callsIn_wide.2 (all_any t a cap _ (by omega) hbs)).mono ?_⟩
  rintro e w1 ⟨g, a1, cap1, rfl, hg, hbox, htx, hlc, hb1⟩
  have hz1' : w.heap.size + 1 ≤ w1.heap.size := by have := hb1.size; simpa using this
  have hB1 : Boxed w1 w.heap.size 57 (.slice none 0 0) := (hb1.block w.heap.size (by simp)).trans (Boxed.new w 57 (.slice none 0 0))
  have hbw : Below w.heap.size w w1 := hb0.trans (hb1.mono (by simp))
  have hg' : w.heap.size + 1 ≤ g := by simpa using hg
  gi_wp2
  refine range_lines 5 g w.heap.size rfl t a1 cap1 (by omega) hlc hbox (by omega) (by omega) ?text (Coll w.heap.size w1.heap.size w.heap.size w) (fun _ _ _ => False) (coll_own (Nat.le_refl _) hbw.size) (fun _ _ _ _ _ h _ _ => h)
    ⟨⟨_, hB1, World.ownsRow_nil _ _ _ _, trivial⟩, (fun x hx => by cases hx), hbw⟩
    (fun x Bx => { tmps := #[.slice a t.length cap, undef, .slice none 0 0, .pointer (some ⟨w.heap.size, 0, none⟩), .pointer (some ⟨Bx, 0, none⟩), .slice a t.length cap,
          .func (.func 41) #[] #[.pointer (some ⟨g, 0, none⟩)], x.val, undef, undef, undef, undef, undef], defers := [] }) ?assign ?body ?done ?stop
  case text =>
    intro h0
    obtain ⟨b, cs, e, hs, hh, hc⟩ := htx h0
    exact ⟨b, cs, e, (by simp at hs; omega), hh, hc⟩
  case assign =>
    intro l x W K hK
    unfold LnV.val lnv
    unfold LnV.val lnv at hK
    gi_wp2
    exact hK
  case body =>
    rintro l pre x W0 W Bx ⟨⟨v, hv0, hrow0, _⟩, hts, hbel⟩ hb hx hBx hblk hlt hpf
    have hv : Boxed W w.heap.size 57 v := (hb.block _ (by omega)).trans hv0
    have hrow := own_keep hrow0 hb
    have hown : ∀ q, v.ownBlock = some q → q < W0.heap.size := fun q e => (own_block_lt hrow0 e).2.1
    have hbelW : Below w.heap.size w W := hbel.trans (hb.mono hbel.size)
    have htsW : ∀ y ∈ pre ++ [x], Txt W w.heap.size y.a y.ln.text := fun y hy => by
      rcases List.mem_append.1 hy with h | h
      · exact (hts y h).keep hb
      · simp at h; subst h; exact hx.less hbel.size
    have hlen : pre.length < 1000000000 := by
      have h1 := hpf.length_le
      have h2 := lines_le t
      simp at h1
      omega
    have hcB := hv.cell
    obtain ⟨c0, c1, c2⟩ := hblk.cells
    have hsW : w1.heap.size ≤ W.heap.size := by have := hb.size; omega
    have HTS := Lib.hid htsW
    have HOW := Lib.hid hown
    unfold LnV.val lnv
    clear hts htsW hown hrow0 hv0
    gi_wp2_with (gi_at_builtin; refine wpListIn_append_own _ rfl _ _ 57 rfl w1.heap.size 60 i0 (.agg #[.int .i64 0, .slice none 0 0, .bool false]) 3 40 Try.underlying57 hi hz0 hz1 hz2 rfl (by decide) _ _ _ rfl (hrow.alloc _) ⟨W.heap.size, 0, none⟩ 1 1 (lcells x) rfl rfl (cells_new3 _ _ _ _ _) (by simp [lcells, Value.oneCell']) (by unfold maxLen; omega) (by omega) (by simp; omega) ?_; intro v' w2 hown' hgrow _; obtain ⟨g', cap', rfl⟩ := ownsRow_succ hown'; obtain ⟨q1, q2, q3, q4, q5, q6, q7⟩ := collected (N := w1.heap.size) hv hrow HOW.out (by omega) hown' hgrow; have hc1 := q1.cell; have hf1 := q1.frozen)
    exact ⟨q4, q5, ⟨⟨_, q2, by simpa using q3, trivial⟩, fun y hy => q6 _ _ _ (HTS.out y hy), hbelW.trans q7⟩⟩
  case done =>
    rintro D xs W hD hS ⟨⟨v, hv, hrow, _⟩, hts, hbel⟩ hK
    have hc := hv.cell
    gi_wp2
    refine ⟨by simp, .inl ⟨_, _, rfl, run_takeDeferred hK, ?_⟩⟩
    refine ⟨_, results_tmp rfl _ _ _, v, xs, rfl, hS, ?_, ?_, ?_⟩
    · exact own_base (ownsRow_putObj hrow _ hK rfl) hbw.size
    · intro x hx
      exact txt_grown (hts x hx) (grownBy_putObj' W D _) (fun r cs fr e he => by cases e; rw [hK] at he; cases he)
    · exact hbel.trans (belowK_b (w := w1) hbw.size W D _ _ (by simpa using hD) hK rfl rfl)
  case stop =>
    rintro D c pre W _ _ h _
    exact h.elim
end Go.Proofs.Ytcekifknbljbiaa
