/- The walk of the law LinesAll. -/
import Derived.Test.YtcieikibfmelkaaWj
namespace Go.Proofs.Ytcieikibfmelkaa.linesAll
open Go.RowKit Go.Shelf
attribute [local go_sem] Oper.semAt_some

/-- A piece of code that is left off its end alone. -/
def offEnd (Q : Exit → Act → World → Prop) : Exit → Act → World → Prop
  | .normal, a, w => Q .normal a w
  | _, _, _ => False
theorem wpIn_offEnd {F : Fence} {n : Nat} {P : Program} {c : Code} {Q : Exit → Act → World → Prop} {a : Act} {w : World} (h : c.wpIn F n P (offEnd Q) a w) : c.wpIn F n P Q a w :=
  wpIn_mono h fun e _ _ h => by cases e <;> first | exact h | exact h.elim

set_option maxRecDepth 100000 in
set_option maxHeartbeats 8000000 in
theorem walk (w : World) (t : List UInt8) (a : Option Addr) (cap : Nat) (hm : t.length ≤ maxLen) (hb : Bs w w.heap.size a t) (c : UInt8) :
    Calls Try.prog 4 #[.slice a t.length cap, .int .u8 (c.toNat : Int)] w fun e w' => e = .returned (.bool true) ∧ Below w.heap.size w w' := by
  unfold maxLen at hm
  refine (callsIn_wide (n := 5)).1 ?_
  obtain ⟨i0, hi, hz0, hz1, hz2⟩ := info_parts info31
  by_cases hl : t.length ≤ 1000
  · have hln := lines_le t
    have hdl : decide ((1000 : Int) < (t.length : Int)) = false := decide_eq_false (by omega)
    refine callsIn_of_wp_marks Try.func4 rfl trivial ?_ rfl
    simp only [Try.ntmps4, List.size_toArray, List.length_cons, List.length_nil, Nat.reduceAdd, Nat.reduceSub, Array.replicate_succ, Array.replicate_zero, List.push_toArray, List.append_toArray, List.nil_append, List.cons_append]
    gi_wp2_with (fail)
    have b0 : Below w.heap.size w (w.alloc (.cells #[.int .u8 (c.toNat : Int)] 5)) := (Below.refl _ _).alloc (Nat.le_refl _) _
    have hN0 : Boxed (w.alloc (.cells #[.int .u8 (c.toNat : Int)] 5)) w.heap.size 5 (.int .u8 (c.toNat : Int)) := Boxed.new w 5 _
    refine ⟨trivial, (callsIn_wide.2 (awake_any _)).mono ?_⟩
    rintro e w1 ⟨rfl, b1⟩
    have B1 : Below w.heap.size w w1 := b0.trans (b1.mono (by simp))
    have hN1 : Boxed w1 w.heap.size 5 (.int .u8 (c.toNat : Int)) := (b1.block w.heap.size (by simp)).trans hN0
    clear b0 b1 hN0
    gi_wp2_with (fail)
    refine ⟨trivial, (callsIn_wide.2 (split_ls t a cap _ _ rfl (by omega) ((hb.keep B1).more B1.size))).mono ?_⟩
    rintro e w2 ⟨a2, cap2, xs, rfl, hmx, hlc, hls, b2⟩
    have B2 : Below w.heap.size w w2 := B1.trans (b2.mono B1.size)
    have hN2 : Boxed w2 w.heap.size 5 (.int .u8 (c.toNat : Int)) := (b2.block w.heap.size hN1.lt).trans hN1
    clear b2 hN1
    gi_wp2_with (fail)
    have b3 : Below w2.heap.size w2 (w2.alloc (.cells #[.slice none 0 0] 24)) := (Below.refl _ _).alloc (Nat.le_refl _) _
    have B3 : Below w.heap.size w (w2.alloc (.cells #[.slice none 0 0] 24)) := B2.alloc B2.size _
    refine ⟨trivial, (callsIn_wide.2 (all_any t a cap _ (by omega) ((hb.keep B3).more B3.size))).mono ?_⟩
    rintro e w4 ⟨g, a4, cap4, rfl, hg, hbox, htx, hlc4, b4⟩
    have hc256 := c.toNat_lt
    have hsz4 : w2.heap.size + 1 ≤ w4.heap.size := by have := b4.size; simpa using this
    have hB4 : Boxed w4 w2.heap.size 24 (.slice none 0 0) := (b4.block w2.heap.size (by simp)).trans (Boxed.new w2 24 (.slice none 0 0))
    have b24 : Below w2.heap.size w2 w4 := b3.trans (b4.mono (by simp))
    have hg' : w2.heap.size + 1 ≤ g := by simpa using hg
    have hN2lt := hN2.lt
    clear b3 B3 b4
    gi_wp2
    refine range_lines 5 g w2.heap.size rfl t a4 cap4 (by omega) hlc4 hbox (by omega) (by omega) ?text
      (fun pre W => Coll w2.heap.size w4.heap.size w2.heap.size w2 pre W ∧ pre.length ≤ c.toNat)
      (fun id pre W => Coll w2.heap.size w4.heap.size w2.heap.size w2 pre W ∧ (id = 0 ∧ pre.length = c.toNat + 1))
      (OwnFrom.and (coll_own (Nat.le_refl _) b24.size) (ownFrom_pure _ _)) (fun id => OwnFrom.and (coll_own (Nat.le_refl _) b24.size) (ownFrom_pure _ _))
      ⟨⟨⟨_, hB4, World.ownsRow_nil _ _ _ _, trivial⟩, (fun x hx => by cases hx), b24⟩, Nat.zero_le _⟩
      (fun x Bx => { tmps := #[.slice a t.length cap, .int .u8 (c.toNat : Int), undef, .pointer (some ⟨w.heap.size, 0, none⟩), .bool false, .bool true, .slice a2 xs.length cap2, .pointer (some ⟨w2.heap.size, 0, none⟩), .pointer (some ⟨Bx, 0, none⟩), undef,
          .bool true, .bool true, .bool false, .slice a t.length cap, .int .i64 (t.length : Int), .bool false, .slice a t.length cap, .slice a2 xs.length cap2, .slice a t.length cap,
          .func (.func 20) #[] #[.pointer (some ⟨g, 0, none⟩)], x.val, undef, undef, undef, undef, undef, undef, undef, undef, undef, undef, undef, undef, undef, undef, undef, undef, undef, undef, undef, undef], defers := [] }) ?assign ?body ?done ?stop
    case text =>
      intro h0
      obtain ⟨b, cs, e, hs, hh, hcs⟩ := htx h0
      exact ⟨b, cs, e, (by simp at hs; omega), hh, hcs⟩
    case assign =>
      intro l x W K hK
      unfold LnV.val lnv
      unfold LnV.val lnv at hK
      gi_wp2
      exact hK
    case body =>
      rintro l pre x W0 W Bx ⟨⟨⟨v, hv0, hrow0, _⟩, hts, hbel⟩, hpl⟩ hbb hx hBx hblk hlt hpf
      have hv : Boxed W w2.heap.size 24 v := (hbb.block _ (by omega)).trans hv0
      have hrow := own_keep hrow0 hbb
      have hown : ∀ q, v.ownBlock = some q → q < W0.heap.size := fun q e => (own_block_lt hrow0 e).2.1
      have hbelW : Below w2.heap.size w2 W := hbel.trans (hbb.mono hbel.size)
      have htsW : ∀ y ∈ pre ++ [x], Txt W w2.heap.size y.a y.ln.text := fun y hy => by
        rcases List.mem_append.1 hy with h | h
        · exact (hts y h).keep hbb
        · simp at h; subst h; exact hx.less hbel.size
      have hcB := hv.cell
      obtain ⟨c0, c1, c2⟩ := hblk.cells
      have hsW : w4.heap.size ≤ W.heap.size := by have := hbb.size; omega
      have HTS := Lib.hid htsW
      have HOW := Lib.hid hown
      unfold LnV.val lnv
      clear hts htsW hown hrow0 hv0
      gi_wp2_with (gi_at_builtin; refine wpListIn_append_own _ rfl _ _ 24 rfl w4.heap.size 31 i0 (.agg #[.int .i64 0, .slice none 0 0, .bool false]) 3 40 Try.underlying24 hi hz0 hz1 hz2 rfl (by decide) _ _ _ rfl (hrow.alloc _) ⟨W.heap.size, 0, none⟩ 1 1 (lcells x) rfl rfl (cells_new3 _ _ _ _ _) (by simp [lcells, Value.oneCell']) (by unfold maxLen; omega) (by omega) (by simp; omega) ?_; intro v' w5 hown' hgrow _; obtain ⟨g', cap', rfl⟩ := ownsRow_succ hown'; obtain ⟨q1, q2, q3, q4, q5, q6, q7⟩ := collected (N := w4.heap.size) hv hrow HOW.out (by omega) hown' hgrow; have hc1 := q1.cell; have hf1 := q1.frozen; have hc2 := q2.cell; have hN5 : Boxed (w5.setCell ⟨w2.heap.size, 0, none⟩ (.slice (some ⟨g', 0, none⟩) (pre.length + 1) cap')) w.heap.size 5 (.int .u8 (c.toNat : Int)) := (q7.block _ hN2lt).trans ((hbelW.block _ hN2lt).trans hN2); have hc3 := hN5.cell)
      · exact ⟨q4, ⟨⟨_, q2, by simpa using q3, trivial⟩, fun y hy => q6 _ _ _ (HTS.out y hy), hbelW.trans q7⟩, rfl, by simp; omega⟩
      · exact ⟨q4, q5, ⟨⟨_, q2, by simpa using q3, trivial⟩, fun y hy => q6 _ _ _ (HTS.out y hy), hbelW.trans q7⟩, by simp; omega⟩
    case done =>
      rintro D pre W hD hS ⟨⟨⟨v, hv, hrow, _⟩, hts, hbel⟩, hpl0⟩ hK
      have hpx : pre.length = xs.length := by have := congrArg List.length (hS.trans hmx.symm); simpa using this
      have hpl : pre.length = min xs.length (c.toNat + 1) := by omega
      have hpm : pre.map LnV.ln = (xs.take (min xs.length (c.toNat + 1))).map LnV.ln := by rw [← hpl, hpx, List.take_length, hS, hmx]
      clear hpl0 hpx hS
      have hN5 : Boxed W w.heap.size 5 (.int .u8 (c.toNat : Int)) := (hbel.block _ hN2lt).trans hN2
      have hcN := hN5.cell
      have hcB := hv.cell
      obtain ⟨a5, cap5, rfl, hcap5, hls5⟩ := own_ls (own_base hrow b24.size) hts
      have HPL := Lib.hid hpl
      have HPM := Lib.hid hpm
      clear hpl hpm
      gi_wp2
      have hmin : min (xs.length : Int) ((c.toNat : Int) + 1) = (pre.length : Int) := by have := HPL.out; omega
      rw [hmin]
      clear hmin
      have hkx : pre.length ≤ xs.length := by have := HPL.out; omega
      have hkc : pre.length ≤ cap2 := by omega
      have mixed : Try.prog.follows .mixedOrders = true := by kernel_rfl
      have SAM : Hid (∀ W' : World, Below W.heap.size W W' → Calls Try.prog 16 #[.slice a5 pre.length cap5, .slice a2 pre.length cap2, .int .i64 0] W' fun e w' => e = .returned (.bool true) ∧ Below W'.heap.size W' w') := Lib.hid fun W' hW' => by
        refine same_n pre (xs.take pre.length) 0 pre.length pre.length a5 a2 cap5 cap2 W' rfl (by simp; omega) ?_ (hls5.keep hW') (((hls.keep hbel).keep hW').take _) ?_ (by have := HPL.out; omega)
        · rw [map_shift_zero, HPM.out, HPL.out]
        · intro x hx
          rw [HPM.out, List.map_take, hmx] at hx
          exact offs_le t (by omega) x (List.mem_of_mem_take hx)
      refine wpIn_offEnd ?_
      gi_region_with_o ((refine ⟨trivial, ?_⟩; gi_at_call 16; refine (callsIn_wide.2 (SAM.out _ (by first | exact (Below.refl _ _).drew | exact Below.refl _ _))).mono ?_; rintro e w6 ⟨rfl, b6⟩))
      all_goals
        unfold offEnd
        have hK6 : w6.heap[D]? = some (.deferred (some [])) := (b6.block D (txt_lt hK)).trans hK
        have B6 : Below w.heap.size w w6 := (B2.trans (hbel.mono B2.size)).drew.trans (b6.mono (Nat.le_trans B2.size hbel.size))
        have hBD : w.heap.size ≤ D := by have h1 := B2.size; have h2 := b24.size; omega
        gi_wp2
        refine ⟨by simp, .inl ⟨_, _, rfl, run_takeDeferred hK6, ?_⟩⟩
        exact ⟨_, results_tmp rfl _ _ _, rfl, B6.trans (belowK_b (w := w) (Nat.le_refl _) w6 D _ _ hBD hK6 rfl rfl)⟩
    case stop =>
      rintro D id pre W hD hS ⟨⟨⟨v, hv, hrow, _⟩, hts, hbel⟩, rfl, hpl0⟩ hK
      have hpx : pre.length ≤ xs.length := by have := hS.length_le; rw [← hmx] at this; simpa using this
      have hpl : pre.length = min xs.length (c.toNat + 1) := by omega
      have hpm : pre.map LnV.ln = (xs.take (min xs.length (c.toNat + 1))).map LnV.ln := by
        rw [← hpl, List.map_take, hmx]
        have := List.prefix_iff_eq_take.1 hS
        simpa using this
      clear hpl0 hpx hS
      have hN5 : Boxed W w.heap.size 5 (.int .u8 (c.toNat : Int)) := (hbel.block _ hN2lt).trans hN2
      have hcN := hN5.cell
      have hcB := hv.cell
      obtain ⟨a5, cap5, rfl, hcap5, hls5⟩ := own_ls (own_base hrow b24.size) hts
      have HPL := Lib.hid hpl
      have HPM := Lib.hid hpm
      clear hpl hpm
      gi_wp2
      have hmin : min (xs.length : Int) ((c.toNat : Int) + 1) = (pre.length : Int) := by have := HPL.out; omega
      rw [hmin]
      clear hmin
      have hkx : pre.length ≤ xs.length := by have := HPL.out; omega
      have hkc : pre.length ≤ cap2 := by omega
      have mixed : Try.prog.follows .mixedOrders = true := by kernel_rfl
      have SAM : Hid (∀ W' : World, Below W.heap.size W W' → Calls Try.prog 16 #[.slice a5 pre.length cap5, .slice a2 pre.length cap2, .int .i64 0] W' fun e w' => e = .returned (.bool true) ∧ Below W'.heap.size W' w') := Lib.hid fun W' hW' => by
        refine same_n pre (xs.take pre.length) 0 pre.length pre.length a5 a2 cap5 cap2 W' rfl (by simp; omega) ?_ (hls5.keep hW') (((hls.keep hbel).keep hW').take _) ?_ (by have := HPL.out; omega)
        · rw [map_shift_zero, HPM.out, HPL.out]
        · intro x hx
          rw [HPM.out, List.map_take, hmx] at hx
          exact offs_le t (by omega) x (List.mem_of_mem_take hx)
      refine wpIn_offEnd ?_
      gi_region_with_o ((refine ⟨trivial, ?_⟩; gi_at_call 16; refine (callsIn_wide.2 (SAM.out _ (by first | exact (Below.refl _ _).drew | exact Below.refl _ _))).mono ?_; rintro e w6 ⟨rfl, b6⟩))
      all_goals
        unfold offEnd
        have hK6 : w6.heap[D]? = some (.deferred (some [])) := (b6.block D (txt_lt hK)).trans hK
        have B6 : Below w.heap.size w w6 := (B2.trans (hbel.mono B2.size)).drew.trans (b6.mono (Nat.le_trans B2.size hbel.size))
        have hBD : w.heap.size ≤ D := by have h1 := B2.size; have h2 := b24.size; omega
        gi_wp2
        refine ⟨by simp, .inl ⟨_, _, rfl, run_takeDeferred hK6, ?_⟩⟩
        exact ⟨_, results_tmp rfl _ _ _, rfl, B6.trans (belowK_b (w := w) (Nat.le_refl _) w6 D _ _ hBD hK6 rfl rfl)⟩
  · have hgt : 1000 < t.length := by omega
    refine callsIn_of_wp_marks Try.func4 rfl trivial ?_ rfl
    simp only [Try.ntmps4, List.size_toArray, List.length_cons, List.length_nil, Nat.reduceAdd, Nat.reduceSub, Array.replicate_succ, Array.replicate_zero, List.push_toArray, List.append_toArray, List.nil_append, List.cons_append]
    gi_wp2_with (fail)
    refine ⟨trivial, (callsIn_wide.2 (awake_any _)).mono ?_⟩
    rintro e w1 ⟨rfl, b1⟩
    have B1 : Below w.heap.size w w1 := ((Below.refl _ w).alloc (Nat.le_refl _) _).trans (b1.mono (by simp))
    gi_wp2
    exact ⟨_, results_tmp rfl _ _ _, rfl, B1⟩
end Go.Proofs.Ytcieikibfmelkaa.linesAll
