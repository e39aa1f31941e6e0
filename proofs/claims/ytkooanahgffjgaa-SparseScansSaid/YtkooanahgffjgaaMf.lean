/- The contracts of Look and of the reference's Sparse. -/
import Derived.Test.YtkooanahgffjgaaMe
namespace Go.Proofs.Ytkooanahgffjgaa.Met
open Go.RowKit Go.Maps
set_option maxRecDepth 100000

theorem Tb.keep {w w' : World} {s t : Nat} {p : Option Addr} {l : List Rw} (h : Tb w s t p l) (hb : Below w.heap.size w w') : Tb w' s t p l := by
  obtain ⟨h0, v, g, n, h1, h2, h3⟩ := h
  exact ⟨h0, v, g, n, h1.same (hb.block t h1.lt), (hb.block v (txt_lt h2)).trans h2, h3.same (hb.block g h3.lt)⟩
theorem Mt.notMap {w : World} {p : Option Addr} {s l h m : Int} (hM : Mt w p s l h m) {g n : Nat} {r : List Rw} (hm : MapR w g n r) : some g ≠ blk p := by
  rcases hM with rfl | ⟨g, rfl, hM⟩
  · intro e; cases e
  · intro e; cases e; exact hm.not hM
theorem Tb.adds {w w' : World} {s t : Nat} {p q : Option Addr} {l : List Rw} {a b c d : Int} (h : Tb w s t p l) (hg : w.grownBy w' (blk q)) (hM : Mt w q a b c d) : Tb w' s t p l := by
  obtain ⟨h0, v, g, n, h1, h2, h3⟩ := h
  exact ⟨h0, v, g, n, h1.same (hg.block t h1.lt (hM.not h1 (by decide))), (hg.block v (txt_lt h2) (hM.not h2 (by decide))).trans h2, h3.same (hg.block g h3.lt (hM.notMap h3))⟩
theorem und43 : Try.prog.underlying 89 = some (.func #[3, 5] #[3] false) := by kernel_rfl
theorem equalIn_func (w : World) (d : Nat) (f : Fn) (b c : Array Value) : (Op.equalIn (d + 1) 89 (.func f b c) .nilFunc).run Try.prog w = .ok false w := by
  simp [Op.equalIn, run_underlying und43]
theorem eql_nilfunc (fn : Fn) (a b : Array Value) (w : World) : (binOp .eql 89 (.func fn a b) .nilFunc).run Try.prog w = .ok (.bool false) w := by
  simp only [binOp]
  simp [Op.equal, Op.maxDepth, equalIn_func w 9999 fn a b]
theorem look_none (w : World) (s c : Int) : Calls Try.prog 46 #[.pointer none, .int .i64 s, .int .u8 c] w fun e w' => e = .returned (.int .i64 (-1)) ∧ w = w' := by
  go_enter Try.func46, Try.ntmps46
  go_wp2
  go_ret
  exact ⟨rfl, rfl⟩
set_option maxHeartbeats 1000000 in
theorem look_some (w : World) (u t : Nat) (p : Option Addr) (l : List Rw) (h : Tb w u t p l) (s : Int) (c : UInt8) (hs : (Lit.int .i64 s).wf = true) (a b e d : Int) (hM : Mt w p a b e d) (ha : 0 ≤ a ∧ a ≤ 1000000000000) (hb : 0 ≤ b ∧ b ≤ 1000000000000) (hc : 0 ≤ e ∧ e ≤ 1000000000000) (hd : 0 ≤ d ∧ d ≤ 1000000000000) :
    Calls Try.prog 46 #[.pointer (some ⟨t, 0, none⟩), .int .i64 s, .int .u8 (c.toNat : Int)] w (Adds w p a (b + 1) e d (.int .i64 (spar l s c))) := by
  have C := Lib.hid (add_look w p a b e d hM ha hb hc hd)
  have HM := Lib.hid hM
  have HS := Lib.hid hs
  obtain ⟨_, v, g, n, h1, h2, h3⟩ := h
  obtain ⟨c0, c1⟩ := h1.cells
  have H2 := Lib.hid h2
  have H3 := Lib.hid h3
  have hf := eql_nilfunc
  clear hM h2 h3 hs
  go_enter Try.func46, Try.ntmps46
  go_wp2_with (first
    | (go_at_call 48; (with_reducible refine C.out.mono ?_); rintro e w1 ⟨rfl, hM1, hg1⟩; have k1 := h1.same (hg1.block t h1.lt (HM.out.not h1 (by decide))); have K2 := Lib.hid (cell_one ((hg1.block v (txt_lt H2.out) (HM.out.not H2.out (by decide))).trans H2.out)); have K3 := Lib.hid (H3.out.same (hg1.block g H3.out.lt (HM.out.notMap H3.out))); obtain ⟨e0, e1⟩ := k1.cells; clear k1 c0 c1; have HM1 := Lib.hid hM1; have HG1 := Lib.hid hg1; clear hM1 hg1)
    | (go_at_call 45; (with_reducible refine (sparse_look w1 s c HS.out v g n l K2.out K3.out).mono ?_); rintro e w2 ⟨rfl, rfl⟩))
  go_ret
  exact ⟨rfl, HM1.out, HG1.out⟩
theorem sparc_step (l : List Rw) (k : Nat) (h : k < l.length) (s : Int) (c : UInt8) : spar (l.take (k + 1)) s c = if l[k].s = s ∧ l[k].b = c then l[k].t else spar (l.take k) s c := by
  rw [List.take_succ_eq_append_getElem h, spar_snoc]
theorem u8_eq (c d : UInt8) : ((c.toNat : Int) == (d.toNat : Int)) = decide (c = d) := by
  rw [Bool.eq_iff_iff]; simp only [beq_iff_eq, decide_eq_true_eq]
  exact ⟨fun h => UInt8.toNat_inj.1 (by omega), fun h => by rw [h]⟩
end Go.Proofs.Ytkooanahgffjgaa.Met
