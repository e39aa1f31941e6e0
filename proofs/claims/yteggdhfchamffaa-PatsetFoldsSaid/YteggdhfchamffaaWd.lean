/- The contract of the iterator over lines. -/
import Derived.Test.YteggdhfchamffaaWc
import Derived.RangeFuncNested
import Derived.RangeFuncBound
import Derived.RangeFuncCalls
import Derived.RangeFuncLeaves
import Derived.Shelf.Abstract
import Derived.Shelf.RegionOpen
import Derived.OwnWalkIn
import Derived.TacticsInMore
import Derived.LoopNIn
import Derived.LoopIn
namespace Go.Proofs.Yteggdhfchamffaa
open Go.RowKit Go.Shelf
attribute [local go_sem] Oper.semAt_some

/-- A line, and where its bytes lie. -/
structure LnV where
  ln : Ln
  a : Option Addr
  cap : Nat
  nil0 : a = none → cap = 0
def LnV.val (x : LnV) : Value := lnv x.ln x.a x.cap

/-- What a round keeps: every block below m, but B; every block from s on. -/
structure Kept (B m s : Nat) (W W' : World) : Prop where
  size : W.heap.size ≤ W'.heap.size
  same : ∀ k, k < W.heap.size → k ≠ B → (k < m ∨ s ≤ k) → W'.heap[k]? = W.heap[k]?

theorem goes_done (off : Nat) (t : List UInt8) (h : t.length ≤ off) : goes off [] (t.drop off) = [] := by
  rw [List.drop_of_length_le h, goes_end]

theorem und45 : Try.prog.underlying 63 = some (.func #[61] #[4] false) := by kernel_rfl
theorem equalIn_func (w : World) (d : Nat) (f : Fn) (b c : Array Value) : (Op.equalIn (d + 1) 63 (.func f b c) .nilFunc).run Try.prog w = .ok false w := by
  simp [Op.equalIn, run_underlying und45]
theorem eql_func (w : World) (f : Fn) (b c : Array Value) : (binOp .eql 63 (.func f b c) .nilFunc).run Try.prog w = .ok (.bool false) w := by
  simp only [binOp]
  simp [Op.equal, Op.maxDepth, equalIn_func w 9999 f b c]

set_option maxRecDepth 100000 in
set_option maxHeartbeats 4000000 in
theorem all1_any (n l Bn B m : Nat) (t : List UInt8) (a0 : Option Addr) (cap0 : Nat) (ht : t.length ≤ 1000000000000) (hcap : t.length ≤ cap0) (J Jx : List LnV → World → Prop)
    (hJ : ∀ pre W W', J pre W → Below W.heap.size W W' → J pre W')
    (hY : ∀ pre x W0 W, J pre W0 → Below W0.heap.size W0 W → Txt W W0.heap.size x.a x.ln.text → (pre ++ [x]).map LnV.ln <+: linesOf t → YieldAt Fence.wide (n - 1) Try.prog l #[x.val] W fun e W' =>
      (e = .returned (.bool true) ∧ J (pre ++ [x]) W' ∧ Kept B m W0.heap.size W W') ∨ (e = .returned (.bool false) ∧ Jx (pre ++ [x]) W'))
    (W : World) (hm : m ≤ W.heap.size) (hbox : W.heap[Bn]? = some (.cells #[.slice a0 t.length cap0] 22 (0, 0))) (hBm : B < m) (hBn : Bn < m ∧ Bn ≠ B)
    (hT : 0 < t.length → ∃ b cs, a0 = some ⟨b, 0, none⟩ ∧ b < m ∧ b ≠ B ∧ W.heap[b]? = some (.cells cs 5 (0, 0)) ∧ ∀ i (h : i < t.length), cs[i]? = some (.int .u8 (t[i].toNat : Int))) (h0 : J [] W) :
    CallsIn Fence.wide n Try.prog 31 #[.func (.yield l) #[] #[], .pointer (some ⟨Bn, 0, none⟩)] W fun e W' => (∃ v, e = .returned v) ∧
      ((∃ xs, xs.map LnV.ln = linesOf t ∧ J xs W') ∨ (∃ pre, pre.map LnV.ln <+: linesOf t ∧ Jx pre W')) := by
  have qf := fun w => eql_func w (.yield l) #[] #[]
  refine callsIn_of_wp Try.func31 rfl trivial ?_ rfl
  simp only [Try.ntmps31, List.size_toArray, List.length_cons, List.length_nil, Nat.reduceAdd, Nat.reduceSub, Array.replicate_succ, Array.replicate_zero, List.push_toArray, List.append_toArray, List.nil_append, List.cons_append]
  gi_wp2
  clear qf
  gi_loopw [3] (fun i wr => ∃ (off : Nat) (pre : List LnV), i = .int .i64 off ∧ off ≤ t.length + 1 ∧ linesOf t = pre.map LnV.ln ++ goes off [] (t.drop off) ∧ J pre wr ∧ W.heap.size ≤ wr.heap.size ∧ (∀ k, k < m → k ≠ B → wr.heap[k]? = W.heap[k]?))
    (fun i _ => t.length + 1 - (intOf i).toNat)
  case atStart => exact ⟨0, [], rfl, by omega, by simp [linesOf], h0, Nat.le_refl _, fun _ _ _ => rfl⟩
  case round =>
    obtain ⟨off, pre, rfl, hoff, hlin, hJs, hsz, hkp⟩ := hrel
    have hboxr : Boxed wr Bn 22 (.slice a0 t.length cap0) := (hkp Bn hBn.1 hBn.2).trans hbox
    have hcb := hboxr.cell
    have HLIN := Lib.hid hlin
    have HY := Lib.hid hY
    have HJ := Lib.hid hJ
    have HKP := Lib.hid hkp
    clear hlin hY hJ
    clear hkp
    by_cases hlt : off < t.length
    · obtain ⟨b, cs, rfl, hbm, hbB, hhb, hcs⟩ := hT (by omega)
      have hhr : wr.heap[b]? = some (.cells cs 5 (0, 0)) := (HKP.out b hbm hbB).trans hhb
      have hcr : ∀ i (h : i < t.length), wr.cell? ⟨b, 0 + i, none⟩ = some (.int .u8 (t[i].toNat : Int)) := fun i h => by
        rw [Nat.zero_add, cell_of_row wr b _ _ 5 (0, 0) hhr]; exact hcs i h
      obtain ⟨x, hcall, hxo, hxl, hgo⟩ := at_any t b 0 cap0 off wr ht hcap hlt (txt_lt hhr) hcr
      have HGO := Lib.hid hgo
      have HXO := Lib.hid hxo
      clear hgo hxo hcr hcs hhb
      gi_wp2_with (fail)
      refine ⟨trivial, (fun h => by cases h), (callsIn_wide.2 hcall).mono ?_⟩
      rintro e w1 ⟨a1, cap1, rfl, ht1, hnc1, hb1⟩
      have hbk2 : Blk3 (w1.alloc (.cells #[.int .i64 (x.off : Int), .slice a1 x.text.length cap1, .bool x.ends] 61)) w1.heap.size 61 (.int .i64 (x.off : Int)) (.slice a1 x.text.length cap1) (.bool x.ends) := new_cells _ _ _ _ _
      have hb2 : Below wr.heap.size wr (w1.alloc (.cells #[.int .i64 (x.off : Int), .slice a1 x.text.length cap1, .bool x.ends] 61)) := hb1.alloc hb1.size _
      have ht2 : Txt (w1.alloc (.cells #[.int .i64 (x.off : Int), .slice a1 x.text.length cap1, .bool x.ends] 61)) wr.heap.size a1 x.text := ht1.keep ((Below.refl _ _).alloc (Nat.le_refl _) _)
      have hpf : Hid ((pre ++ [(⟨x, a1, cap1, hnc1⟩ : LnV)]).map LnV.ln <+: linesOf t) := Lib.hid (by
        rw [HLIN.out, HGO.out]
        exact ⟨goes (off + x.text.length + 1) [] (t.drop (off + x.text.length + 1)), by simp⟩)
      obtain ⟨fn, tmps, assign, body, hy, hR⟩ := HY.out pre ⟨x, a1, cap1, hnc1⟩ wr _ hJs hb2 ht2 hpf.out
      have HBK := Lib.hid hbk2
      simp only [LnV.val, lnv] at hy
      unfold lnv
      clear hbk2 ht2
      gi_wp2
      refine ⟨(fun h => by cases h), hR.mono ?_⟩
      rintro e W3 (⟨rfl, hJ3, hk3⟩ | ⟨rfl, hJx3⟩)
      · have hs1 := hb1.size
        have hbk3 : Blk3 W3 w1.heap.size 61 (.int .i64 (x.off : Int)) (.slice a1 x.text.length cap1) (.bool x.ends) :=
          (hk3.same w1.heap.size (by simp) (by omega) (.inr hs1)).trans HBK.out
        obtain ⟨d0, d1, d2⟩ := hbk3.cells
        clear hy hR
        gi_wp2
        go_roundw
        case rel =>
          have hs2 := hb2.size
          have hs3 := hk3.size
          refine ⟨off + x.text.length + 1, pre ++ [⟨x, a1, cap1, hnc1⟩], by go_num, by omega, ?_, hJ3, by omega, fun k hk hkB => ?_⟩
          · rw [HLIN.out, HGO.out]; simp
          · exact ((hk3.same k (by omega) hkB (.inl hk)).trans (hb2.block k (by omega))).trans (HKP.out k hk hkB)
        case measure => simp [intOf]; omega
      · gi_wp2
        refine bodyPost_ret (results_none rfl _ _ _) rfl ?_
        exact ⟨⟨_, rfl⟩, .inr ⟨pre ++ [⟨x, a1, cap1, hnc1⟩], hpf.out, hJx3⟩⟩
    · gi_wp2
      go_end0
      refine ⟨⟨_, rfl⟩, .inl ⟨pre, ?_, hJs⟩⟩
      have := HLIN.out
      rw [goes_done _ _ (by omega), List.append_nil] at this
      exact this.symm
end Go.Proofs.Yteggdhfchamffaa
