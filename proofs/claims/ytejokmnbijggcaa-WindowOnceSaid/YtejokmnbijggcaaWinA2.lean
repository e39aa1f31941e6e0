/- A window; what Copy into its row, widen and Add answer. -/
import Derived.Test.YtejokmnbijggcaaWinA1
namespace Go.Proofs.Ytejokmnbijggcaa.Win
open Go.Proofs.Ytejokmnbijggcaa.Stm Go.Proofs.Ytejokmnbijggcaa.Reg Go.RowKit Go.Maps
set_option maxRecDepth 100000
set_option linter.unusedVariables false
/-- Bytes l put into a row from n on. -/
def put (t : Stm.Tx) (n : Nat) (l : Stm.Tx) : Stm.Tx := t.take n ++ (l ++ t.drop (n + l.length))
theorem put_length {t : Stm.Tx} {n : Nat} {l : Stm.Tx} (h : n + l.length ≤ t.length) : (put t n l).length = t.length := by
  simp only [put, List.length_append, List.length_take, List.length_drop]
  omega
theorem put_take {t : Stm.Tx} {n : Nat} {l : Stm.Tx} (h : n + l.length ≤ t.length) : (put t n l).take (n + l.length) = t.take n ++ l := by
  unfold put
  rw [← List.append_assoc, List.take_left' (by rw [List.length_append, List.length_take]; omega)]
/-- copy, at the operation: into a row, where all has room. -/
theorem copy_row {w : World} {ops : Array Oper} {rest : List Oper} {o : Oper} {a : Act} {Q : Exit → Act → World → Prop} (hgd : o.guard = none) (d s : Operand)
    (ho : o.op = .call { callee := .builtin .copy, args := #[d, s], argTypes := #[31, 31] }) (A : Option Addr) (m cap k n : Nat) (t : Stm.Tx) (hd : a.eval d = .slice A m cap)
    (B : Option Addr) (l : Stm.Tx) (c N : Nat) (hs : a.eval s = .slice B l.length c) (hB : Bs w N B l) (hm : l.length ≤ m) (hA : 0 < l.length → A = some ⟨k, n, none⟩ ∧ Row w k t ∧ n + l.length ≤ t.length)
    (h : ∀ w' r, (0 < l.length → Row w' k (put t n l)) → (∀ j, r = some j → j = k ∧ 0 < l.length) → w.grownBy w' r → wpList Try.prog ops Q rest (a.put o.dst (.int .i64 (l.length : Int))) w') : wpList Try.prog ops Q (o :: rest) a w := by
  have hsz : (Try.prog.info? 5).map (·.size) = some 1 := by kernel_rfl
  by_cases h0 : l.length = 0
  · refine wpList_copy_nothing hgd d s 31 31 ho 5 und22 hsz A B m cap l.length c hd hs ((Nat.min_eq_left hm).trans h0) ?_
    have := h w none (fun e => by omega) (fun k hk => by cases hk) (World.grownBy.refl w _)
    rw [h0] at this
    exact this
  · obtain ⟨rfl, hr, hf⟩ := hA (by omega)
    obtain ⟨b, off, rfl, _, hbs⟩ := hB (by omega)
    have hvl : (vals l).length = l.length := by simp [vals]
    have hvt : (vals t).length = t.length := by simp [vals]
    unfold Row at hr
    refine wpList_copy_own hgd d s 31 31 ho 5 und22 hsz k n m cap ⟨b, off, none⟩ l.length c hd hs (vals t).toArray 5 hr (vals l) (by rw [hvl]; exact (Nat.min_eq_left hm).symm) ?_ (by rw [hvl, List.size_toArray, hvt]; omega) (vals_one _) ?_
    · intro j v hj
      have hjl : j < l.length := by rw [← hvl]; exact (List.getElem?_eq_some_iff.1 hj).1
      have e2 : (⟨b, off, none⟩ : Addr).add j = ⟨b, off + j, none⟩ := by unfold Addr.add; split <;> simp_all
      rw [e2, hbs j hjl]
      simpa [vals, hjl] using hj
    · rw [hvl]
      refine h _ (some k) (fun _ => ?_) (fun j hj => by cases hj; exact ⟨rfl, by omega⟩) ⟨rfl, rfl, rfl, by simp [World.setRow], fun j _ hj => setRow_other w k j _ (fun e => hj (by rw [e]))⟩
      unfold Row
      rw [setRow_heap w k _ _ 5 _ hr]
      simp [put, vals, List.map_take, List.map_drop]
/-- What Copy gives: so many bytes lie in the row, and are counted. -/
def GivesCopy (w : World) (p : Option Addr) (k n : Nat) (l t : Stm.Tx) (a b c d : Int) (e : Ending) (w' : World) : Prop :=
  e = .returned (.int .i64 (l.length : Int)) ∧ (0 < l.length → Row w' k (put t n l)) ∧ Met.Mt w' p a b c (d + (l.length : Int)) ∧
    ∃ w1 r, (∀ j, r = some j → j = k ∧ 0 < l.length) ∧ w.grownBy w1 r ∧ w1.grownBy w' (Met.blk p)
set_option maxHeartbeats 1000000 in
theorem copy_fit (w : World) (p : Option Addr) (A : Option Addr) (m cap k n : Nat) (t : Stm.Tx) (B : Option Addr) (l : Stm.Tx) (cb N : Nat) (hB : Bs w N B l) (hl : l.length ≤ 1000000000000) (hm : l.length ≤ m) (hA : 0 < l.length → A = some ⟨k, n, none⟩ ∧ Row w k t ∧ n + l.length ≤ t.length)
    (a b c d : Int) (hM : Met.Mt w p a b c d) (ha : 0 ≤ a ∧ a ≤ 1000000000000) (hb : 0 ≤ b ∧ b ≤ 1000000000000) (hc : 0 ≤ c ∧ c ≤ 1000000000000) (hd : 0 ≤ d ∧ d ≤ 1000000000000) :
    Calls Try.prog 20 #[.pointer p, .slice A m cap, .slice B l.length cb] w (GivesCopy w p k n l t a b c d) := by
  have HB := Lib.hid hB
  have HM := Lib.hid hM
  have HA := Lib.hid hA
  clear hB hM hA
  go_enter Try.func20, Try.ntmps20
  go_wp2_with (first
    | ((with_reducible refine copy_row rfl (.tmp 8) (.tmp 9) rfl A m cap k n t rfl B l cb N rfl HB.out hm HA.out ?_); intro w1 r ht1 hr1 hg1; have HM1 := Lib.hid (HM.out.same fun j hj => hg1.block j (HM.out.lt hj) (fun e => by obtain ⟨rfl, h0⟩ := hr1 j e.symm; exact HM.out.not (HA.out h0).2.1 (by decide) hj)); have HT1 := Lib.hid ht1; have HR1 := Lib.hid hr1; have HG1 := Lib.hid hg1; clear ht1 hr1 hg1)
    | (go_at_call 23; (with_reducible refine (Met.add_move w1 p a b c d _ HM1.out ha hb hc hd (by omega)).mono ?_); rintro e w2 ⟨rfl, hM2, hg2⟩; have HM2 := Lib.hid hM2; have HG2 := Lib.hid hg2; clear hM2 hg2))
  go_ret
  exact ⟨rfl, fun h0 => (HT1.out h0).same (HG2.out.block k (HT1.out h0).lt (HM1.out.not (HT1.out h0) (by decide))), HM2.out, w1, r, HR1.out, HG1.out, HG2.out⟩
theorem made_zeros (n : Nat) : madeCells (Value.int .u8 0).cells (n * 1) = (vals (List.replicate n 0)).toArray := by
  apply Array.ext_getElem?
  intro j
  by_cases hj : j < n
  · simp only [madeCells, vals, List.map_replicate, List.toArray_replicate, Array.getElem?_map, Array.getElem?_replicate, if_pos hj]
    rw [Array.getElem?_range]
    have : j % 1 = 0 := Nat.mod_one j
    simp [Value.cells, hj, this]
  · simp [madeCells, vals, Value.cells, hj]
/-- make([]byte, n). -/
theorem wp_make_bytes {w : World} {o : Oper} {a : Act} {K : Act → World → Prop} {Q : Exit → Act → World → Prop} (l c : Operand) (hop : o.op = .makeSlice 31 l c) (n : Nat) (hl : a.eval l = .int .i64 (n : Int)) (hc : a.eval c = .int .i64 (n : Int)) (hn : n ≤ 10000000000)
    (hK : ∀ w', Row w' w.heap.size (List.replicate n 0) → Below w.heap.size w w' → K (a.put o.dst (.slice (some ⟨w.heap.size, 0, none⟩) n n)) w') : o.wp Try.prog a w K Q := by
  obtain ⟨i0, hi, hz0, hz1, hz2⟩ := info_parts info5
  obtain ⟨w', hrun, r1, r2⟩ := run_make_full (P := Try.prog) w w.heap.size 31 5 i0 (.int .u8 0) 1 und22 hi hz0 hz1 .i64 .i64 n (by rw [hz2]; omega) (by unfold maxLen; omega) (Nat.le_refl _)
  have hg : Row w' w.heap.size (List.replicate n 0) := by
    rcases r1.2 with ⟨e, _⟩ | ⟨g, cap, cur, e, _, hh, _, _, hs, ht⟩
    · cases e
    · injection e with e1 e2 e3
      have eg : w.heap.size = g := by simpa using e1
      subst eg
      subst e3
      have : cur = (vals (List.replicate n 0)).toArray := by
        rw [← made_zeros]
        apply Array.toList_inj.1
        rw [← ht]
        exact (List.take_of_length_le (by rw [Array.length_toList, hs]; exact Nat.le_refl _)).symm
      unfold Row
      rw [hh, this]
  unfold Oper.wp
  simp [execOp, hop, hl, hc, hrun, Result.andThen]
  exact hK _ hg ((Below.refl _ w).grown r2 (Nat.le_refl _) (fun k hk => by cases hk))
theorem make_list {w : World} {ops : Array Oper} {rest : List Oper} {o : Oper} {a : Act} {Q : Exit → Act → World → Prop} (hgd : o.guard = none) (l c : Operand) (hop : o.op = .makeSlice 31 l c) (n : Nat) (hl : a.eval l = .int .i64 (n : Int)) (hc : a.eval c = .int .i64 (n : Int)) (hn : n ≤ 10000000000)
    (h : ∀ w', Row w' w.heap.size (List.replicate n 0) → Below w.heap.size w w' → wpList Try.prog ops Q rest (a.put o.dst (.slice (some ⟨w.heap.size, 0, none⟩) n n)) w') : wpList Try.prog ops Q (o :: rest) a w :=
  wpList_plain hgd fun K hK => wp_make_bytes l c hop n hl hc hn fun w' h1 h2 => hK _ _ (h w' h1 h2)
end Go.Proofs.Ytejokmnbijggcaa.Win
