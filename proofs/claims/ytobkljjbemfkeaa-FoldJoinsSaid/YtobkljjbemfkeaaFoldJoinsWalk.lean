/- The walk of the law FoldJoins. -/
import Derived.Test.YtobkljjbemfkeaaLists
import Derived.Deep.DeepCutAuto
import Derived.Deep.RegionHeld3
import Derived.Laws.AppendOwnNone
import Derived.IntWalk
namespace Go.Proofs.Ytobkljjbemfkeaa.foldJoins
open Go.RowKit

theorem setOf_append (a b : List UInt8) : setOf (a ++ b) = setOf a ||| setOf b := by
  apply Nat.eq_of_testBit_eq
  intro k
  rw [Nat.testBit_or, setOf_bit, setOf_bit, setOf_bit, List.any_append]
theorem blk_alloc {w : World} {g N : Nat} (h : Blk4 w g N) (o : Obj) : Blk4 (w.alloc o) g N := h.keep (B := w.heap.size) ((Below.refl _ _).alloc (Nat.le_refl _) _) h.lt
theorem len_or_le (A B k : Nat) : (listTo (A ||| B) k).length ≤ (listTo A k).length + (listTo B k).length ∧ (listTo A k).length ≤ (listTo (A ||| B) k).length ∧ (listTo B k).length ≤ (listTo (A ||| B) k).length := by
  induction k with
  | zero => simp [listTo]
  | succ k ih =>
    have e : (A ||| B).testBit k = (A.testBit k || B.testBit k) := Nat.testBit_or ..
    cases ha : A.testBit k <;> cases hb : B.testBit k <;> rw [ha, hb] at e
    · rw [listTo_no _ _ e, listTo_no _ _ ha, listTo_no _ _ hb]; exact ih
    · rw [listTo_yes _ _ e, listTo_no _ _ ha, listTo_yes _ _ hb]; simp only [List.length_append, List.length_cons, List.length_nil]; omega
    · rw [listTo_yes _ _ e, listTo_yes _ _ ha, listTo_no _ _ hb]; simp only [List.length_append, List.length_cons, List.length_nil]; omega
    · rw [listTo_yes _ _ e, listTo_yes _ _ ha, listTo_yes _ _ hb]; simp only [List.length_append, List.length_cons, List.length_nil]; omega

theorem vals_one (l : List UInt8) : ∀ v ∈ vals l, v.oneCell' = true := by
  intro v hv
  simp only [vals, List.mem_map] at hv
  obtain ⟨c, _, rfl⟩ := hv
  rfl
/-- A slice that reads as l, appended to a row of the call's own. -/
theorem app_bs {w : World} {ops : Array Oper} {rest : List Oper} {o : Oper} {a : Act} {Q : Exit → Act → World → Prop} (hgd : o.guard = none) (s x : Operand)
    (ho : o.op = .call { callee := .builtin .append, args := #[s, x], argTypes := #[22, 22] })
    (base : Nat) (v : Value) (n : Nat) (xs : List Value) (hs : a.eval s = v) (hown : w.ownsRow base 5 1 v n xs)
    (A : Option Addr) (l : List UInt8) (c B : Nat) (hx : a.eval x = .slice A l.length c) (hb : Bs w B A l) (hnil : A = none → c = 0)
    (hn : n + l.length ≤ 1000000) (hbase : base ≤ w.heap.size)
    (h : ∀ v' w', w'.ownsRow base 5 1 v' (n + l.length) (xs ++ vals l) → w.grownBy w' v.ownBlock → wpList Try.prog ops Q rest (a.put o.dst v') w') : wpList Try.prog ops Q (o :: rest) a w := by
  obtain ⟨i0, hi, hz0, hz1, hz2⟩ := info_parts info5
  cases A with
  | none =>
    have hl : l = [] := by
      rcases Nat.eq_zero_or_pos l.length with h0 | h0
      · exact List.eq_nil_of_length_eq_zero h0
      · obtain ⟨_, _, e, _⟩ := hb h0; cases e
    subst hl
    rw [hnil rfl] at hx
    refine wpList_append_own_none hgd s x 22 ho base 5 i0 1 Try.underlying22 hi v n xs hs hown hx (h v w ?_ (World.grownBy.refl w _))
    simpa [vals] using hown
  | some ad =>
    refine wpList_append_own w hgd s x 22 ho base 5 i0 (.int .u8 0) 1 1 Try.underlying22 hi hz0 hz1 hz2 rfl (by decide) v n xs hs hown ad l.length c (vals l) hx (by simp [vals]) ?_ (vals_one l) (by unfold maxLen; omega) (by omega) hbase (fun v' w' h1 h2 _ => h v' w' h1 h2)
    intro j u hj
    have hjl : j < l.length := by
      have := (List.getElem?_eq_some_iff.1 hj).1
      simpa [vals] using this
    obtain ⟨b, off, e, _, hc⟩ := hb (by omega)
    injection e with e
    subst e
    have e2 : (⟨b, off, none⟩ : Addr).add j = ⟨b, off + j, none⟩ := by unfold Addr.add; split <;> simp_all
    rw [e2, hc j hjl]
    simp [vals, hjl] at hj
    rw [← hj]

theorem appstep {w W W' : World} {gA gB A B base n : Nat} {v : Value} {xs : List Value} (hA : Blk4 W gA A) (hB : Blk4 W gB B) (hb : Below w.heap.size w W) (hown : W.ownsRow base 5 1 v n xs) (hg : W.grownBy W' v.ownBlock)
    (h1 : gA < base) (h2 : gB < base) (h3 : w.heap.size ≤ base) : Blk4 W' gA A ∧ Blk4 W' gB B ∧ Below w.heap.size w W' ∧ W.heap.size ≤ W'.heap.size := by
  have hge := fun g => own_ge hown (g := g)
  refine ⟨(hg.block gA hA.lt (fun e => by have := hge _ e.symm; omega)).trans hA, (hg.block gB hB.lt (fun e => by have := hge _ e.symm; omega)).trans hB, hb.grown hg hb.size (fun k e => by have := hge k e; omega), hg.size⟩

theorem keepBelow {w W : World} {x y u A B U : Nat} (h : W.cell? ⟨x, 0, none⟩ = some (.int .u64 (wd A 0)) ∧ W.cell? ⟨x, 1, none⟩ = some (.int .u64 (wd A 1)) ∧ W.cell? ⟨x, 2, none⟩ = some (.int .u64 (wd A 2)) ∧ W.cell? ⟨x, 3, none⟩ = some (.int .u64 (wd A 3)) ∧ W.cell? ⟨y, 0, none⟩ = some (.int .u64 (wd B 0)) ∧ W.cell? ⟨y, 1, none⟩ = some (.int .u64 (wd B 1)) ∧ W.cell? ⟨y, 2, none⟩ = some (.int .u64 (wd B 2)) ∧ W.cell? ⟨y, 3, none⟩ = some (.int .u64 (wd B 3)) ∧ W.cell? ⟨u, 0, none⟩ = some (.int .u64 (wd U 0)) ∧ W.cell? ⟨u, 1, none⟩ = some (.int .u64 (wd U 1)) ∧ W.cell? ⟨u, 2, none⟩ = some (.int .u64 (wd U 2)) ∧ W.cell? ⟨u, 3, none⟩ = some (.int .u64 (wd U 3)) ∧ Below w.heap.size w W) : Below w.heap.size w W := by
  obtain ⟨_, _, _, _, _, _, _, _, _, _, _, _, bel⟩ := h
  exact bel
theorem keepS {w W w' : World} {x y u A B U : Nat} (hb : Below W.heap.size W w')
    (h : W.cell? ⟨x, 0, none⟩ = some (.int .u64 (wd A 0)) ∧ W.cell? ⟨x, 1, none⟩ = some (.int .u64 (wd A 1)) ∧ W.cell? ⟨x, 2, none⟩ = some (.int .u64 (wd A 2)) ∧ W.cell? ⟨x, 3, none⟩ = some (.int .u64 (wd A 3)) ∧ W.cell? ⟨y, 0, none⟩ = some (.int .u64 (wd B 0)) ∧ W.cell? ⟨y, 1, none⟩ = some (.int .u64 (wd B 1)) ∧ W.cell? ⟨y, 2, none⟩ = some (.int .u64 (wd B 2)) ∧ W.cell? ⟨y, 3, none⟩ = some (.int .u64 (wd B 3)) ∧ W.cell? ⟨u, 0, none⟩ = some (.int .u64 (wd U 0)) ∧ W.cell? ⟨u, 1, none⟩ = some (.int .u64 (wd U 1)) ∧ W.cell? ⟨u, 2, none⟩ = some (.int .u64 (wd U 2)) ∧ W.cell? ⟨u, 3, none⟩ = some (.int .u64 (wd U 3)) ∧ Below w.heap.size w W) :
    w'.cell? ⟨x, 0, none⟩ = some (.int .u64 (wd A 0)) ∧ w'.cell? ⟨x, 1, none⟩ = some (.int .u64 (wd A 1)) ∧ w'.cell? ⟨x, 2, none⟩ = some (.int .u64 (wd A 2)) ∧ w'.cell? ⟨x, 3, none⟩ = some (.int .u64 (wd A 3)) ∧ w'.cell? ⟨y, 0, none⟩ = some (.int .u64 (wd B 0)) ∧ w'.cell? ⟨y, 1, none⟩ = some (.int .u64 (wd B 1)) ∧ w'.cell? ⟨y, 2, none⟩ = some (.int .u64 (wd B 2)) ∧ w'.cell? ⟨y, 3, none⟩ = some (.int .u64 (wd B 3)) ∧ w'.cell? ⟨u, 0, none⟩ = some (.int .u64 (wd U 0)) ∧ w'.cell? ⟨u, 1, none⟩ = some (.int .u64 (wd U 1)) ∧ w'.cell? ⟨u, 2, none⟩ = some (.int .u64 (wd U 2)) ∧ w'.cell? ⟨u, 3, none⟩ = some (.int .u64 (wd U 3)) ∧ Below w.heap.size w w' := by
  obtain ⟨x0, x1, x2, x3, y0, y1, y2, y3, u0, u1, u2, u3, bel⟩ := h
  have k : ∀ (g j : Nat) (v : Value), W.cell? ⟨g, j, none⟩ = some v → w'.cell? ⟨g, j, none⟩ = some v := fun g j v hv => (hb.cell (p := ⟨g, j, none⟩) (World.block_lt_of_cell? W _ hv)).trans hv
  exact ⟨k _ _ _ x0, k _ _ _ x1, k _ _ _ x2, k _ _ _ x3, k _ _ _ y0, k _ _ _ y1, k _ _ _ y2, k _ _ _ y3, k _ _ _ u0, k _ _ _ u1, k _ _ _ u2, k _ _ _ u3, bel.trans (hb.mono bel.size)⟩

set_option maxRecDepth 100000 in
set_option maxHeartbeats 16000000 in
theorem main (w : World) (a : List UInt8) (a0 : Option Addr) (cap0 : Nat) (hm0 : a.length ≤ 300) (hb0 : Bs w w.heap.size a0 a) (hn0 : a0 = none → cap0 = 0) (b : List UInt8) (a1 : Option Addr) (cap1 : Nat) (hm1 : b.length ≤ 300) (hb1 : Bs w w.heap.size a1 b) (hn1 : a1 = none → cap1 = 0) :
    Calls Try.prog 8 #[.slice a0 a.length cap0, .slice a1 b.length cap1] w fun e w' => e = .returned (.bool true) ∧ Below w.heap.size w w' := by
  obtain ⟨A, hA⟩ : ∃ A, A = setOf a := ⟨_, rfl⟩
  obtain ⟨B, hB⟩ : ∃ B, B = setOf b := ⟨_, rfl⟩
  obtain ⟨U, hU⟩ : ∃ U, U = A ||| B := ⟨_, rfl⟩
  obtain ⟨C, hC⟩ : ∃ C, C = a ++ b ++ a := ⟨_, rfl⟩
  obtain ⟨la, hla⟩ : ∃ n, n = (listTo A 256).length := ⟨_, rfl⟩
  obtain ⟨lb, hlb⟩ : ∃ n, n = (listTo B 256).length := ⟨_, rfl⟩
  obtain ⟨lu, hlu⟩ : ∃ n, n = (listTo U 256).length := ⟨_, rfl⟩
  have hUlt : U < 2 ^ 256 := by rw [hU, hA, hB]; exact Nat.or_lt_two_pow (setOf_lt a) (setOf_lt b)
  have hles := len_or_le A B 256
  rw [← hU, ← hla, ← hlb, ← hlu] at hles
  obtain ⟨hle1, hle2, hle3⟩ := hles
  have hu256 : lu ≤ 256 := by rw [hlu]; exact listTo_le U 256
  have hCl : C.length ≤ 1000000000000 := by rw [hC]; simp; omega
  have hCe : C.length = a.length + b.length + a.length := by rw [hC]; simp; omega
  have OFA : Hid (∀ w : World, Bs w w.heap.size a0 a → Calls Try.prog 17 #[.slice a0 a.length cap0] w fun e w' => e = .returned (setV A) ∧ Below w.heap.size w w') := fun w h => by rw [hA]; exact of_any a a0 cap0 w (by omega) h
  have OFB : Hid (∀ w : World, Bs w w.heap.size a1 b → Calls Try.prog 17 #[.slice a1 b.length cap1] w fun e w' => e = .returned (setV B) ∧ Below w.heap.size w w') := fun w h => by rw [hB]; exact of_any b a1 cap1 w (by omega) h
  have OFC : Hid (∀ (w : World) (ac : Option Addr) (capc : Nat), Bs w w.heap.size ac C → Calls Try.prog 17 #[.slice ac C.length capc] w fun e w' => e = .returned (setV U) ∧ Below w.heap.size w w') := fun w ac capc h => by
    have h1 := of_any C ac capc w hCl h
    have e : setOf C = U := by
      rw [hC, setOf_append, setOf_append, ← hA, ← hB, hU]
      apply Nat.eq_of_testBit_eq
      intro i
      simp only [Nat.testBit_or]
      cases A.testBit i <;> simp
    rw [e] at h1; exact h1
  have UNI : Hid (∀ w : World, Calls Try.prog 18 #[setV A, setV B] w fun e w' => e = .returned (setV U) ∧ Below w.heap.size w w') := fun w => by rw [hU]; exact union_any A B w
  have UYX : Hid (∀ w : World, Calls Try.prog 18 #[.agg #[.int .u64 (wd B 0), .int .u64 (wd B 1), .int .u64 (wd B 2), .int .u64 (wd B 3)], .agg #[.int .u64 (wd A 0), .int .u64 (wd A 1), .int .u64 (wd A 2), .int .u64 (wd A 3)]] w fun e w' => e = .returned (setV U) ∧ Below w.heap.size w w') := fun w => by rw [hU, Nat.or_comm]; exact union_any B A w
  have UUU : Hid (∀ w : World, Calls Try.prog 18 #[.agg #[.int .u64 (wd U 0), .int .u64 (wd U 1), .int .u64 (wd U 2), .int .u64 (wd U 3)], .agg #[.int .u64 (wd U 0), .int .u64 (wd U 1), .int .u64 (wd U 2), .int .u64 (wd U 3)]] w fun e w' => e = .returned (setV U) ∧ Below w.heap.size w w') := fun w => by
    have h := union_any U U w
    rw [Nat.or_self] at h; exact h
  have LEN : ∀ N n, n = (listTo N 256).length → ∀ w : World, Calls Try.prog 23 #[setV N] w fun e w' => e = .returned (.int .i64 (n : Int)) ∧ Below w.heap.size w w' := fun N n e w => by
    have h := len_any N w
    have e2 : pc 64 (wd N 0) + pc 64 (wd N 1) + pc 64 (wd N 2) + pc 64 (wd N 3) = n := by rw [e]; exact len_list N
    rw [e2] at h; exact h
  have LEA : Hid (∀ w : World, Calls Try.prog 23 #[.agg #[.int .u64 (wd A 0), .int .u64 (wd A 1), .int .u64 (wd A 2), .int .u64 (wd A 3)]] w fun e w' => e = .returned (.int .i64 (la : Int)) ∧ Below w.heap.size w w') := LEN A la hla
  have LEB : Hid (∀ w : World, Calls Try.prog 23 #[.agg #[.int .u64 (wd B 0), .int .u64 (wd B 1), .int .u64 (wd B 2), .int .u64 (wd B 3)]] w fun e w' => e = .returned (.int .i64 (lb : Int)) ∧ Below w.heap.size w w') := LEN B lb hlb
  have LEU : Hid (∀ w : World, Calls Try.prog 23 #[.agg #[.int .u64 (wd U 0), .int .u64 (wd U 1), .int .u64 (wd U 2), .int .u64 (wd U 3)]] w fun e w' => e = .returned (.int .i64 (lu : Int)) ∧ Below w.heap.size w w') := LEN U lu hlu
  have HC := Lib.hid hC
  have HCE := Lib.hid hCe
  clear hA hB hU hC hla hlb hlu LEN hCe
  have hq := fun W => eql_sets hUlt hUlt W
  rw [setV_eq, beq_self_eq_true] at hq
  go_enter Try.func8, Try.ntmps8
  go_wp2_with fail
  go_at_call 9
  refine (awake_any w).mono ?_
  rintro e w1 ⟨rfl, B1⟩
  go_wp2_with fail
  go_at_call 17
  refine (OFA.out w1 ((hb0.keep B1).more B1.size)).mono ?_
  rintro e w2 ⟨rfl, hw2⟩
  rw [setV_eq A]
  have B2 : Below w.heap.size w w2 := B1.trans (hw2.mono B1.size)
  have A3 := Blk4.made w2 A
  have B3 : Below w.heap.size w (w2.alloc (Obj.cells #[.int .u64 (wd A 0), .int .u64 (wd A 1), .int .u64 (wd A 2), .int .u64 (wd A 3)] 31)) := B2.alloc B2.size _
  go_wp2_with fail
  go_at_call 17
  refine (OFB.out _ ((hb1.keep B3).more B3.size)).mono ?_
  rintro e w4 ⟨rfl, hw4⟩
  rw [setV_eq B]
  have B4 : Below w.heap.size w w4 := B3.trans (hw4.mono B3.size)
  have A4 := A3.keep hw4 A3.lt
  have A5 := blk_alloc A4 (Obj.cells #[.int .u64 (wd B 0), .int .u64 (wd B 1), .int .u64 (wd B 2), .int .u64 (wd B 3)] 31)
  have Y5 := Blk4.made w4 B
  have B5 : Below w.heap.size w (w4.alloc (Obj.cells #[.int .u64 (wd B 0), .int .u64 (wd B 1), .int .u64 (wd B 2), .int .u64 (wd B 3)] 31)) := B4.alloc B4.size _
  have z24 := A4.lt
  have z5 : (w4.alloc (Obj.cells #[.int .u64 (wd B 0), .int .u64 (wd B 1), .int .u64 (wd B 2), .int .u64 (wd B 3)] 31)).heap.size = w4.heap.size + 1 := by simp
  clear A3 B3 hw4 hw2 B1 B2 A4
  have zw := B4.size
  go_wp2_with (first
    | (at_builtin; refine app_bs rfl (.tmp 25) (.tmp 26) rfl (w4.heap.size + 1) _ 0 [] rfl (World.ownsRow_nil _ _ _ _) a0 a cap0 w.heap.size rfl (hb0.keep B5) hn0 (by omega) (by simp) ?_; intro v6 w6 hown6 hg6; obtain ⟨A6, Y6, B6, z6⟩ := appstep A5 Y5 B5 (World.ownsRow_nil _ (w4.heap.size + 1) 5 1) hg6 (by omega) (by omega) (by omega))
    | (at_builtin; refine app_bs rfl (.tmp 28) (.tmp 29) rfl (w4.heap.size + 1) _ _ _ rfl hown6 a1 b cap1 w.heap.size rfl (hb1.keep B6) hn1 (by omega) (by rw [z5] at z6; omega) ?_; intro v7 w7 hown7 hg7; obtain ⟨A7, Y7, B7, z7⟩ := appstep A6 Y6 B6 hown6 hg7 (by omega) (by omega) (by omega))
    | (at_builtin; refine app_bs rfl (.tmp 31) (.tmp 32) rfl (w4.heap.size + 1) _ _ _ rfl hown7 a0 a cap0 w.heap.size rfl (hb0.keep B7) hn0 (by omega) (by rw [z5] at z6; omega) ?_; intro v8 w8 hown8 hg8; obtain ⟨A8, Y8, B8, z8⟩ := appstep A7 Y7 B7 hown7 hg8 (by omega) (by omega) (by omega); obtain ⟨c0, c1, c2, c3⟩ := A8.cells; obtain ⟨d0, d1, d2, d3⟩ := Y8.cells)
    | fail)
  clear c0 c1 c2 c3 d0 d1 d2 d3
  have hownC : w8.ownsRow (w4.heap.size + 1) 5 1 v8 C.length (vals C) := by
    have e1 : vals C = [] ++ vals a ++ vals b ++ vals a := by rw [HC.out]; simp [vals]
    have e2 : C.length = 0 + a.length + b.length + a.length := by rw [HCE.out]; omega
    rw [e1, e2]; exact hown8
  obtain ⟨ac, capc, hv8, hbc⟩ := own_bs hownC
  clear hownC hown6 hown7 hown8 hg6 hg7 hg8 A5 A6 A7 Y5 Y6 Y7 B4 B5 B6 B7 z6 z7 z8
  rw [hv8]
  clear hv8
  go_at_call 18
  refine (UNI.out w8).mono ?_
  rintro e w9 ⟨rfl, hw9⟩
  rw [setV_eq U]
  have B9 : Below w.heap.size w w9 := B8.trans (hw9.mono B8.size)
  have Aa := blk_alloc (A8.keep hw9 A8.lt) (Obj.cells #[.int .u64 (wd U 0), .int .u64 (wd U 1), .int .u64 (wd U 2), .int .u64 (wd U 3)] 31)
  have Ya := blk_alloc (Y8.keep hw9 Y8.lt) (Obj.cells #[.int .u64 (wd U 0), .int .u64 (wd U 1), .int .u64 (wd U 2), .int .u64 (wd U 3)] 31)
  have Ua := Blk4.made w9 U
  have Ba : Below w.heap.size w (w9.alloc (Obj.cells #[.int .u64 (wd U 0), .int .u64 (wd U 1), .int .u64 (wd U 2), .int .u64 (wd U 3)] 31)) := B9.alloc B9.size _
  have hbc9 : Bs (w9.alloc (Obj.cells #[.int .u64 (wd U 0), .int .u64 (wd U 1), .int .u64 (wd U 2), .int .u64 (wd U 3)] 31)) (w9.alloc (Obj.cells #[.int .u64 (wd U 0), .int .u64 (wd U 1), .int .u64 (wd U 2), .int .u64 (wd U 3)] 31)).heap.size ac C := ((hbc.keep hw9).keep (((Below.refl _ _).alloc hw9.size _))).more (by have := hw9.size; simp; omega)
  clear A8 Y8 B8 B9 hbc
  go_upto_region 13 with fail
  obtain ⟨wz, hwz⟩ : ∃ wz, wz = w9.alloc (Obj.cells #[.int .u64 (wd U 0), .int .u64 (wd U 1), .int .u64 (wd U 2), .int .u64 (wd U 3)] 31) := ⟨_, rfl⟩
  rw [← hwz] at Aa Ya Ua Ba hbc9 ⊢
  clear hwz hw9
  have hD : Bs wz.drew wz.drew.heap.size ac C := hbc9
  obtain ⟨p0, p1, p2, p3⟩ := (show Blk4 wz.drew w2.heap.size A from Aa).cells
  obtain ⟨q0, q1, q2, q3⟩ := (show Blk4 wz.drew w4.heap.size B from Ya).cells
  obtain ⟨r0, r1, r2, r3⟩ := (show Blk4 wz.drew w9.heap.size U from Ua).cells
  have Bd : Below w.heap.size w wz.drew := Ba.drew
  have hsum : IntKind.i64.wrap ((la : Int) + (lb : Int)) = (la : Int) + (lb : Int) := IntWalk.i64_in _ (by omega)
  have hd1 : decide ((lu : Int) ≤ (la : Int) + (lb : Int)) = true := by simp; omega
  clear Aa Ya Ua Ba hbc9
  go_region_held3 (fun w' => w'.cell? ⟨w2.heap.size, 0, none⟩ = some (.int .u64 (wd A 0)) ∧ w'.cell? ⟨w2.heap.size, 1, none⟩ = some (.int .u64 (wd A 1)) ∧ w'.cell? ⟨w2.heap.size, 2, none⟩ = some (.int .u64 (wd A 2)) ∧ w'.cell? ⟨w2.heap.size, 3, none⟩ = some (.int .u64 (wd A 3)) ∧ w'.cell? ⟨w4.heap.size, 0, none⟩ = some (.int .u64 (wd B 0)) ∧ w'.cell? ⟨w4.heap.size, 1, none⟩ = some (.int .u64 (wd B 1)) ∧ w'.cell? ⟨w4.heap.size, 2, none⟩ = some (.int .u64 (wd B 2)) ∧ w'.cell? ⟨w4.heap.size, 3, none⟩ = some (.int .u64 (wd B 3)) ∧ w'.cell? ⟨w9.heap.size, 0, none⟩ = some (.int .u64 (wd U 0)) ∧ w'.cell? ⟨w9.heap.size, 1, none⟩ = some (.int .u64 (wd U 1)) ∧ w'.cell? ⟨w9.heap.size, 2, none⟩ = some (.int .u64 (wd U 2)) ∧ w'.cell? ⟨w9.heap.size, 3, none⟩ = some (.int .u64 (wd U 3)) ∧ Below w.heap.size w w')
    (first | assumption | ((repeat' apply And.intro) <;> assumption) | exact keepS (by assumption) (by assumption))
    (first
      | (go_at_call 17; refine (OFC.out _ ac capc hD).mono ?_; rintro e wx ⟨rfl, hwx⟩; rw [setV_eq])
      | (go_at_call 18; ((with_reducible refine (UYX.out _).mono ?_)); rintro e wx ⟨rfl, hwx⟩; rw [setV_eq])
      | (go_at_call 18; ((with_reducible refine (UUU.out _).mono ?_)); rintro e wx ⟨rfl, hwx⟩; rw [setV_eq])
      | (go_at_call 23; ((with_reducible refine (LEU.out _).mono ?_)); rintro e wx ⟨rfl, hwx⟩)
      | (go_at_call 23; ((with_reducible refine (LEA.out _).mono ?_)); rintro e wx ⟨rfl, hwx⟩)
      | (go_at_call 23; ((with_reducible refine (LEB.out _).mono ?_)); rintro e wx ⟨rfl, hwx⟩))
  have hmax : decide ((if la < lb then (lb : Int) else (la : Int)) ≤ (lu : Int)) = true := by
    apply decide_eq_true
    split <;> omega
  go_wp2
  all_goals
    go_ret
    exact ⟨rfl, keepBelow (x := w2.heap.size) (y := w4.heap.size) (u := w9.heap.size) (A := A) (B := B) (U := U) (by assumption)⟩

theorem walk (w : World) (a : List UInt8) (a0 : Option Addr) (cap0 : Nat) (hm0 : a.length ≤ maxLen) (hb0 : Bs w w.heap.size a0 a) (hn0 : a0 = none → cap0 = 0) (b : List UInt8) (a1 : Option Addr) (cap1 : Nat) (hm1 : b.length ≤ maxLen) (hb1 : Bs w w.heap.size a1 b) (hn1 : a1 = none → cap1 = 0) :
    Calls Try.prog 8 #[.slice a0 a.length cap0, .slice a1 b.length cap1] w fun e w' => e = .returned (.bool true) ∧ Below w.heap.size w w' := by
  unfold maxLen at hm0 hm1
  by_cases h0 : a.length ≤ 300
  · by_cases h1 : b.length ≤ 300
    · exact main w a a0 cap0 h0 hb0 hn0 b a1 cap1 h1 hb1 hn1
    · have hgt : 300 < b.length := by omega
      go_enter Try.func8, Try.ntmps8
      go_wp2_with fail
      go_at_call 9
      refine (awake_any w).mono ?_
      rintro e w1 ⟨rfl, B1⟩
      go_wp2
      go_ret
      exact ⟨rfl, B1⟩
  · have hgt : 300 < a.length := by omega
    go_enter Try.func8, Try.ntmps8
    go_wp2_with fail
    go_at_call 9
    refine (awake_any w).mono ?_
    rintro e w1 ⟨rfl, B1⟩
    go_wp2
    go_ret
    exact ⟨rfl, B1⟩
end Go.Proofs.Ytobkljjbemfkeaa.foldJoins
