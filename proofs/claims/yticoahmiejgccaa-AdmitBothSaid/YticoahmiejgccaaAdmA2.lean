/- What a piece must be: the row of functions, and whether all of them hold. -/
import Derived.Test.YticoahmiejgccaaAdmA1
namespace Go.Proofs.Yticoahmiejgccaa.Adm
open Go.RowKit Go.Proofs.Yticoahmiejgccaa.Prs
set_option maxRecDepth 100000

/-- Which functions are in the row. -/
def kinds (w x : Bool) : List Nat := 30 :: ((if w then [31, 32, 34] else []) ++ if x then [35] else [])
theorem kinds_pos (w x : Bool) : 0 < (kinds w x).length := by unfold kinds; simp
theorem kinds_le (w x : Bool) : (kinds w x).length ≤ 5 := by cases w <;> cases x <;> decide
theorem kinds_head (w x : Bool) (h : 0 < (kinds w x).length) : (kinds w x)[0] = 30 := by cases w <;> cases x <;> rfl
theorem kinds_mem (w x : Bool) (k : Nat) (h : k < (kinds w x).length) : (kinds w x)[k] = 30 ∨ 0 < k ∧ ((kinds w x)[k] = 31 ∨ (kinds w x)[k] = 32 ∨ (kinds w x)[k] = 34 ∨ (kinds w x)[k] = 35) := by
  have h5 := kinds_le w x
  have : k = 0 ∨ k = 1 ∨ k = 2 ∨ k = 3 ∨ k = 4 := by omega
  rcases this with rfl | rfl | rfl | rfl | rfl <;> cases w <;> cases x <;> first | (left; rfl) | (right; exact ⟨by omega, Or.inl rfl⟩) | (right; exact ⟨by omega, Or.inr (Or.inl rfl)⟩) | (right; exact ⟨by omega, Or.inr (Or.inr (Or.inl rfl))⟩) | (right; exact ⟨by omega, Or.inr (Or.inr (Or.inr rfl))⟩) | (exfalso; revert h; decide)
theorem ask1 (line : Tx) (p : Pr) : ask 30 line p = fit line.length p := rfl
theorem ask2 (line : Tx) (p : Pr) : ask 31 line p = decide (p.s < p.e) := rfl
theorem ask3 (line : Tx) (p : Pr) : ask 32 line p = (decide (p.s = 0) || !isWd (line.getD (p.s - 1).toNat 0)) := rfl
theorem ask4 (line : Tx) (p : Pr) : ask 34 line p = (decide (p.e = (line.length : Int)) || !isWd (line.getD p.e.toNat 0)) := rfl
theorem ask5 (line : Tx) (p : Pr) : ask 35 line p = (decide (p.s = 0) && decide (p.e = (line.length : Int))) := rfl
theorem free_asks (line : Tx) (p : Pr) (h : fit line.length p = true) : free isWd line p = (decide (p.s < p.e) && ((decide (p.s = 0) || !isWd (line.getD (p.s - 1).toNat 0)) && (decide (p.e = (line.length : Int)) || !isWd (line.getD p.e.toNat 0)))) := by
  obtain ⟨h1, h2, h3⟩ := (fit_iff _ _).1 h
  unfold free
  rw [h, show decide (p.s ≠ p.e) = decide (p.s < p.e) by rw [decide_eq_decide]; omega, show decide (0 < p.s) = !decide (p.s = 0) by rw [Bool.eq_iff_iff]; simp; omega]
  generalize decide (p.s < p.e) = A
  generalize decide (p.s = 0) = B
  generalize decide (p.e = (line.length : Int)) = C
  generalize isWd _ = D
  generalize isWd _ = E
  revert A B C D E
  decide
/-- All that is asked for is what may be. -/
theorem asks_may (w x : Bool) (line : Tx) (p : Pr) : (kinds w x).all (fun k => ask k line p) = may isWd line w x p := by
  unfold may
  cases hf : fit line.length p
  · have h0 : (kinds w x).all (fun k => ask k line p) = false := by
      rw [List.all_eq_false]
      exact ⟨30, by unfold kinds; simp, by rw [ask1, hf]; simp⟩
    rw [h0]; simp
  · rw [free_asks line p hf]
    unfold kinds
    rw [List.all_cons, ask1, hf]
    cases w <;> cases x <;> simp only [Bool.false_eq_true, if_true, if_false, List.nil_append, List.append_nil, List.cons_append, List.all_cons, List.all_nil, ask2, ask3, ask4, ask5, Bool.true_and, Bool.and_true, Bool.not_true, Bool.not_false, Bool.false_or, Bool.true_or, Bool.and_assoc]
/-- What one of them captures. -/
def capOf (x0 k : Nat) : Array Value := if k = 31 then #[] else #[.pointer (some ⟨x0, 0, none⟩)]
def fv (x0 k : Nat) : Value := .func (.func k) #[] (capOf x0 k)
/-- The row of functions of a line, in memory. -/
structure Ru (W : World) (line : Tx) (al : Option Addr) (cl : Nat) (w x : Bool) (b cap x0 : Nat) (cs : Array Value) : Prop where
  lv : Lv W x0 al line.length cl
  row : W.heap[b]? = some (.cells cs 47 (0, 0))
  at_ : ∀ k (h : k < (kinds w x).length), cs[k]? = some (fv x0 (kinds w x)[k])
theorem Ru.keep {W W' : World} {line : Tx} {al : Option Addr} {cl : Nat} {w x : Bool} {b cap x0 : Nat} {cs : Array Value} (h : Ru W line al cl w x b cap x0 cs) (hb : Below W.heap.size W W') : Ru W' line al cl w x b cap x0 cs :=
  ⟨h.lv.keep hb h.lv.lt, (hb.block b (txt_lt h.row)).trans h.row, h.at_⟩
theorem Ru.cell {W : World} {line : Tx} {al : Option Addr} {cl : Nat} {w x : Bool} {b cap x0 : Nat} {cs : Array Value} (h : Ru W line al cl w x b cap x0 cs) (k : Nat) (hk : k < (kinds w x).length) : W.cell? ⟨b, k, none⟩ = some (fv x0 (kinds w x)[k]) := by
  rw [cell_of_row W b k _ 47 (0, 0) h.row]; exact h.at_ k hk
/-- One of them, asked. -/
theorem one_any {line : Tx} {al : Option Addr} {cl : Nat} {p : Pr} {w x : Bool} {X : World} {x0 : Nat} (hl : line.length ≤ 1000000000) (hv : Lv X x0 al line.length cl) (ht : Bs X X.heap.size al line) (k : Nat) (hk : k < (kinds w x).length) (hp : ∀ j (h : j < (kinds w x).length), j < k → ask (kinds w x)[j] line p = true) :
    Calls Try.prog (kinds w x)[k] (#[pv p] ++ capOf x0 (kinds w x)[k]) X (Asks X (ask (kinds w x)[k] line p)) := by
  rcases kinds_mem w x k hk with e | ⟨h0, e⟩
  · rw [e]; exact ask1_any line al cl p X x0 hv
  · have hf : fit line.length p = true := by
      have := hp 0 (kinds_pos w x) h0
      rwa [kinds_head] at this
    rcases e with e | e | e | e
    · rw [e]; exact ask2_any p X
    · rw [e]; exact ask3_any line al cl p X x0 hl hv ht hf
    · rw [e]; exact ask4_any line al cl p X x0 hl hv ht hf
    · rw [e]; exact ask5_any line al cl p X x0 hv
theorem call_k (w x : Bool) (k : Nat) (hk : k < (kinds w x).length) (args : Array Value) (v : World) : (callFunc (kinds w x)[k] args).run Try.prog v = .ok (.enter (kinds w x)[k] args) v := by
  rcases kinds_mem w x k hk with e | ⟨_, e | e | e | e⟩ <;> (rw [e]; simp [go_sem])
theorem all_upto (l : List Nat) (f : Nat → Bool) (h : ∀ j (hj : j < l.length), f l[j] = true) : l.all f = true := by
  rw [List.all_eq_true]
  intro y hy
  obtain ⟨j, hj, rfl⟩ := List.getElem_of_mem hy
  exact h j hj
theorem all_no (l : List Nat) (f : Nat → Bool) (j : Nat) (hj : j < l.length) (h : f l[j] = false) : l.all f = false := by
  rw [List.all_eq_false]
  exact ⟨l[j], List.getElem_mem hj, by rw [h]; simp⟩
set_option maxHeartbeats 1000000 in
theorem hold_any (line : Tx) (al : Option Addr) (cl : Nat) (w x : Bool) (b cap x0 : Nat) (cs : Array Value) (p : Pr) (X : World) (hl : line.length ≤ 1000000000) (hr : Ru X line al cl w x b cap x0 cs) (ht : Bs X X.heap.size al line) :
    Calls Try.prog 22 #[.agg #[.slice (some ⟨b, 0, none⟩) (kinds w x).length cap], pv p] X (Asks X (may isWd line w x p)) := by
  have HM := Lib.hid (asks_may w x line p)
  have HB := Lib.hid (((Below.refl X.heap.size X).alloc (Nat.le_refl _) (.cells #[.slice (some ⟨b, 0, none⟩) (kinds w x).length cap] 45)).alloc (by simp) (.cells #[.int .i64 p.s, .int .i64 p.e] 31))
  obtain ⟨c0, c1⟩ := (pb_new (X.alloc (.cells #[.slice (some ⟨b, 0, none⟩) (kinds w x).length cap] 45)) p.s p.e).cells
  have HR := Lib.hid (hr.keep HB.out)
  have HT := Lib.hid (ht.keep HB.out)
  have h5 := kinds_le w x
  have hsz : (X.alloc (.cells #[.slice (some ⟨b, 0, none⟩) (kinds w x).length cap] 45)).heap.size = X.heap.size + 1 := by simp
  rw [hsz] at c0 c1
  have hs2 : X.heap.size + 1 < ((X.alloc (.cells #[.slice (some ⟨b, 0, none⟩) (kinds w x).length cap] 45)).alloc (.cells #[.int .i64 p.s, .int .i64 p.e] 31)).heap.size := by simp
  clear hr ht hsz
  go_enter Try.func22, Try.ntmps22
  go_wp2
  generalize (X.alloc (.cells #[.slice (some ⟨b, 0, none⟩) (kinds w x).length cap] 45)).alloc (.cells #[.int .i64 p.s, .int .i64 p.e] 31) = X1 at *
  generalize hg : X.heap.size = g at *
  have HG := Lib.hid hg
  clear hg
  go_loopw [10] (fun i wr => ∃ k : Nat, k ≤ (kinds w x).length ∧ i = .int .i64 (k : Int) ∧ (∀ j (h : j < (kinds w x).length), j < k → ask (kinds w x)[j] line p = true) ∧ Below X1.heap.size X1 wr) (fun i _ => (kinds w x).length - (intOf i).toNat)
  case atStart => exact ⟨0, Nat.zero_le _, rfl, fun j _ h => by omega, Below.refl _ _⟩
  case round =>
    obtain ⟨k, hk, rfl, hall, hbel⟩ := hrel
    have HR2 := Lib.hid (HR.out.keep hbel)
    have HT2 := Lib.hid ((HT.out.keep (hbel.mono (by omega))).more (Nat.le_trans (Nat.le_of_lt (by omega)) hbel.size))
    have d0 := (hbel.cell (p := ⟨g + 1, 0, none⟩) hs2).trans c0
    have d1 := (hbel.cell (p := ⟨g + 1, 1, none⟩) hs2).trans c1
    have HBEL := Lib.hid hbel
    by_cases hlt : k < (kinds w x).length
    · have hkl : (k : Int) < ((kinds w x).length : Int) := by omega
      have hcf := call_k w x k hlt
      have hcell := HR2.out.cell k hlt
      have HC := Lib.hid (one_any hl HR2.out.lv HT2.out k hlt hall)
      have HALL := Lib.hid hall
      have HYES : Hid ((ask (kinds w x)[k] line p) = true → ∀ j (h : j < (kinds w x).length), j < k + 1 → ask (kinds w x)[j] line p = true) := Lib.hid fun h j hj hjk => by
        by_cases e : j = k
        · subst e; exact h
        · exact HALL.out j hj (by omega)
      have HNO : Hid ((ask (kinds w x)[k] line p) = false → may isWd line w x p = false) := Lib.hid fun h => by rw [← HM.out]; exact all_no _ _ k hlt h
      unfold fv at hcell
      clear hall hbel c0 c1
      generalize (kinds w x)[k] = fn at *
      generalize capOf x0 fn = caps at *
      cases ha : ask fn line p
      · have HF := Lib.hid (HNO.out ha)
        rw [ha] at HC
        clear HNO HYES
        go_wp2_with fail
        (with_reducible refine HC.out.mono ?_); rintro e w1 ⟨rfl, hb1⟩
        have HB2 := Lib.hid (HB.out.trans ((HBEL.out.trans (hb1.mono HBEL.out.size)).mono (by omega)))
        clear hb1
        go_wp2
        go_ret
        exact ⟨by rw [HF.out]; rfl, by rw [HG.out]; exact HB2.out⟩
      · have HY := Lib.hid (HYES.out ha)
        rw [ha] at HC
        clear HNO HYES
        go_wp2_with fail
        (with_reducible refine HC.out.mono ?_); rintro e w1 ⟨rfl, hb1⟩
        have HB2 := Lib.hid (HBEL.out.trans (hb1.mono HBEL.out.size))
        clear hb1
        go_wp2
        exact ⟨⟨k + 1, by omega, by go_num, HY.out, HB2.out⟩, by simp [intOf]; omega⟩
    · have hkl : ¬ (k : Int) < ((kinds w x).length : Int) := by omega
      have HY : Hid (may isWd line w x p = true) := Lib.hid (by rw [← HM.out]; exact all_upto _ _ fun j hj => hall j hj (by omega))
      clear hall hbel c0 c1
      go_wp2
      go_ret
      exact ⟨by rw [HY.out]; rfl, by rw [HG.out]; exact HB.out.trans (HBEL.out.mono (by omega))⟩
/-- The row as a call hands it out. -/
def GivesRu (X : World) (line : Tx) (al : Option Addr) (cl : Nat) (w x : Bool) (e : Ending) (W : World) : Prop :=
  ∃ b cap x0 cs, e = .returned (.agg #[.slice (some ⟨b, 0, none⟩) (kinds w x).length cap]) ∧ Ru W line al cl w x b cap x0 cs ∧ Below X.heap.size X W
theorem info_f : (Try.prog.info? 47).map (fun i => (i.zero, i.size, i.bytes)) = some (some .nilFunc, 1, 8) := by kernel_rfl
theorem fv_one (x0 : Nat) (l : List Nat) : ∀ v ∈ l.map (fv x0), v.oneCell' = true := by
  intro v hv
  obtain ⟨k, _, rfl⟩ := List.mem_map.1 hv
  rfl
/-- A literal row of functions, appended to a row of the call's own. -/
theorem app_fs {w : World} {ops : Array Oper} {rest : List Oper} {o : Oper} {a : Act} {Q : Exit → Act → World → Prop} (hgd : o.guard = none) (s x : Operand)
    (ho : o.op = .call { callee := .builtin .append, args := #[s, x], argTypes := #[43, 43] })
    (base x0 : Nat) (v : Value) (ks : List Nat) (hs : a.eval s = v) (hown : w.ownsRow base 47 1 v ks.length (ks.map (fv x0)))
    (g : Nat) (js : List Nat) (c : Nat) (hx : a.eval x = .slice (some ⟨g, 0, none⟩) js.length c) (hr : w.heap[g]? = some (.cells (js.map (fv x0)).toArray 47 (0, 0)))
    (hn : ks.length ≤ 5) (hm : js.length ≤ 5) (hbase : base ≤ w.heap.size)
    (h : ∀ v' w', w'.ownsRow base 47 1 v' (ks ++ js).length ((ks ++ js).map (fv x0)) → w.grownBy w' v.ownBlock → wpList Try.prog ops Q rest (a.put o.dst v') w') : wpList Try.prog ops Q (o :: rest) a w := by
  obtain ⟨i0, hi, hz0, hz1, hz2⟩ := info_parts info_f
  refine wpList_append_own w hgd s x 43 ho base 47 i0 .nilFunc 1 8 Try.underlying43 hi hz0 hz1 hz2 rfl (by decide) v ks.length (ks.map (fv x0)) hs hown ⟨g, 0, none⟩ js.length c (js.map (fv x0)) hx (by simp) ?_ (fv_one x0 js) (by unfold maxLen; omega) (by omega) hbase (fun v' w' h1 h2 _ => h v' w' (by rw [List.length_append, List.map_append]; exact h1) h2)
  intro j u hj
  rw [add_at, cell_of_row w g _ _ 47 (0, 0) hr, Nat.zero_add]
  simpa using hj
/-- A block of one cell. -/
def Blk1 (w : World) (g : Nat) (t : TypeId) (u : Value) : Prop := w.heap[g]? = some (.cells #[u] t (0, 0))
theorem Blk1.cell {w : World} {g : Nat} {t : TypeId} {u : Value} (h : Blk1 w g t u) : w.cell? ⟨g, 0, none⟩ = some u ∧ w.frozen? ⟨g, 0, none⟩ = false := by
  unfold Blk1 at h
  constructor
  · rw [cell_of_row w g _ _ t (0, 0) h]; rfl
  · simp [World.frozen?, h]
theorem Blk1.put {w : World} {g : Nat} {t : TypeId} {u : Value} (h : Blk1 w g t u) (v : Value) : Blk1 (w.setCell ⟨g, 0, none⟩ v) g t v := by
  unfold Blk1 at h ⊢
  rw [heap_set_same h]; rfl
theorem Blk1.far {w : World} {g k : Nat} {t : TypeId} {u v : Value} (h : Blk1 w g t u) (hk : g ≠ k) : Blk1 (w.setCell ⟨k, 0, none⟩ v) g t u := by
  unfold Blk1 at h ⊢
  rw [Below.heap_setCell _ _ _ _ hk]; exact h
theorem Blk1.new (w : World) (t : TypeId) (u : Value) : Blk1 (w.alloc (.cells #[u] t)) w.heap.size t u := heap_alloc_new w _
theorem Blk1.alloc {w : World} {g : Nat} {t : TypeId} {u : Value} (h : Blk1 w g t u) (o : Obj) : Blk1 (w.alloc o) g t u := by
  unfold Blk1 at h ⊢
  exact (((Below.refl w.heap.size w).alloc (Nat.le_refl _) o).block g (txt_lt h)).trans h
theorem Blk1.grown {w w' : World} {g : Nat} {t : TypeId} {u v : Value} {base n : Nat} {xs : List Value} (h : Blk1 w g t u) (hown : w.ownsRow base 47 1 v n xs) (hg : w.grownBy w' v.ownBlock) (ht : t ≠ 47) : Blk1 w' g t u := by
  unfold Blk1 at h ⊢
  refine (hg.block g (txt_lt h) fun e => ?_).trans h
  obtain ⟨_, _, cs, hc⟩ := own_block_lt hown e.symm
  rw [h] at hc
  exact ht (by cases hc; rfl)
/-- The row while it is laid: the line, the struct that is handed out, the struct, and the row of functions. -/
structure Sf (X W : World) (x0 s6 s7 : Nat) (al : Option Addr) (n cl : Nat) (u6 u7 v : Value) (ks : List Nat) : Prop where
  lv : Blk1 W x0 22 (.slice al n cl)
  b6 : Blk1 W s6 45 u6
  b7 : Blk1 W s7 45 u7
  ne : s6 ≠ s7
  g6 : X.heap.size ≤ s6
  g7 : X.heap.size ≤ s7
  own : W.ownsRow X.heap.size 47 1 v ks.length (ks.map (fv x0))
  below : Below X.heap.size X W
theorem Sf.alloc {X W : World} {x0 s6 s7 : Nat} {al : Option Addr} {n cl : Nat} {u6 u7 v : Value} {ks : List Nat} (h : Sf X W x0 s6 s7 al n cl u6 u7 v ks) (o : Obj) : Sf X (W.alloc o) x0 s6 s7 al n cl u6 u7 v ks :=
  ⟨h.lv.alloc o, h.b6.alloc o, h.b7.alloc o, h.ne, h.g6, h.g7, h.own.alloc o, h.below.alloc h.below.size o⟩
theorem Sf.app {X W W' : World} {x0 s6 s7 : Nat} {al : Option Addr} {n cl : Nat} {u6 u7 v v' : Value} {ks ks' : List Nat} (h : Sf X W x0 s6 s7 al n cl u6 u7 v ks) (hown : W'.ownsRow X.heap.size 47 1 v' ks'.length (ks'.map (fv x0))) (hg : W.grownBy W' v.ownBlock) : Sf X W' x0 s6 s7 al n cl u6 u7 v' ks' :=
  ⟨h.lv.grown h.own hg (by decide), h.b6.grown h.own hg (by decide), h.b7.grown h.own hg (by decide), h.ne, h.g6, h.g7, hown, h.below.grown hg h.below.size fun k hk => (own_block_lt h.own hk).1⟩
/-- A row of functions isn't a struct, nor the line. -/
theorem own_far {W : World} {base s : Nat} {v u u' : Value} {t : TypeId} {n : Nat} {xs : List Value} (h : W.ownsRow base 47 1 v n xs) (hs : Blk1 W s t u) (ht : t ≠ 47) : (W.setCell ⟨s, 0, none⟩ u').ownsRow base 47 1 v n xs := by
  refine ⟨h.1, h.2.imp id ?_⟩
  rintro ⟨g, cap, cur, hv, hg, hh, r⟩
  refine ⟨g, cap, cur, hv, hg, ?_, r⟩
  rw [Below.heap_setCell _ _ _ _ (show g ≠ s by
    rintro rfl
    unfold Blk1 at hs
    rw [hs] at hh
    exact ht (by cases hh; rfl))]
  exact hh
theorem Blk1.ne {W : World} {x s : Nat} {t t' : TypeId} {u u' : Value} (h : Blk1 W x t u) (hs : Blk1 W s t' u') (ht : t ≠ t') : x ≠ s := by
  rintro rfl
  unfold Blk1 at h hs
  rw [h] at hs
  exact ht (by cases hs; rfl)
theorem Sf.put {X W : World} {x0 s6 s7 : Nat} {al : Option Addr} {n cl : Nat} {u6 u7 v : Value} {ks : List Nat} (h : Sf X W x0 s6 s7 al n cl u6 u7 v ks) : Sf X (W.setCell ⟨s7, 0, none⟩ v) x0 s6 s7 al n cl u6 v v ks :=
  ⟨h.lv.far (h.lv.ne h.b7 (by decide)), h.b6.far h.ne, h.b7.put v, h.ne, h.g6, h.g7, own_far h.own h.b7 (by decide), h.below.setCell h.g7 _⟩
theorem Sf.put6 {X W : World} {x0 s6 s7 : Nat} {al : Option Addr} {n cl : Nat} {u6 u7 v : Value} {ks : List Nat} (h : Sf X W x0 s6 s7 al n cl u6 u7 v ks) : Sf X (W.setCell ⟨s6, 0, none⟩ v) x0 s6 s7 al n cl v u7 v ks :=
  ⟨h.lv.far (h.lv.ne h.b6 (by decide)), h.b6.put v, h.b7.far (Ne.symm h.ne), h.ne, h.g6, h.g7, own_far h.own h.b6 (by decide), h.below.setCell h.g6 _⟩
theorem own_some {W : World} {base : Nat} {v : Value} {n : Nat} {xs : List Value} (h : W.ownsRow base 47 1 v n xs) (hn : 0 < n) : ∃ g cap, v = .slice (some ⟨g, 0, none⟩) n cap := by
  rcases h.2 with ⟨_, h0⟩ | ⟨g, cap, _, hv, _⟩
  · omega
  · exact ⟨g, cap, hv⟩
/-- The row, once it is laid. -/
theorem Sf.done {X W : World} {x0 s6 s7 : Nat} {line : Tx} {al : Option Addr} {cl : Nat} {u6 u7 v : Value} {w x : Bool} (h : Sf X W x0 s6 s7 al line.length cl u6 u7 v (kinds w x)) : GivesRu X line al cl w x (.returned (.agg #[v])) W := by
  have hp := kinds_pos w x
  rcases h.own.2 with ⟨_, h0⟩ | ⟨g, cap, cur, rfl, _, hh, _, _, _, ht⟩
  · omega
  · refine ⟨g, cap, x0, cur, rfl, ⟨h.lv, hh, fun k hk => ?_⟩, h.below⟩
    have e : (cur.toList.take ((kinds w x).length * 1))[k]? = ((kinds w x).map (fv x0))[k]? := by rw [ht]
    rw [List.getElem?_take_of_lt (by omega), Array.getElem?_toList] at e
    rw [e]
    simp [hk]
/-- The world in which the row is begun: the line, what is handed out, the first function, the struct. -/
def w4 (X : World) (al : Option Addr) (n cl : Nat) (u6 : Value) : World :=
  (((X.alloc (.cells #[.slice al n cl] 22)).alloc (.cells #[u6] 45)).alloc (.cells #[fv X.heap.size 30] 47)).alloc (.cells #[.slice (some ⟨X.heap.size + 1 + 1, 0, none⟩) 1 1] 45)
theorem w4_size (X : World) (al : Option Addr) (n cl : Nat) (u6 : Value) : (w4 X al n cl u6).heap.size = X.heap.size + 1 + 1 + 1 + 1 := by simp [w4]
theorem w4_sf (X : World) (al : Option Addr) (n cl : Nat) (u6 : Value) : Sf X (w4 X al n cl u6) X.heap.size (X.heap.size + 1) (X.heap.size + 1 + 1 + 1) al n cl u6 (.slice (some ⟨X.heap.size + 1 + 1, 0, none⟩) 1 1) (.slice (some ⟨X.heap.size + 1 + 1, 0, none⟩) 1 1) [30] := by
  unfold w4
  have e1 : (X.alloc (.cells #[.slice al n cl] 22)).heap.size = X.heap.size + 1 := by simp
  have e2 : ((X.alloc (.cells #[.slice al n cl] 22)).alloc (.cells #[u6] 45)).heap.size = X.heap.size + 1 + 1 := by simp
  have e3 : (((X.alloc (.cells #[.slice al n cl] 22)).alloc (.cells #[u6] 45)).alloc (.cells #[fv X.heap.size 30] 47)).heap.size = X.heap.size + 1 + 1 + 1 := by simp
  refine ⟨(((Blk1.new X _ _).alloc _).alloc _).alloc _, ?_, ?_, by omega, by omega, by omega, ?_, ?_⟩
  · have h := ((Blk1.new (X.alloc (.cells #[.slice al n cl] 22)) 45 u6).alloc (.cells #[fv X.heap.size 30] 47)).alloc (.cells #[.slice (some ⟨X.heap.size + 1 + 1, 0, none⟩) 1 1] 45)
    rwa [e1] at h
  · have h := Blk1.new (((X.alloc (.cells #[.slice al n cl] 22)).alloc (.cells #[u6] 45)).alloc (.cells #[fv X.heap.size 30] 47)) 45 (.slice (some ⟨X.heap.size + 1 + 1, 0, none⟩) 1 1)
    rwa [e3] at h
  · have h := (Blk1.new ((X.alloc (.cells #[.slice al n cl] 22)).alloc (.cells #[u6] 45)) 47 (fv X.heap.size 30)).alloc (.cells #[.slice (some ⟨X.heap.size + 1 + 1, 0, none⟩) 1 1] 45)
    rw [e2] at h
    exact ⟨rfl, .inr ⟨X.heap.size + 1 + 1, 1, _, rfl, by omega, h, Nat.le_refl _, by unfold maxLen; omega, rfl, rfl⟩⟩
  · exact ((((Below.refl _ _).alloc (Nat.le_refl _) _).alloc (by rw [e1]; omega) _).alloc (by rw [e2]; omega) _).alloc (by rw [e3]; omega) _
/-- The row as a call lays it. -/
theorem rulesof_any (line : Tx) (al : Option Addr) (cl : Nat) (w x : Bool) (X : World) :
    Calls Try.prog 21 #[.slice al line.length cl, .bool w, .bool x] X (GivesRu X line al cl w x) := by
  have hmf : ∀ (fn : Fn) (first cap : Array Value) (w : World), (Instr.makeFunc fn first cap).run Try.prog w = .ok (.func fn first cap) w := fun _ _ _ _ => rfl
  have HF := Lib.hid (w4_sf X al line.length cl (.slice none 0 0))
  have HZ := Lib.hid (w4_size X al line.length cl (.slice none 0 0))
  cases w <;> cases x
  · have HD := Lib.hid (w4_sf X al line.length cl (.slice (some ⟨X.heap.size + 1 + 1, 0, none⟩) 1 1))
    clear HF HZ
    go_enter Try.func21, Try.ntmps21
    go_wp2
    exact bodyPost_ret (v := .agg #[.slice (some ⟨X.heap.size + 1 + 1, 0, none⟩) 1 1]) (by simp [results, Try.results21, go_sem]) rfl (Sf.done (w := false) (x := false) HD.out)
  · go_enter Try.func21, Try.ntmps21
    go_wp2_with (at_builtin; refine app_fs rfl _ _ rfl X.heap.size X.heap.size _ [30] rfl (HF.out.alloc _).own (X.heap.size + 1 + 1 + 1 + 1) [35] 1 rfl (by have hl := heap_alloc_new (w4 X al line.length cl (.slice none 0 0)) (.cells (List.map (fv X.heap.size) [35]).toArray 47); rw [HZ.out] at hl; exact hl) (by decide) (by decide) (HF.out.alloc _).below.size ?_; intro v2 w2 hown2 hg2; have HSF := Lib.hid ((HF.out.alloc _).app (ks' := [30, 35]) hown2 hg2); obtain ⟨g2, cap2, rfl⟩ := own_some hown2 (by decide); obtain ⟨c7, f7⟩ := HSF.out.b7.cell; obtain ⟨c6, f6⟩ := HSF.out.b6.cell; clear hown2 hg2)
    have hc := HSF.out.put.put6.b6.cell.1
    exact bodyPost_ret (v := .agg #[.slice (some ⟨g2, 0, none⟩) 2 cap2]) (by simp [results, Try.results21, go_sem] at hc ⊢; simp [hc]) rfl (Sf.done (w := false) (x := true) HSF.out.put.put6)
  · go_enter Try.func21, Try.ntmps21
    go_wp2_with (at_builtin; refine app_fs rfl _ _ rfl X.heap.size X.heap.size _ [30] rfl (HF.out.alloc _).own (X.heap.size + 1 + 1 + 1 + 1) [31, 32, 34] 3 rfl (by have hl := heap_alloc_new (w4 X al line.length cl (.slice none 0 0)) (.cells (List.map (fv X.heap.size) [31, 32, 34]).toArray 47); rw [HZ.out] at hl; exact hl) (by decide) (by decide) (HF.out.alloc _).below.size ?_; intro v2 w2 hown2 hg2; have HSF := Lib.hid ((HF.out.alloc _).app (ks' := [30, 31, 32, 34]) hown2 hg2); obtain ⟨g2, cap2, rfl⟩ := own_some hown2 (by decide); obtain ⟨c7, f7⟩ := HSF.out.b7.cell; obtain ⟨c6, f6⟩ := HSF.out.b6.cell; clear hown2 hg2)
    have hc := HSF.out.put.put6.b6.cell.1
    exact bodyPost_ret (v := .agg #[.slice (some ⟨g2, 0, none⟩) 4 cap2]) (by simp [results, Try.results21, go_sem] at hc ⊢; simp [hc]) rfl (Sf.done (w := true) (x := false) HSF.out.put.put6)
  · go_enter Try.func21, Try.ntmps21
    go_wp2_with (first
      | (have z := f7; at_builtin; refine app_fs rfl _ _ rfl X.heap.size X.heap.size _ [30, 31, 32, 34] rfl (HSF.out.put.alloc _).own w2.heap.size [35] 1 rfl (by have hl := heap_alloc_new (w2.setCell ⟨X.heap.size + 1 + 1 + 1, 0, none⟩ (.slice (some ⟨g2, 0, none⟩) 4 cap2)) (.cells (List.map (fv X.heap.size) [35]).toArray 47); rw [World.size_setCell] at hl; exact hl) (by decide) (by decide) (HSF.out.put.alloc _).below.size ?_; intro v3 w3 hown3 hg3; have HS3 := Lib.hid ((HSF.out.put.alloc _).app (ks' := [30, 31, 32, 34, 35]) hown3 hg3); obtain ⟨g3, cap3, rfl⟩ := own_some hown3 (by decide); obtain ⟨d7, h7⟩ := HS3.out.b7.cell; obtain ⟨d6, h6⟩ := HS3.out.b6.cell; clear hown3 hg3)
      | (at_builtin; refine app_fs rfl _ _ rfl X.heap.size X.heap.size _ [30] rfl (HF.out.alloc _).own (X.heap.size + 1 + 1 + 1 + 1) [31, 32, 34] 3 rfl (by have hl := heap_alloc_new (w4 X al line.length cl (.slice none 0 0)) (.cells (List.map (fv X.heap.size) [31, 32, 34]).toArray 47); rw [HZ.out] at hl; exact hl) (by decide) (by decide) (HF.out.alloc _).below.size ?_; intro v2 w2 hown2 hg2; have HSF := Lib.hid ((HF.out.alloc _).app (ks' := [30, 31, 32, 34]) hown2 hg2); obtain ⟨g2, cap2, rfl⟩ := own_some hown2 (by decide); obtain ⟨c7, f7⟩ := HSF.out.b7.cell; obtain ⟨c6, f6⟩ := HSF.out.b6.cell; clear hown2 hg2))
    have hc := HS3.out.put.put6.b6.cell.1
    exact bodyPost_ret (v := .agg #[.slice (some ⟨g3, 0, none⟩) 5 cap3]) (by simp [results, Try.results21, go_sem] at hc ⊢; simp [hc]) rfl (Sf.done (w := true) (x := true) HS3.out.put.put6)
end Go.Proofs.Yticoahmiejgccaa.Adm
