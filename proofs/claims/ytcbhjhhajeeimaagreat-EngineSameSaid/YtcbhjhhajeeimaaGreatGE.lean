/- Package by package: Ea Eb Ec Ed Ee Ef Eh. -/
import Derived.Test.YtcbhjhhajeeimaaGreatGK
import Derived.Test.YtcbhjhhajeeimaaGreatGL
import Derived.Laws.EntriesVeiled
/- The order of bytes, and the turned one; Less. -/
namespace Go.Proofs.YtcbhjhhajeeimaaGreat.Suf
open Go.RowKit Go.Maps Go.Proofs.YtcbhjhhajeeimaaGreat.Crt
set_option maxRecDepth 100000
set_option linter.unusedVariables false

theorem lt_dec (x y : UInt8) : decide (x.toNat < y.toNat) = ltB false x y := by
  simp only [ltB, Bool.false_eq_true, if_false]
  rw [decide_eq_decide, u8_lt]
theorem cmp_any (w : World) (x y : UInt8) : Calls Tryz.prog 105 #[.int .u8 (x.toNat : Int), .int .u8 (y.toNat : Int)] w fun e w' => e = .returned (.bool (ltB false x y)) ∧ w = w' := by
  have hl := Lib.hid (lt_dec x y)
  go_enter Tryz.func105, Tryz.ntmps105
  go_wp2
  go_ret
  exact ⟨ret_bool hl.out, rfl⟩
theorem cmpt_any (w : World) (g : Nat) (h : w.cell? ⟨g, 0, none⟩ = some (.func (.func 105) #[] #[])) (x y : UInt8) : Calls Tryz.prog 107 #[.int .u8 (x.toNat : Int), .int .u8 (y.toNat : Int), .pointer (some ⟨g, 0, none⟩)] w fun e w' => e = .returned (.bool (ltB true x y)) ∧ w = w' := by
  have HL := Lib.hid (ltB_turn false x y)
  have HC := Lib.hid (cmp_any w y x)
  go_enter Tryz.func107, Tryz.ntmps107
  go_wp2_with (go_at_call 105; (with_reducible refine HC.out.mono ?_); rintro e w1 ⟨rfl, rfl⟩)
  go_ret
  exact ⟨ret_bool HL.out.symm, rfl⟩
/-- What an order's field calls: the bytes' order, in whatever comes of the world. -/
def Ord (W : World) (t : Bool) (fn : FuncId) (caps : Array Value) : Prop :=
  (∀ (args : Array Value) (w : World), (callFunc fn args).run Tryz.prog w = .ok (.enter fn args) w) ∧
  ∀ X, Below W.heap.size W X → ∀ x y : UInt8, Calls Tryz.prog fn (#[.int .u8 (x.toNat : Int), .int .u8 (y.toNat : Int)] ++ caps) X fun e w' => e = .returned (.bool (ltB t x y)) ∧ X = w'
theorem Ord.keep {W W' : World} {t : Bool} {fn : FuncId} {caps : Array Value} (h : Ord W t fn caps) (hb : Below W.heap.size W W') : Ord W' t fn caps := ⟨h.1, fun X hX => h.2 X (hb.trans (hX.mono hb.size))⟩
theorem call21 (args : Array Value) (w : World) : (callFunc 105 args).run Tryz.prog w = .ok (.enter 105 args) w := by simp [go_sem]
theorem call23 (args : Array Value) (w : World) : (callFunc 107 args).run Tryz.prog w = .ok (.enter 107 args) w := by simp [go_sem]
theorem ord_plain (W : World) : Ord W false 105 #[] := ⟨call21, fun X _ x y => cmp_any X x y⟩
theorem ord_turn {W : World} {g : Nat} (h : W.heap[g]? = some (.cells #[.func (.func 105) #[] #[]] 194 (0, 0))) : Ord W true 107 #[.pointer (some ⟨g, 0, none⟩)] := ⟨call23, fun X hX x y =>
  cmpt_any X g (by rw [cell_of_row X g _ _ 194 (0, 0) ((hX.block g (txt_lt h)).trans h)]; rfl) x y⟩
def GivesOrd (w : World) (t : Bool) (e : Ending) (w' : World) : Prop := ∃ fn caps, e = .returned (.agg #[.func (.func fn) #[] caps]) ∧ Ord w' t fn caps ∧ Below w.heap.size w w'
theorem cell_of1 {w : World} {v : Nat} {u : Value} {t : TypeId} (h : w.heap[v]? = some (.cells #[u] t (0, 0))) : w.cell? ⟨v, 0, none⟩ = some u ∧ w.frozen? ⟨v, 0, none⟩ = false := by
  constructor
  · rw [cell_of_row w v _ _ t (0, 0) h]; rfl
  · simp [World.frozen?, h]
theorem turn_any (w : World) : Calls Tryz.prog 106 #[.agg #[.func (.func 105) #[] #[]]] w fun e w' => ∃ g, w.heap.size ≤ g ∧ e = .returned (.agg #[.func (.func 107) #[] #[.pointer (some ⟨g, 0, none⟩)]]) ∧ w'.heap[g]? = some (.cells #[.func (.func 105) #[] #[]] 194 (0, 0)) ∧ Below w.heap.size w w' := by
  have hmf : ∀ (fn : Fn) (first cap : Array Value) (w : World), (Instr.makeFunc fn first cap).run Tryz.prog w = .ok (.func fn first cap) w := fun _ _ _ _ => rfl
  go_enter Tryz.func106, Tryz.ntmps106
  go_wp2
  exact bodyPost_ret (v := .agg #[.func (.func 107) #[] #[.pointer (some ⟨w.heap.size, 0, none⟩)]]) (by simp [results, Tryz.results106, go_sem]) rfl ⟨w.heap.size, Nat.le_refl _, rfl, heap_alloc2_old _ _ _, ((Below.refl _ _).alloc (Nat.le_refl _) _).alloc (by simp) _⟩
theorem orderof_any (w : World) (t : Bool) : Calls Tryz.prog 104 #[.bool t] w (GivesOrd w t) := by
  have hmf : ∀ (fn : Fn) (first cap : Array Value) (w : World), (Instr.makeFunc fn first cap).run Tryz.prog w = .ok (.func fn first cap) w := fun _ _ _ _ => rfl
  have HT := Lib.hid turn_any
  cases t
  · go_enter Tryz.func104, Tryz.ntmps104
    go_wp2
    exact bodyPost_ret (v := .agg #[.func (.func 105) #[] #[]]) (by simp [results, Tryz.results104, go_sem]) rfl ⟨_, _, rfl, ord_plain _, ((Below.refl _ _).alloc (Nat.le_refl _) _).alloc (by simp) _⟩
  · go_enter Tryz.func104, Tryz.ntmps104
    go_wp2_with fail
    refine (HT.out _).mono ?_
    rintro e w1 ⟨g, hs, rfl, hg, hb⟩
    obtain ⟨c1, f1⟩ := cell_of1 ((hb.block w.heap.size (by simp; omega)).trans (heap_alloc2_old _ _ _))
    have HB : Hid (Below w.heap.size w w1) := Lib.hid ((((Below.refl _ _).alloc (Nat.le_refl _) _).alloc (by simp) _).trans (hb.mono (by simp; omega)))
    have hc2 := World.cell?_setCell_same w1 ⟨w.heap.size, 0, none⟩ (.func (.func 107) #[] #[.pointer (some ⟨g, 0, none⟩)]) c1
    have hsz := hb.size
    simp at hsz hs
    have HG := Lib.hid hg
    clear hb hg
    go_wp2
    refine bodyPost_ret (v := .agg #[.func (.func 107) #[] #[.pointer (some ⟨g, 0, none⟩)]]) (by simp [results, Tryz.results104, go_sem, hc2]) rfl ⟨_, _, rfl, ord_turn ?_, HB.out.setCell (Nat.le_refl _) _⟩
    rw [Below.heap_setCell _ _ _ _ (show g ≠ w.heap.size by omega)]
    exact HG.out
theorem u8_beq (x y : UInt8) : ((x.toNat : Int) == y.toNat) = decide (x = y) := by
  rw [Bool.eq_iff_iff]; simp only [beq_iff_eq, decide_eq_true_eq]
  constructor
  · intro h; apply UInt8.toNat_inj.1; omega
  · rintro rfl; rfl
theorem u8_bne (x y : UInt8) : ((x.toNat : Int) != y.toNat) = decide (x ≠ y) := by
  rw [bne, u8_beq]; simp
theorem less_step (t : Bool) (l m : Tx) (k : Nat) (h1 : k < l.length) (h2 : k < m.length) : less t (l.drop k) (m.drop k) = if l[k] = m[k] then less t (l.drop (k + 1)) (m.drop (k + 1)) else ltB t l[k] m[k] := by
  rw [List.drop_eq_getElem_cons h1, List.drop_eq_getElem_cons h2, less]
theorem less_end (t : Bool) (l m : Tx) (k : Nat) (h : k = min l.length m.length) : less t (l.drop k) (m.drop k) = decide (l.length < m.length) := by
  rcases Nat.lt_or_ge l.length m.length with h1 | h1
  · rw [List.drop_of_length_le (show l.length ≤ k by omega), nil_less, decide_eq_decide]
    refine ⟨fun _ => h1, fun _ e => ?_⟩
    have := congrArg List.length e
    rw [List.length_drop, List.length_nil] at this
    omega
  · rw [List.drop_of_length_le (show m.length ≤ k by omega), less_nil, decide_eq_false (by omega)]
/-- One byte of a text. -/
theorem bs_at {w : World} {B : Nat} {a : Option Addr} {l : Tx} (h : Bs w B a l) (k : Nat) (hk : k < l.length) : ∃ b off, a = some ⟨b, off, none⟩ ∧ b < B ∧ w.cell? ⟨b, off + k, none⟩ = some (.int .u8 (l[k].toNat : Int)) := by
  obtain ⟨b, off, e, hb, hc⟩ := h (by omega)
  exact ⟨b, off, e, hb, hc k hk⟩
end Go.Proofs.YtcbhjhhajeeimaaGreat.Suf
/- The reference's Less and Period. -/
namespace Go.Proofs.YtcbhjhhajeeimaaGreat.Suf
open Go.RowKit Go.Maps Go.Proofs.YtcbhjhhajeeimaaGreat.Crt
set_option maxRecDepth 100000
set_option linter.unusedVariables false

theorem lt_u8 (t : Bool) (x y : UInt8) : (if t then decide (y.toNat < x.toNat) else decide (x.toNat < y.toNat)) = ltB t x y := by
  unfold ltB
  cases t
  · simp only [Bool.false_eq_true, if_false]; rw [decide_eq_decide, u8_lt]
  · simp only [if_true]; rw [decide_eq_decide, u8_lt]
theorem str_at' (l : Tx) (k : Nat) (h : k < l.length) : (str l)[k]'(by rw [str_size]; exact h) = at' l k := by rw [str_at l k h, at_eq h]
theorem alike_step (s : Tx) (p j : Nat) : alike s p (j + 1) = (alike s p j && at' s j == at' s (j + p)) := rfl
theorem beq_dec (a b : UInt8) : (a == b) = decide (a = b) := by rw [Bool.eq_iff_iff]; simp
theorem bestTo_lt (t : Bool) (s : Tx) : ∀ k, 0 < k → bestTo t s k < k
  | 0, h => absurd h (by omega)
  | k + 1, _ => by
    rw [bestTo]
    split
    · omega
    · rcases Nat.eq_zero_or_pos k with rfl | h
      · show 0 < 0 + 1; omega
      · have := bestTo_lt t s k h; omega
end Go.Proofs.YtcbhjhhajeeimaaGreat.Suf
/- The reference's Max and Borders. -/
namespace Go.Proofs.YtcbhjhhajeeimaaGreat.Suf
open Go.RowKit Go.Maps Go.Proofs.YtcbhjhhajeeimaaGreat.Crt
set_option maxRecDepth 100000
set_option linter.unusedVariables false

/-- A world in which nothing but draws was done. -/
def Drew (w x : World) : Prop := ∃ q, x = w.drewN q
theorem Drew.refl (w : World) : Drew w w := ⟨0, rfl⟩
theorem Drew.more {w x : World} (h : Drew w x) (n : Nat) : Drew w (x.drewN n) := by
  obtain ⟨q, rfl⟩ := h
  exact ⟨_, by rw [World.drewN_drewN]⟩
theorem Drew.trans {w x y : World} (h : Drew w x) (k : Drew x y) : Drew w y := by
  obtain ⟨n, rfl⟩ := k
  exact h.more n
theorem bestTo_step (t : Bool) (s : Tx) (k : Nat) : bestTo t s (k + 1) = if less t (s.drop (bestTo t s k)) (s.drop k) then k else bestTo t s k := rfl
/-- Numbers, as the model has them. -/
def ints (l : List Nat) : List Int := l.map fun n : Nat => (n : Int)
theorem ints_length (l : List Nat) : (ints l).length = l.length := by simp [ints]
theorem ints_append (l m : List Nat) : ints (l ++ m) = ints l ++ ints m := by simp [ints]
theorem bordTo_len (s : Tx) : ∀ k, (bordTo s k).length ≤ k
  | 0 => Nat.le_refl _
  | k + 1 => by
    have := bordTo_len s k
    rw [bordTo]
    split
    · rw [List.length_cons]; omega
    · omega
end Go.Proofs.YtcbhjhhajeeimaaGreat.Suf
/- The longest borders of a text's beginnings; Period and Borders. -/
namespace Go.Proofs.YtcbhjhhajeeimaaGreat.Suf
open Go.RowKit Go.Maps Go.Proofs.YtcbhjhhajeeimaaGreat.Crt
set_option maxRecDepth 100000
set_option linter.unusedVariables false

/-- Numbers as cells. -/
def icells (l : List Nat) : Array Value := (Lnk.ivals (ints l)).toArray
theorem icells_at (l : List Nat) (i : Nat) (h : i < l.length) : (icells l)[i]? = some (.int .i64 (l[i] : Int)) := by simp [icells, Lnk.ivals, ints, h]
theorem icells_set (l : List Nat) (i : Nat) (x : Nat) : (icells l).setIfInBounds i (.int .i64 (x : Int)) = icells (l.set i x) := by
  simp [icells, Lnk.ivals, ints, List.map_set]
/-- The longest borders of the beginnings of up to k bytes. -/
def tab (s : Tx) (k : Nat) : List Nat := (List.range (s.length + 1)).map fun i => if i ≤ k then fl (s.take i) else 0
theorem tab_length (s : Tx) (k : Nat) : (tab s k).length = s.length + 1 := by simp [tab]
theorem tab_at (s : Tx) (k i : Nat) (h : i < (tab s k).length) (hk : i ≤ k) : (tab s k)[i] = fl (s.take i) := by simp [tab, hk]
theorem fl_nil : fl [] = 0 := rfl
theorem tab_start (s : Tx) : tab s 1 = List.replicate (s.length + 1) 0 := by
  apply List.ext_getElem
  · simp [tab]
  · intro i h1 h2
    simp only [tab, List.getElem_map, List.getElem_range, List.getElem_replicate]
    split
    · rename_i h
      rcases Nat.eq_zero_or_pos i with rfl | h0
      · rw [List.take_zero]; rfl
      · rw [show i = 1 by omega]; exact fl_one s
    · rfl
theorem tab_next (s : Tx) (k : Nat) (hk : k < s.length) : tab s (k + 1) = (tab s k).set (k + 1) (fl (s.take (k + 1))) := by
  apply List.ext_getElem
  · simp [tab]
  · intro i h1 h2
    rw [List.getElem_set]
    simp only [tab, List.getElem_map, List.getElem_range]
    by_cases e : k + 1 = i
    · subst e; simp
    · rw [if_neg e]
      by_cases h : i ≤ k
      · rw [if_pos h, if_pos (by omega)]
      · rw [if_neg h, if_neg (by omega)]
def GivesWidth (w : World) (s : Tx) (e : Ending) (w' : World) : Prop :=
  ∃ g, e = .returned (.slice (some ⟨g, 0, none⟩) (s.length + 1) (s.length + 1)) ∧ w'.heap[g]? = some (.cells (icells (tab s s.length)) 3 (0, 0)) ∧ Below w.heap.size w w'
theorem made_ints (n : Nat) : (madeCells (Value.int .i64 0).cells (n * 1)) = icells (List.replicate n 0) := by
  apply Array.ext_getElem?
  intro j
  by_cases hj : j < n
  · simp only [madeCells, icells, Lnk.ivals, ints, List.map_replicate, List.toArray_replicate, Array.getElem?_map, Array.getElem?_replicate, if_pos hj]
    rw [Array.getElem?_range]
    have : j % 1 = 0 := Nat.mod_one j
    simp [Value.cells, hj, this]
  · simp [madeCells, icells, Lnk.ivals, ints, hj]
theorem made_row {w : World} {B n : Nat} (h : w.ownsRow B 3 1 (.slice (some ⟨B, 0, none⟩) n n) n (madeCells (Value.int .i64 0).cells (n * 1)).toList) : w.heap[B]? = some (.cells (icells (List.replicate n 0)) 3 (0, 0)) := by
  rcases h.2 with ⟨e, _⟩ | ⟨g, cap, cur, e, _, hh, _, _, hs, ht⟩
  · cases e
  · injection e with e1 e2 e3
    have eg : B = g := by simpa using e1
    subst eg
    subst e3
    rw [hh]
    have : cur = icells (List.replicate n 0) := by
      rw [← made_ints]
      apply Array.toList_inj.1
      rw [← ht]
      exact (List.take_of_length_le (by rw [Array.length_toList, hs]; exact Nat.le_refl _)).symm
    rw [this]
theorem row_frozen {w : World} {g : Nat} {cs : Array Value} {t : TypeId} (h : w.heap[g]? = some (.cells cs t (0, 0))) (i : Nat) : w.frozen? ⟨g, i, none⟩ = false := by
  simp [World.frozen?, h]
theorem row_put {w : World} {g : Nat} {T : List Nat} (h : w.heap[g]? = some (.cells (icells T) 3 (0, 0))) (i : Nat) {x : Int} {y : Nat} (e : x = (y : Int)) : (w.setCell ⟨g, i, none⟩ (.int .i64 x)).heap[g]? = some (.cells (icells (T.set i y)) 3 (0, 0)) := by
  rw [heap_set_same h, e, icells_set]
theorem cells_of_row {w : World} {g : Nat} {s : Tx} {k : Nat} (h : w.heap[g]? = some (.cells (icells (tab s k)) 3 (0, 0))) (i : Nat) (hi : i ≤ k) (hs : i ≤ s.length) : w.cell? ⟨g, i, none⟩ = some (.int .i64 (fl (s.take i) : Int)) := by
  rw [cell_of_row w g _ _ 3 (0, 0) h, icells_at _ i (by rw [tab_length]; omega), tab_at s _ i _ hi]
end Go.Proofs.YtcbhjhhajeeimaaGreat.Suf
/- Period and Borders. -/
namespace Go.Proofs.YtcbhjhhajeeimaaGreat.Suf
open Go.RowKit Go.Maps Go.Proofs.YtcbhjhhajeeimaaGreat.Crt
set_option maxRecDepth 100000
set_option linter.unusedVariables false

theorem chain_step (s : Tx) (n : Nat) (hn : n ≤ s.length) : borders (s.take n) = if fl (s.take n) = 0 then [] else fl (s.take n) :: borders (s.take (fl (s.take n))) := by
  rw [borders_chain (s.take n)]
  by_cases e : fl (s.take n) = 0
  · rw [if_pos e, if_pos e]
  · rw [if_neg e, if_neg e, List.take_take]
    congr 3
    have := (fl_bord e).2.1
    rw [List.length_take] at this
    omega
/-- Numbers that are handed out, with room for them. -/
def GivesIc (w : World) (l : List Int) (e : Ending) (w' : World) : Prop := ∃ a cap, e = .returned (.slice a l.length cap) ∧ Lnk.Is w' w'.heap.size a l ∧ (a = none → cap = 0) ∧ l.length ≤ cap ∧ Below w.heap.size w w'
theorem own_ic {w : World} {base n : Nat} {v : Value} {l : List Int} (h : w.ownsRow base 3 1 v n (Lnk.ivals l)) : ∃ a cap, v = .slice a l.length cap ∧ Lnk.Is w w.heap.size a l ∧ (a = none → cap = 0) ∧ l.length ≤ cap := by
  have hn : l.length = n := by have := h.1; simpa [Lnk.ivals] using this
  obtain ⟨a, cap, e, hi, hz⟩ := Lnk.own_is h
  refine ⟨a, cap, e, hi, hz, ?_⟩
  rcases h.2 with ⟨e2, h0⟩ | ⟨g, cap2, cur, e2, hg, hh, hnc, _, hs, ht⟩
  · omega
  · rw [e] at e2
    injection e2 with e3 e4 e5
    omega
end Go.Proofs.YtcbhjhhajeeimaaGreat.Suf
/- Max. -/
namespace Go.Proofs.YtcbhjhhajeeimaaGreat.Suf
open Go.RowKit Go.Maps Go.Proofs.YtcbhjhhajeeimaaGreat.Crt
set_option maxRecDepth 100000
set_option linter.unusedVariables false

set_option maxHeartbeats 1000000 in
theorem max_any (w : World) (s : Tx) (a : Option Addr) (cap : Nat) (ha : Bs w w.heap.size a s) (hl : s.length ≤ 1000000) (t : Bool) :
    Calls Tryz.prog 93 #[.slice a s.length cap, .bool t] w fun e w' => e = .returned (.tuple #[.int .i64 (bestTo t s s.length : Int), .int .i64 (per (s.drop (bestTo t s s.length)) : Int)]) ∧ Below w.heap.size w w' := by
  have HA := Lib.hid ha
  have HO := Lib.hid (orderof_any w t)
  clear ha
  by_cases h0 : s = []
  · subst h0
    have hz : (([] : Tx).length : Int) = 0 := rfl
    go_enter Tryz.func93, Tryz.ntmps93
    go_wp2
    exact bodyPost_ret (v := .tuple #[.int .i64 0, .int .i64 0]) (by simp [results, Tryz.results93, go_sem]) rfl ⟨rfl, Below.refl _ _⟩
  · have hp := List.length_pos_iff.2 h0
    have hz : ((s.length : Int) == 0) = false := by simp; omega
    have HI := Lib.hid (inv_start t s h0)
    clear h0
    go_enter Tryz.func93, Tryz.ntmps93
    go_wp2_with (go_at_call 104; refine HO.out.mono ?_; rintro e w1 ⟨fn, caps, rfl, ho, hb⟩; have HO1 := Lib.hid ho; have HB1 := Lib.hid hb; clear ho hb)
    have hsz := HB1.out.size
    have hbw : Below w.heap.size w (w1.alloc (.cells #[.func (.func fn) #[] caps] 194)) := HB1.out.alloc hsz _
    have HA2 := Lib.hid (HA.out.keep hbw)
    have HO2 := Lib.hid (HO1.out.keep ((Below.refl _ _).alloc (Nat.le_refl _) (.cells #[.func (.func fn) #[] caps] 194)))
    obtain ⟨hc, _⟩ := cell_of1 (heap_alloc_new w1 (.cells #[.func (.func fn) #[] caps] 194))
    have HC := Lib.hid hc
    have HW := Lib.hid hbw
    have hcf := HO1.out.1
    have HCF := Lib.hid hcf
    clear hbw HA HB1 HO HO1 hc hcf
    generalize w1.heap.size = g at *
    generalize w1.alloc (.cells #[.func (.func fn) #[] caps] 194) = w2 at *
    obtain ⟨b1, o1, rfl, hb1, hcs⟩ := HA2.out hp
    have HS : Hid (∀ i, i < s.length → w2.cell? ⟨b1, o1 + i, none⟩ = some (.int .u8 ((at' s i).toNat : Int))) := Lib.hid fun i hi => by
      rw [at_eq hi]; exact hcs i hi
    clear hcs HA2
    go_loopw [7, 8, 9, 10] (fun vi vp vj vk wr => ∃ i j k p : Nat, vi = .int .i64 (i : Int) ∧ vp = .int .i64 (p : Int) ∧ vj = .int .i64 (j : Int) ∧ vk = .int .i64 (k : Int) ∧ Inv t s i j k p ∧ Drew w2 wr) (fun vi _ vj vk _ => 3 * s.length + 3 - ((intOf vi).toNat + 2 * (intOf vj).toNat + (intOf vk).toNat))
    case atStart => exact ⟨0, 1, 0, 1, rfl, rfl, rfl, rfl, HI.out, Drew.refl _⟩
    case round =>
      obtain ⟨i, j, k, p, rfl, rfl, rfl, rfl, hinv, hdr⟩ := hrel
      have HD := Lib.hid hdr
      have HIN := Lib.hid hinv
      obtain ⟨c, hc1, hjc⟩ := hinv.times
      have hpj : i + p ≤ j := by
        have := Nat.mul_le_mul_left p hc1
        omega
      have hkp := hinv.kp
      have hen := hinv.end'
      have hij := hinv.ij
      clear hinv hdr hjc hc1
      by_cases hlt : j + k < s.length
      · have hkl : (j : Int) + (k : Int) < (s.length : Int) := by omega
        obtain ⟨A, hA⟩ : ∃ A, A = i + k := ⟨_, rfl⟩
        obtain ⟨B, hB⟩ : ∃ B, B = j + k := ⟨_, rfl⟩
        have hwA : IntKind.i64.wrap ((i : Int) + (k : Int)) = (A : Int) := by rw [IntWalk.i64_in _ (by omega)]; omega
        have hwB : IntKind.i64.wrap ((j : Int) + (k : Int)) = (B : Int) := by rw [IntWalk.i64_in _ (by omega)]; omega
        have hA1 : A < s.length := by omega
        have hA2 : (A : Int) < (s.length : Int) := by omega
        have hB1 : B < s.length := by omega
        have hB2 : (B : Int) < (s.length : Int) := by omega
        have hc1 : wr.cell? ⟨b1, o1 + A, none⟩ = some (.int .u8 ((at' s A).toNat : Int)) := by obtain ⟨q, rfl⟩ := HD.out; exact HS.out A hA1
        have hc2 : wr.cell? ⟨b1, o1 + B, none⟩ = some (.int .u8 ((at' s B).toNat : Int)) := by obtain ⟨q, rfl⟩ := HD.out; exact HS.out B hB1
        have HLS : Hid (ltB t (at' s B) (at' s A) = true → Inv t s i (j + k + 1) 0 (j + k + 1 - i)) := Lib.hid fun h => HIN.out.lesser hlt (by rw [← hA, ← hB]; exact h)
        have HGR : Hid (ltB t (at' s A) (at' s B) = true → Inv t s j (j + 1) 0 1) := Lib.hid fun h => HIN.out.greater hlt (by rw [← hA, ← hB]; exact h)
        have HEQ : Hid (ltB t (at' s B) (at' s A) = false → ltB t (at' s A) (at' s B) = false → at' s (j + k) = at' s (i + k)) := Lib.hid fun h1 h2 => by
          rw [← hA, ← hB]
          rcases ltB_tri t (at' s A) (at' s B) with h | h | h
          · rw [h2] at h; cases h
          · exact h.symm
          · rw [h1] at h; cases h
        have HAB : Hid (A = i + k ∧ B = j + k) := Lib.hid ⟨hA, hB⟩
        clear hA hB
        go_wp2
        clear hkl
        go_quiet (fail)
        have HD3 := Lib.hid (HD.out.more nq)
        clear hc1 hc2 hwA hwB hA1 hA2 hB1 hB2
        generalize wr.drewN nq = w3 at *
        have hc : w3.cell? ⟨g, 0, none⟩ = some (.func (.func fn) #[] caps) := by obtain ⟨q, rfl⟩ := HD3.out; exact HC.out
        have HB3 : Hid (Below w2.heap.size w2 w3) := Lib.hid (by obtain ⟨q, rfl⟩ := HD3.out; exact below_drews (Below.refl _ _) q)
        have hcf := HCF.out
        have HO3 := Lib.hid (HO2.out.2 w3 HB3.out (at' s B) (at' s A))
        have HO4 := Lib.hid (HO2.out.2 w3 HB3.out (at' s A) (at' s B))
        cases hlb : ltB t (at' s B) (at' s A)
        · rw [hlb] at HO3
          cases hgb : ltB t (at' s A) (at' s B)
          · rw [hgb] at HO4
            have HE := Lib.hid (HEQ.out hlb hgb)
            clear hlb hgb
            by_cases hkp2 : k + 1 = p
            · have HNX := Lib.hid (HIN.out.whole hlt HE.out hkp2)
              have hd : ((k : Int) + 1 == (p : Int)) = true := by simp; omega
              have HK2 := Lib.hid hkp2
              clear hkp2
              go_wp2_with (first | (refine HO3.out.mono ?_; rintro e w4 ⟨rfl, rfl⟩) | (refine HO4.out.mono ?_; rintro e w4 ⟨rfl, rfl⟩))
              have hkp2 := HK2.out
              exact ⟨⟨i, j + p, 0, p, rfl, rfl, by go_num, rfl, HNX.out, HD3.out⟩, by simp [intOf]; omega⟩
            · have HNX := Lib.hid (HIN.out.same hlt HE.out (by omega))
              have hd : ((k : Int) + 1 == (p : Int)) = false := by simp; omega
              clear hkp2
              go_wp2_with (first | (refine HO3.out.mono ?_; rintro e w4 ⟨rfl, rfl⟩) | (refine HO4.out.mono ?_; rintro e w4 ⟨rfl, rfl⟩))
              exact ⟨⟨i, j, k + 1, p, rfl, rfl, rfl, by go_num, HNX.out, HD3.out⟩, by simp [intOf]; omega⟩
          · rw [hgb] at HO4
            have HNX := Lib.hid (HGR.out hgb)
            clear hlb hgb
            go_wp2_with (first | (refine HO3.out.mono ?_; rintro e w4 ⟨rfl, rfl⟩) | (refine HO4.out.mono ?_; rintro e w4 ⟨rfl, rfl⟩))
            exact ⟨⟨j, j + 1, 0, 1, rfl, rfl, by go_num, rfl, HNX.out, HD3.out⟩, by simp [intOf]; omega⟩
        · rw [hlb] at HO3
          have HNX := Lib.hid (HLS.out hlb)
          clear hlb
          go_wp2_with (refine HO3.out.mono ?_; rintro e w4 ⟨rfl, rfl⟩)
          exact ⟨⟨i, j + k + 1, 0, j + k + 1 - i, rfl, by go_num, by go_num, rfl, HNX.out, HD3.out⟩, by simp [intOf]; omega⟩
      · have hkl : ¬ (j : Int) + (k : Int) < (s.length : Int) := by omega
        obtain ⟨h1, h2⟩ := HIN.out.done (by omega)
        have HE : Hid (bestTo t s s.length = i ∧ per (s.drop i) = p) := Lib.hid ⟨best_is h1, per_is (fun e => by have := congrArg List.length e; rw [List.length_drop, List.length_nil] at this; have := h1.1; omega) h2⟩
        clear h1 h2
        go_wp2
        refine bodyPost_ret (v := .tuple #[.int .i64 (i : Int), .int .i64 (p : Int)]) (by simp [results, Tryz.results93, go_sem]) rfl ⟨by rw [HE.out.1, HE.out.2], ?_⟩
        obtain ⟨q, rfl⟩ := HD.out
        exact below_drews HW.out q
end Go.Proofs.YtcbhjhhajeeimaaGreat.Suf
/- Cuts of slices of bytes and of numbers. -/
namespace Go.Proofs.YtcbhjhhajeeimaaGreat.Suf
open Go.RowKit Go.Maps Go.Proofs.YtcbhjhhajeeimaaGreat.Crt
set_option maxRecDepth 100000
set_option linter.unusedVariables false

theorem size_of5 : ∀ w, (Go.sizeOf 5).run Tryz.prog w = .ok 1 w := fun w => by
  have hsz : (Tryz.prog.info? 5).map (·.size) = some 1 := by kernel_rfl
  cases hq : Tryz.prog.info? 5 with
  | none => rw [hq] at hsz; cases hsz
  | some i =>
    rw [hq] at hsz
    have hz : i.size = 1 := Option.some.inj hsz
    simp [Go.sizeOf, typeInfo, hq, hz]
theorem size_of3 : ∀ w, (Go.sizeOf 3).run Tryz.prog w = .ok 1 w := fun w => by
  have hsz : (Tryz.prog.info? 3).map (·.size) = some 1 := by kernel_rfl
  cases hq : Tryz.prog.info? 3 with
  | none => rw [hq] at hsz; cases hsz
  | some i =>
    rw [hq] at hsz
    have hz : i.size = 1 := Option.some.inj hsz
    simp [Go.sizeOf, typeInfo, hq, hz]
theorem run_front (b o n c k : Nat) (h : k ≤ c) (W : World) : (Instr.slice 23 (.slice (some ⟨b, o, none⟩) n c) none (some (.int .i64 (k : Int))) none).run Tryz.prog W = .ok (.slice (some ⟨b, o, none⟩) k c) W := by
  have ht : Tryz.prog.underlying 23 = some (.slice (Tryz.prog.elem 23)) := by simp [Program.elem, Tryz.underlying23]
  have he : Tryz.prog.elem 23 = 5 := by simp [Program.elem, Tryz.underlying23]
  rw [run_slice_h W 23 _ _ _ ht .i64 _ (by omega) (by omega), he, size_of5]
  simp [Result.andThen, sliced, Addr.add]
theorem run_back (b o n c d : Nat) (h : d < n) (hc : n ≤ c) (W : World) : (Instr.slice 23 (.slice (some ⟨b, o, none⟩) n c) (some (.int .i64 (d : Int))) none none).run Tryz.prog W = .ok (.slice (some ⟨b, o + d, none⟩) (n - d) (c - d)) W := by
  have ht : Tryz.prog.underlying 23 = some (.slice (Tryz.prog.elem 23)) := by simp [Program.elem, Tryz.underlying23]
  have he : Tryz.prog.elem 23 = 5 := by simp [Program.elem, Tryz.underlying23]
  rw [run_slice_l W 23 _ _ _ ht .i64 _ (by omega) (by omega), he, size_of5]
  have hne : ¬ c = d := by omega
  by_cases h0 : d = 0
  · subst h0
    simp [Result.andThen, sliced, Addr.add, hne]
  · simp [Result.andThen, sliced, Addr.add, hne, h0]
theorem bs_front {w : World} {B b o : Nat} {l : Tx} (h : Bs w B (some ⟨b, o, none⟩) l) (k : Nat) : Bs w B (some ⟨b, o, none⟩) (l.take k) := fun h0 => by
  have hl : 0 < l.length := by rw [List.length_take] at h0; omega
  obtain ⟨b', o', e, hb, hc⟩ := h hl
  refine ⟨b', o', e, hb, fun i hi => ?_⟩
  have hi2 : i < l.length := by rw [List.length_take] at hi; omega
  rw [List.getElem_take]
  exact hc i hi2
theorem bs_back {w : World} {B b o : Nat} {l : Tx} (h : Bs w B (some ⟨b, o, none⟩) l) (d : Nat) : Bs w B (some ⟨b, o + d, none⟩) (l.drop d) := fun h0 => by
  rw [List.length_drop] at h0
  obtain ⟨b', o', e, hb, hc⟩ := h (by omega)
  cases e
  refine ⟨_, _, rfl, hb, fun i hi => ?_⟩
  rw [List.length_drop] at hi
  rw [List.getElem_drop, Nat.add_assoc]
  exact hc (d + i) (by omega)
theorem str_front {w : World} {B b o : Nat} {l : Tx} (h : Bs w B (some ⟨b, o, none⟩) l) (k c : Nat) (hk : k ≤ l.length) : (convert 23 9 (.slice (some ⟨b, o, none⟩) k c)).run Tryz.prog w = .ok (.string (str (l.take k))) w := by
  have := str_of_bs c (bs_front h k)
  rwa [List.length_take, Nat.min_eq_left hk] at this
theorem str_back {w : World} {B b o : Nat} {l : Tx} (h : Bs w B (some ⟨b, o, none⟩) l) (d c : Nat) : (convert 23 9 (.slice (some ⟨b, o + d, none⟩) (l.length - d) c)).run Tryz.prog w = .ok (.string (str (l.drop d))) w := by
  have := str_of_bs c (bs_back h d)
  rwa [List.length_drop] at this
theorem run_rest (b o n c : Nat) (h : 1 ≤ n) (hc : n ≤ c) : ∃ A, (∀ W, (Instr.slice 111 (.slice (some ⟨b, o, none⟩) n c) (some (.int .i64 1)) none none).run Tryz.prog W = .ok (.slice (some A) (n - 1) (c - 1)) W) ∧ (1 < n → A = ⟨b, o + 1, none⟩) := by
  have ht : Tryz.prog.underlying 111 = some (.slice (Tryz.prog.elem 111)) := by simp [Program.elem]
  have he : Tryz.prog.elem 111 = 3 := by simp [Program.elem]
  refine ⟨if c = 1 then ⟨b, o, none⟩ else ⟨b, o + 1, none⟩, fun W => ?_, fun h1 => if_neg (by omega)⟩
  rw [run_slice_l W 111 _ _ _ ht .i64 _ (by omega) (by omega), he, size_of3]
  by_cases h0 : c = 1
  · subst h0
    simp [Result.andThen, sliced]
  · simp [Result.andThen, sliced, Addr.add, h0]
end Go.Proofs.YtcbhjhhajeeimaaGreat.Suf
