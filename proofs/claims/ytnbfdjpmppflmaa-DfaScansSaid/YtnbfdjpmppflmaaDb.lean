/- A table in memory: the struct, and its numbers. -/
import Derived.Test.YtnbfdjpmppflmaaDa
import Derived.Lib.SlBytesRow
namespace Go.Proofs.Ytnbfdjpmppflmaa.Dfa
open Go.RowKit Go.Maps Go.Proofs.Ytnbfdjpmppflmaa.Tri Go.Proofs.Ytnbfdjpmppflmaa.Lnk Go.Proofs.Ytnbfdjpmppflmaa.Reg
set_option maxRecDepth 100000

theorem fold_put (off : Nat) : ∀ (l : List Value) (k : Nat) (a : Array Value), ((l.zipIdx k).foldl (fun cs (x : Value × Nat) => cs.setIfInBounds (off + x.2) x.1) a).size = a.size ∧ ∀ i, i < a.size → ((l.zipIdx k).foldl (fun cs (x : Value × Nat) => cs.setIfInBounds (off + x.2) x.1) a)[i]? = if off + k ≤ i ∧ i < off + k + l.length then l[i - (off + k)]? else a[i]?
  | [], k, a => ⟨rfl, fun i _ => by rw [if_neg (by simp)]; rfl⟩
  | v :: l, k, a => by
    obtain ⟨h1, h2⟩ := fold_put off l (k + 1) (a.setIfInBounds (off + k) v)
    rw [List.zipIdx_cons, List.foldl_cons]
    refine ⟨by rw [h1, Array.size_setIfInBounds], fun i hi => ?_⟩
    rw [h2 i (by rw [Array.size_setIfInBounds]; exact hi)]
    by_cases q : i = off + k
    · subst q
      rw [if_neg (by omega), if_pos (by simp), Array.getElem?_setIfInBounds_self]
      simp [hi]
    · rw [Array.getElem?_setIfInBounds_ne (by omega)]
      by_cases q2 : off + k ≤ i ∧ i < off + k + (v :: l).length
      · rw [if_pos q2, if_pos (by rw [List.length_cons] at q2; omega), show i - (off + k) = (i - (off + (k + 1))) + 1 by omega, List.getElem?_cons_succ]
      · rw [if_neg q2, if_neg (by rw [List.length_cons] at q2; omega)]
theorem zero73 : (Try.prog.info? 73).map (fun i => (i.zero, i.size)) = some (some (.agg ((#[Value.pointer none, Value.pointer none] ++ Array.replicate 256 (Value.int .i64 0)) ++ #[Value.int .i64 0, Value.slice none 0 0])), 260) := by kernel_rfl
theorem places73 : (match Try.prog.underlying 73 with | some (.struct fs) => fs.toList.mapM (fun f => (Try.prog.info? f.type).map fun i => (f.offset, i.size)) | _ => none) = some [(0, 1), (1, 1), (2, 256), (258, 1), (259, 1)] := by kernel_rfl
theorem zcell (i : Nat) (h : i < 260) : ((#[Value.pointer none, Value.pointer none] ++ Array.replicate 256 (Value.int .i64 0)) ++ #[Value.int .i64 0, Value.slice none 0 0])[i]? = some (if i < 2 then .pointer none else if i < 259 then .int .i64 0 else .slice none 0 0) := by
  by_cases h1 : i < 258
  · rw [Array.getElem?_append_left (by simp; omega)]
    by_cases h2 : i < 2
    · rw [Array.getElem?_append_left (by simpa using h2), if_pos h2]
      rcases (show i = 0 ∨ i = 1 by omega) with rfl | rfl <;> rfl
    · rw [Array.getElem?_append_right (by simp; omega), if_neg h2, if_pos (by omega), Array.getElem?_replicate, if_pos (by simp; omega)]
  · rw [Array.getElem?_append_right (by simp; omega)]
    rcases (show i = 258 ∨ i = 259 by omega) with rfl | rfl <;> simp
/-- What a table's cells say. -/
structure Cells (cells : Array Value) (a b : Option Addr) (cs : Array Value) (wd : Int) (v : Value) : Prop where
  size : cells.size = 260
  c0 : cells[0]? = some (.pointer a)
  c1 : cells[1]? = some (.pointer b)
  row : ∀ i, i < 256 → cells[2 + i]? = cs[i]?
  c2 : cells[258]? = some (.int .i64 wd)
  c3 : cells[259]? = some v
theorem built73 (a b : Option Addr) (cs : Array Value) (wd : Int) (hs : cs.size = 256) : ∃ cells, Try.prog.built 73 [(0, .pointer a), (1, .pointer b), (2, .agg cs), (3, .int .i64 wd)] = some cells ∧ Cells cells a b cs wd (.slice none 0 0) := by
  have hz := zero73
  have hp := places73
  have hc := zcell
  have hzs : ((#[Value.pointer none, Value.pointer none] ++ Array.replicate 256 (Value.int .i64 0)) ++ #[Value.int .i64 0, Value.slice none 0 0]).size = 260 := by simp
  generalize (#[Value.pointer none, Value.pointer none] ++ Array.replicate 256 (Value.int .i64 0)) ++ #[Value.int .i64 0, Value.slice none 0 0] = z at *
  unfold Program.built
  cases hi : Try.prog.info? 73 with
  | none => rw [hi] at hz; cases hz
  | some it =>
    rw [hi] at hz
    have hz2 : it.zero = some (.agg z) := (Prod.mk.inj (Option.some.inj hz)).1
    cases hu : Try.prog.underlying 73 with
    | none => rw [hu] at hp; cases hp
    | some d =>
      rw [hu] at hp
      cases d with
      | struct fs =>
        simp only at hp ⊢
        rw [hz2, hp]
        obtain ⟨f1, f2⟩ := fold_put 2 cs.toList 0 (((z.setIfInBounds 0 (.pointer a)).setIfInBounds 1 (.pointer b)))
        have e2 : cs.zipIdx.foldl (fun cs (x : Value × Nat) => cs.setIfInBounds (2 + x.2) x.1) ((z.setIfInBounds 0 (.pointer a)).setIfInBounds 1 (.pointer b)) = (cs.toList.zipIdx 0).foldl (fun cs (x : Value × Nat) => cs.setIfInBounds (2 + x.2) x.1) ((z.setIfInBounds 0 (.pointer a)).setIfInBounds 1 (.pointer b)) := by
          rw [← Array.foldl_toList, Array.toList_zipIdx]
        refine ⟨((cs.toList.zipIdx 0).foldl (fun cs (x : Value × Nat) => cs.setIfInBounds (2 + x.2) x.1) ((z.setIfInBounds 0 (.pointer a)).setIfInBounds 1 (.pointer b))).setIfInBounds 258 (.int .i64 wd), ?_, ?_⟩
        · have q : (cs.zipIdx.foldl (fun cs (x : Value × Nat) => cs.setIfInBounds (2 + x.2) x.1) ((z.setIfInBounds 0 (.pointer a)).setIfInBounds 1 (.pointer b))).size = 260 := by rw [e2, f1]; simpa using hzs
          rw [← e2]
          generalize hF : cs.zipIdx.foldl (fun cs (x : Value × Nat) => cs.setIfInBounds (2 + x.2) x.1) ((z.setIfInBounds 0 (.pointer a)).setIfInBounds 1 (.pointer b)) = F at q
          simp only [Array.size_zipIdx, hs] at hF
          simp [Instr.fill, Value.cells, hzs, hs]
          simp [hF, q]
        · have hl : cs.toList.length = 256 := by simpa using hs
          have g : ∀ i, i < 260 → ((cs.toList.zipIdx 0).foldl (fun cs (x : Value × Nat) => cs.setIfInBounds (2 + x.2) x.1) ((z.setIfInBounds 0 (.pointer a)).setIfInBounds 1 (.pointer b)))[i]? = _ := fun i hi => f2 i (by simpa [hzs] using hi)
          have hsz : ((cs.toList.zipIdx 0).foldl (fun cs (x : Value × Nat) => cs.setIfInBounds (2 + x.2) x.1) ((z.setIfInBounds 0 (.pointer a)).setIfInBounds 1 (.pointer b))).size = 260 := by rw [f1]; simpa using hzs
          refine ⟨by rw [Array.size_setIfInBounds]; exact hsz, ?_, ?_, fun i hi => ?_, ?_, ?_⟩
          · rw [Array.getElem?_setIfInBounds_ne (by omega), g 0 (by omega), if_neg (by omega), Array.getElem?_setIfInBounds_ne (by omega), Array.getElem?_setIfInBounds_self]
            simp [hzs]
          · rw [Array.getElem?_setIfInBounds_ne (by omega), g 1 (by omega), if_neg (by omega), Array.getElem?_setIfInBounds_self]
            simp [hzs]
          · rw [Array.getElem?_setIfInBounds_ne (by omega), g (2 + i) (by omega), if_pos (by omega), show 2 + i - (2 + 0) = i by omega, Array.getElem?_toList]
          · rw [Array.getElem?_setIfInBounds_self]
            simp [hsz]
          · rw [Array.getElem?_setIfInBounds_ne (by omega), g 259 (by omega), if_neg (by omega), Array.getElem?_setIfInBounds_ne (by omega), Array.getElem?_setIfInBounds_ne (by omega), hc 259 (by omega)]
            rfl
      | _ => cases hp
/-- A table's struct in memory. -/
def Bd (w : World) (t : Nat) (a b : Option Addr) (cs : Array Value) (wd : Int) (v : Value) : Prop := ∃ cells, w.heap[t]? = some (.cells cells 73 (0, 0)) ∧ Cells cells a b cs wd v
theorem Bd.lt {w : World} {t : Nat} {a b : Option Addr} {cs : Array Value} {wd : Int} {v : Value} (h : Bd w t a b cs wd v) : t < w.heap.size := by
  obtain ⟨_, h, _⟩ := h
  exact txt_lt h
theorem Bd.same {w w' : World} {t : Nat} {a b : Option Addr} {cs : Array Value} {wd : Int} {v : Value} (h : Bd w t a b cs wd v) (e : w'.heap[t]? = w.heap[t]?) : Bd w' t a b cs wd v := by
  obtain ⟨cells, h1, h2⟩ := h
  exact ⟨cells, e.trans h1, h2⟩
theorem Bd.keep {w w' : World} {t : Nat} {a b : Option Addr} {cs : Array Value} {wd : Int} {v : Value} (h : Bd w t a b cs wd v) (hb : Below w.heap.size w w') : Bd w' t a b cs wd v := h.same (hb.block t h.lt)
theorem Bd.cells {w : World} {t : Nat} {a b : Option Addr} {cs : Array Value} {wd : Int} {v : Value} (h : Bd w t a b cs wd v) : w.cell? ⟨t, 0, none⟩ = some (.pointer a) ∧ w.cell? ⟨t, 1, none⟩ = some (.pointer b) ∧ w.cell? ⟨t, 258, none⟩ = some (.int .i64 wd) ∧ w.cell? ⟨t, 259, none⟩ = some v := by
  obtain ⟨cells, h1, h2⟩ := h
  exact ⟨(cell_of_row w t 0 _ _ _ h1).trans h2.c0, (cell_of_row w t 1 _ _ _ h1).trans h2.c1, (cell_of_row w t 258 _ _ _ h1).trans h2.c2, (cell_of_row w t 259 _ _ _ h1).trans h2.c3⟩
theorem Bd.at {w : World} {t : Nat} {a b : Option Addr} {f : UInt8 → Bool} {wd : Int} {v : Value} (h : Bd w t a b (Cls.cc f) wd v) (c : UInt8) : w.cell? ⟨t, 2 + c.toNat, none⟩ = some (.int .i64 (Cls.cls f c : Int)) := by
  obtain ⟨cells, h1, h2⟩ := h
  rw [cell_of_row w t _ _ _ _ h1, h2.row _ c.toNat_lt]
  exact Cls.cc_at f c
theorem Bd.free {w : World} {t : Nat} {a b : Option Addr} {cs : Array Value} {wd : Int} {v : Value} (h : Bd w t a b cs wd v) (i : Nat) : w.frozen? ⟨t, i, none⟩ = false := by
  obtain ⟨cells, h1, _⟩ := h
  exact frozen_of_row w t i cells 73 h1
theorem Bd.put {w : World} {t : Nat} {a b : Option Addr} {cs : Array Value} {wd : Int} {v : Value} (h : Bd w t a b cs wd v) (u : Value) : Bd (w.setCell ⟨t, 259, none⟩ u) t a b cs wd u := by
  obtain ⟨cells, h1, h2⟩ := h
  refine ⟨cells.setIfInBounds 259 u, heap_setCell_same w t 259 cells 73 u h1, ?_, ?_, ?_, fun i hi => ?_, ?_, ?_⟩
  · rw [Array.size_setIfInBounds]; exact h2.size
  · rw [Array.getElem?_setIfInBounds_ne (by omega)]; exact h2.c0
  · rw [Array.getElem?_setIfInBounds_ne (by omega)]; exact h2.c1
  · rw [Array.getElem?_setIfInBounds_ne (by omega)]; exact h2.row i hi
  · rw [Array.getElem?_setIfInBounds_ne (by omega)]; exact h2.c2
  · rw [Array.getElem?_setIfInBounds_self]; simp [h2.size]
/-- The class field as a whole. -/
theorem Bd.load {w : World} {t : Nat} {a b : Option Addr} {cs : Array Value} {wd : Int} {v : Value} (h : Bd w t a b cs wd v) (hs : cs.size = 256) : (loadVar 58 ⟨t, 2, none⟩).run Try.prog w = .ok (.agg cs) w := by
  obtain ⟨cells, h1, h2⟩ := h
  have hl : (loadCells ⟨t, 2, none⟩ cs.toList.length).run Try.prog w = .ok cs.toList.toArray w :=
    run_loadCells_list w ⟨t, 2, none⟩ cs.toList (fun j x hv => by
      have hadd : (⟨t, 2, none⟩ : Addr).add j = ⟨t, 2 + j, none⟩ := by unfold Addr.add; split <;> simp_all
      have hj : j < 256 := by have := (List.getElem?_eq_some_iff.1 hv).1; rw [Array.length_toList] at this; omega
      rw [hadd, cell_of_row w t _ _ _ _ h1, h2.row j hj]
      simpa using hv)
  have hi := Cls.size27
  cases hq : Try.prog.info? 58 with
  | none => rw [hq] at hi; cases hi
  | some i =>
    rw [hq] at hi
    have hsz : i.size = cs.size := by rw [hs]; exact Option.some.inj hi
    have hagg : (isAgg 58).run Try.prog w = .ok true w := by
      unfold isAgg
      rw [Sem.run_bind, run_underlying Cls.und27 w]
      rfl
    simp only [Array.length_toList, Array.toArray_toList] at hl
    simp [loadVar, Sem.run_bind, hagg, sizeOf, typeInfo, hq, hsz, hl]
end Go.Proofs.Ytnbfdjpmppflmaa.Dfa
