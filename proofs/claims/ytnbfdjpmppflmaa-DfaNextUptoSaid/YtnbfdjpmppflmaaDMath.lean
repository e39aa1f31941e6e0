/- Mathematics of stage 10: steps by classes, the tree of one text. -/
import Derived.Test.YtnbfdjpmppflmaaGS
import Derived.Test.YtnbfdjpmppflmaaGC
namespace Go.Proofs.Ytnbfdjpmppflmaa.Dfa
open Go.Proofs.Ytnbfdjpmppflmaa.Tri Go.Proofs.Ytnbfdjpmppflmaa.Lnk Go.Proofs.Ytnbfdjpmppflmaa.Prs Go.Proofs.Ytnbfdjpmppflmaa.Spa
set_option maxRecDepth 100000
/-- A byte that stands in no text leads to the root. -/
theorem step_none {l : List Tx} {c : UInt8} (h : Cls.stands l c = false) (p : Tx) : Spa.stepT (paths l) c p = [] := by
  have hm := stepT_mem (paths_wf l) c p
  obtain ⟨u, hu⟩ := longT_suffix (paths l) (p ++ [c])
  change p ++ [c] = u ++ Spa.stepT (paths l) c p at hu
  generalize Spa.stepT (paths l) c p = q at hm hu
  rcases List.eq_nil_or_concat q with e | ⟨q', d, rfl⟩
  · exact e
  exfalso
  rw [List.concat_eq_append] at hu hm
  rw [← List.append_assoc] at hu
  have e2 : c = d := (List.append_inj_right' hu rfl |> List.cons.inj).1
  subst e2
  rcases (paths_mem l _).1 hm with e | ⟨x, hx, r, e⟩
  · simp at e
  · have : Cls.stands l c = true := (Cls.stands_iff l c).2 ⟨x, hx, by rw [← e]; simp⟩
    rw [h] at this; cases this
/-- Bytes of one class lead to one state. -/
theorem step_cls {l : List Tx} {a b : UInt8} (h : Cls.cls (Cls.stands l) a = Cls.cls (Cls.stands l) b) (p : Tx) : Spa.stepT (paths l) a p = Spa.stepT (paths l) b p := by
  rcases (Cls.cls_eq (Cls.stands l) a b).1 h with rfl | ⟨h1, h2⟩
  · rfl
  · rw [step_none h1, step_none h2]
theorem grow_one (t : Tx) : ∀ k, k ≤ t.length → (growTo [[]] t k).length = k + 1 ∧ ∀ q ∈ growTo [[]] t k, q.length ≤ k
  | 0, _ => by simp [growTo]
  | k + 1, h => by
    obtain ⟨h1, h2⟩ := grow_one t k (by omega)
    have hl : (t.take (k + 1)).length = k + 1 := by rw [List.length_take]; omega
    have hn : t.take (k + 1) ∉ growTo [[]] t k := fun e => by have := h2 _ e; omega
    rw [growTo, addp, if_neg hn]
    refine ⟨by simp [h1], fun q hq => ?_⟩
    rcases List.mem_append.1 hq with hq | hq
    · have := h2 q hq; omega
    · rw [List.mem_singleton.1 hq, hl]; exact Nat.le_refl _
/-- The tree of one text has one node more than it has bytes. -/
theorem paths_one (t : Tx) : (paths [t]).length = t.length + 1 := (grow_one t t.length (Nat.le_refl _)).1
/-- The state behind a state's path and a byte, as the reference says it. -/
def nextOf (ps : List Tx) (n : Int) (c : UInt8) : Int := match pathOf ps n with | some p => place ps (Spa.stepT ps c p) | none => -1
theorem next_at {ps : List Tx} {i : Nat} (h : i < ps.length) (c : UInt8) : nextOf ps (i : Int) c = place ps (Spa.stepT ps c ps[i]) := by
  rw [nextOf, pathOf_at h]
theorem next_out {ps : List Tx} {n : Int} (h : ¬ (0 ≤ n ∧ n < ps.length)) (c : UInt8) : nextOf ps n c = -1 := by
  rw [nextOf, pathOf_none h]
/-- A row of the table: that of the state that it falls to, but where a byte leads on. -/
theorem next_row {ps : List Tx} (hw : Wf ps) {p : Tx} (c : UInt8) : place ps (Spa.stepT ps c p) = if p ++ [c] ∈ ps then place ps (p ++ [c]) else if p = [] then 0 else place ps (Spa.stepT ps c (fallT ps p)) := by
  by_cases h : p ++ [c] ∈ ps
  · rw [if_pos h, stepT_hit h]
  · rw [if_neg h]
    by_cases h0 : p = []
    · subst h0
      rw [if_pos rfl, stepT_root (by simpa using h), place_nil hw]
    · rw [if_neg h0, stepT_fall hw h h0]
end Go.Proofs.Ytnbfdjpmppflmaa.Dfa
