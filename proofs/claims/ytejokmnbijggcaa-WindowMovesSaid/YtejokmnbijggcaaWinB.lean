/- The reference of layer 18: Add, Clear. -/
import Derived.Test.YtejokmnbijggcaaWinA
namespace Go.Proofs.Ytejokmnbijggcaa.Win
open Go.Proofs.Ytejokmnbijggcaa.Stm Go.Proofs.Ytejokmnbijggcaa.Reg Go.RowKit Go.Maps
set_option maxRecDepth 100000
set_option linter.unusedVariables false

theorem str_emp (l : Tx) : (str l).toList.isEmpty = decide (l = []) := by
  rw [ByteArray.toList_eq]
  cases l <;> simp [str]
theorem str_add (a b : Tx) : str a ++ str b = str (a ++ b) := by
  apply ByteArray.ext
  simp [str]
/-- What a window holds, as the reference has it. -/
abbrev wv (x : Wn) : Value := .agg #[.string (str x.held), .int .i64 (x.room : Int), .int .i64 (x.move : Int)]
/-- A new block of three cells. -/
theorem new3 (w : World) (t : TypeId) (u0 u1 u2 : Value) : Blk3 (w.alloc (.cells #[u0, u1, u2] t)) w.heap.size t u0 u1 u2 := heap_alloc_new w _
set_option maxHeartbeats 2000000 in
theorem rwclear_any (w : World) (x : Wn) : Calls Try.prog 12 #[wv x] w fun e w' => e = .returned (wv x.clear) ∧ Below w.heap.size w w' := by
  obtain ⟨h, r, m⟩ := x
  go_enter Try.func12, Try.ntmps12
  go_wp2_with fail
  refine bodyPost_ret (v := wv (Wn.clear ⟨h, r, m⟩)) (by simp [results, Try.results12, go_sem, Wn.clear, str]) rfl ?_
  exact ⟨rfl, ((Below.refl _ _).alloc (Nat.le_refl _) _).alloc (by simp) _⟩
set_option maxHeartbeats 2000000 in
theorem rwadd_any (w : World) (x : Wn) (b : Tx) (h1 : x.held.length ≤ 1000000000) (h2 : x.room ≤ 1000000000) (h3 : x.move ≤ 1000000000000) (h4 : b.length ≤ 1000000000) :
    Calls Try.prog 14 #[wv x, .string (str b)] w fun e w' => e = .returned (wv (x.add b)) ∧ Below w.heap.size w w' := by
  obtain ⟨h, r, m⟩ := x
  have hs := str_size h
  have hb := str_size b
  have hap := str_add h b
  simp only at h1 h2 h3
  by_cases he : b = []
  · subst he
    have he2 : (str []).toList.isEmpty = true := by rw [str_emp]; rfl
    have HE : Hid (Wn.add ⟨h, r, m⟩ [] = ⟨h, r, m⟩) := Lib.hid (if_pos rfl)
    go_enter Try.func14, Try.ntmps14
    go_wp2_with fail
    refine bodyPost_ret (v := wv ⟨h, r, m⟩) (by simp [results, Try.results14, go_sem]) rfl ?_
    exact ⟨by rw [HE.out], ((Below.refl _ _).alloc (Nat.le_refl _) _).alloc (by simp) _⟩
  have he2 : (str b).toList.isEmpty = false := by rw [str_emp]; exact decide_eq_false he
  by_cases hf : r < h.length + b.length
  · have hf2 : (r : Int) < (h.length : Int) + (b.length : Int) := by omega
    have HE : Hid (Wn.add ⟨h, r, m⟩ b = ⟨h ++ b, grown r (h.length + b.length), m + h.length + b.length⟩) := Lib.hid (by unfold Wn.add; rw [if_neg he, if_pos hf])
    go_enter Try.func14, Try.ntmps14
    go_wp2_with fail
    all_goals
      have hbl : ∀ (o1 o2 : Obj), Below w.heap.size w ((w.alloc o1).alloc o2) := fun o1 o2 => ((Below.refl _ _).alloc (Nat.le_refl _) _).alloc (by simp) _
      first
        | (have hg : ((grown r (h.length + b.length) : Nat) : Int) = 16 := by unfold grown; omega
           refine bodyPost_ret (v := .agg #[.string (str (h ++ b)), .int .i64 (16), .int .i64 ((m : Int) + (h.length : Int) + (b.length : Int))]) (by simp [results, Try.results14, go_sem]) rfl ?_
           exact ⟨by rw [HE.out]; simp only [wv, hg]; rfl, hbl _ _⟩)
        | (have hg : ((grown r (h.length + b.length) : Nat) : Int) = (h.length : Int) + (b.length : Int) := by unfold grown; omega
           refine bodyPost_ret (v := .agg #[.string (str (h ++ b)), .int .i64 ((h.length : Int) + (b.length : Int)), .int .i64 ((m : Int) + (h.length : Int) + (b.length : Int))]) (by simp [results, Try.results14, go_sem]) rfl ?_
           exact ⟨by rw [HE.out]; simp only [wv, hg]; rfl, hbl _ _⟩)
        | (have hg : ((grown r (h.length + b.length) : Nat) : Int) = 2 * (r : Int) := by unfold grown; omega
           refine bodyPost_ret (v := .agg #[.string (str (h ++ b)), .int .i64 (2 * (r : Int)), .int .i64 ((m : Int) + (h.length : Int) + (b.length : Int))]) (by simp [results, Try.results14, go_sem]) rfl ?_
           exact ⟨by rw [HE.out]; simp only [wv, hg]; rfl, hbl _ _⟩)
  · have hf2 : ¬ (r : Int) < (h.length : Int) + (b.length : Int) := by omega
    have HE : Hid (Wn.add ⟨h, r, m⟩ b = ⟨h ++ b, r, m + b.length⟩) := Lib.hid (by unfold Wn.add; rw [if_neg he, if_neg hf])
    go_enter Try.func14, Try.ntmps14
    go_wp2_with fail
    refine bodyPost_ret (v := .agg #[.string (str (h ++ b)), .int .i64 (r : Int), .int .i64 ((m : Int) + (b.length : Int))]) (by simp [results, Try.results14, go_sem]) rfl ?_
    exact ⟨by rw [HE.out]; rfl, ((Below.refl _ _).alloc (Nat.le_refl _) _).alloc (by simp) _⟩
end Go.Proofs.Ytejokmnbijggcaa.Win
