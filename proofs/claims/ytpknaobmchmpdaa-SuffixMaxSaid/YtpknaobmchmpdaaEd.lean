/- The longest borders of a text's beginnings; Period and Borders. -/
import Derived.Test.YtpknaobmchmpdaaEc
namespace Go.Proofs.Ytpknaobmchmpdaa.Suf
open Go.RowKit Go.Maps Go.Proofs.Ytpknaobmchmpdaa.Crt
set_option maxRecDepth 100000
set_option linter.unusedVariables false

/-- Numbers as cells. -/
def icells (l : List Nat) : Array Value := (Lnk.ivals (ints l)).toArray
theorem icells_at (l : List Nat) (i : Nat) (h : i < l.length) : (icells l)[i]? = some (.int .i64 (l[i] : Int)) := by simp [icells, Lnk.ivals, ints, h]
theorem icells_set (l : List Nat) (i : Nat) (x : Nat) : (icells l).setIfInBounds i (.int .i64 (x : Int)) = icells (l.set i x) := by
  simp [icells, Lnk.ivals, ints, List.map_set]
/-- The longest borders of the beginnings of up to k bytes. -/
def tab (s : Tx) (k : Nat) : List Nat := (List.range (s.length + 1)).map fun i => if i ≤ k then fl (s.take i) else 0
theorem tab_length (s : Tx) (k : Nat) : (tab s k).length = s.length + 1 := by simp [tab]
theorem tab_at (s : Tx) (k i : Nat) (h : i < (tab s k).length) (hk : i ≤ k) : (tab s k)[i] = fl (s.take i) := by simp [tab, hk]
theorem fl_nil : fl [] = 0 := rfl
theorem tab_start (s : Tx) : tab s 1 = List.replicate (s.length + 1) 0 := by
  apply List.ext_getElem
  · simp [tab]
  · intro i h1 h2
    simp only [tab, List.getElem_map, List.getElem_range, List.getElem_replicate]
    split
    · rename_i h
      rcases Nat.eq_zero_or_pos i with rfl | h0
      · rw [List.take_zero]; rfl
      · rw [show i = 1 by omega]; exact fl_one s
    · rfl
theorem tab_next (s : Tx) (k : Nat) (hk : k < s.length) : tab s (k + 1) = (tab s k).set (k + 1) (fl (s.take (k + 1))) := by
  apply List.ext_getElem
  · simp [tab]
  · intro i h1 h2
    rw [List.getElem_set]
    simp only [tab, List.getElem_map, List.getElem_range]
    by_cases e : k + 1 = i
    · subst e; simp
    · rw [if_neg e]
      by_cases h : i ≤ k
      · rw [if_pos h, if_pos (by omega)]
      · rw [if_neg h, if_neg (by omega)]
def GivesWidth (w : World) (s : Tx) (e : Ending) (w' : World) : Prop :=
  ∃ g, e = .returned (.slice (some ⟨g, 0, none⟩) (s.length + 1) (s.length + 1)) ∧ w'.heap[g]? = some (.cells (icells (tab s s.length)) 3 (0, 0)) ∧ Below w.heap.size w w'
theorem made_ints (n : Nat) : (madeCells (Value.int .i64 0).cells (n * 1)) = icells (List.replicate n 0) := by
  apply Array.ext_getElem?
  intro j
  by_cases hj : j < n
  · simp only [madeCells, icells, Lnk.ivals, ints, List.map_replicate, List.toArray_replicate, Array.getElem?_map, Array.getElem?_replicate, if_pos hj]
    rw [Array.getElem?_range]
    have : j % 1 = 0 := Nat.mod_one j
    simp [Value.cells, hj, this]
  · simp [madeCells, icells, Lnk.ivals, ints, hj]
theorem made_row {w : World} {B n : Nat} (h : w.ownsRow B 3 1 (.slice (some ⟨B, 0, none⟩) n n) n (madeCells (Value.int .i64 0).cells (n * 1)).toList) : w.heap[B]? = some (.cells (icells (List.replicate n 0)) 3 (0, 0)) := by
  rcases h.2 with ⟨e, _⟩ | ⟨g, cap, cur, e, _, hh, _, _, hs, ht⟩
  · cases e
  · injection e with e1 e2 e3
    have eg : B = g := by simpa using e1
    subst eg
    subst e3
    rw [hh]
    have : cur = icells (List.replicate n 0) := by
      rw [← made_ints]
      apply Array.toList_inj.1
      rw [← ht]
      exact (List.take_of_length_le (by rw [Array.length_toList, hs]; exact Nat.le_refl _)).symm
    rw [this]
theorem row_frozen {w : World} {g : Nat} {cs : Array Value} {t : TypeId} (h : w.heap[g]? = some (.cells cs t (0, 0))) (i : Nat) : w.frozen? ⟨g, i, none⟩ = false := by
  simp [World.frozen?, h]
theorem row_put {w : World} {g : Nat} {T : List Nat} (h : w.heap[g]? = some (.cells (icells T) 3 (0, 0))) (i : Nat) {x : Int} {y : Nat} (e : x = (y : Int)) : (w.setCell ⟨g, i, none⟩ (.int .i64 x)).heap[g]? = some (.cells (icells (T.set i y)) 3 (0, 0)) := by
  rw [heap_set_same h, e, icells_set]
set_option maxHeartbeats 1000000 in
theorem longest_any (w : World) (s : Tx) (a : Option Addr) (cap : Nat) (ha : Bs w w.heap.size a s) (hl : s.length ≤ 1000000) :
    Calls Try.prog 20 #[.slice a s.length cap] w (GivesWidth w s) := by
  have HA := Lib.hid ha
  clear ha
  obtain ⟨i0, hi, hz0, hz1, hz2⟩ := info_parts Lnk.info3
  go_enter Try.func20, Try.ntmps20
  go_wp2_with (at_make; refine wpList_make_full _ rfl _ _ 31 rfl w.heap.size 3 i0 (.int .i64 0) 1 Lnk.und32 hi hz0 hz1 .i64 .i64 _ _ (s.length + 1) rfl rfl (by simp) (by simp) (by rw [hz2]; omega) (by unfold maxLen; omega) (Nat.le_refl _) ?_; intro w1 hown hg1; have HR := Lib.hid (made_row hown); have HB := Lib.hid ((Below.refl w.heap.size w).grown hg1 (Nat.le_refl _) (fun k hk => by cases hk)); clear hown hg1)
  rw [← tab_start] at HR
  generalize hge : w.heap.size = g at *
  have HGE := Lib.hid hge
  clear hge
  go_loopw [4] (fun i wr => ∃ k : Nat, (k + 1 ≤ s.length ∨ k = 0) ∧ i = .int .i64 ((k : Int) + 1) ∧ wr.heap[g]? = some (.cells (icells (tab s (k + 1))) 3 (0, 0)) ∧ Below g w wr) (fun i _ => s.length + 1 - (intOf i).toNat)
  case atStart => exact ⟨0, .inr rfl, rfl, HR.out, HB.out⟩
  case round =>
    obtain ⟨k, hk, rfl, hr, hbel⟩ := hrel
    have HR2 := Lib.hid hr
    have HB2 := Lib.hid hbel
    clear hr hbel
    by_cases hlt : k + 1 < s.length
    · have hkl : (k : Int) + 1 < (s.length : Int) := by omega
      obtain ⟨b1, o1, rfl, hb1, hcs⟩ := HA.out (by omega)
      have HC : Hid (∀ X, Below g w X → ∀ i, i < s.length → X.cell? ⟨b1, o1 + i, none⟩ = some (.int .u8 ((at' s i).toNat : Int))) := Lib.hid fun X hX i hi => by
        rw [at_eq hi]; exact (hX.cell (p := ⟨b1, o1 + i, none⟩) hb1).trans (hcs i hi)
      clear hcs
      have HT : Hid (∀ X : World, X.heap[g]? = some (.cells (icells (tab s (k + 1))) 3 (0, 0)) → ∀ i, i ≤ k + 1 → X.cell? ⟨g, i, none⟩ = some (.int .i64 (fl (s.take i) : Int))) := Lib.hid fun X hX i hi => by
        rw [cell_of_row X g _ _ 3 (0, 0) hX, icells_at _ i (by rw [tab_length]; omega), tab_at s _ i _ hi]
      have hw0 := HT.out wr HR2.out (k + 1) (Nat.le_refl _)
      have hcn := HC.out wr HB2.out (k + 1) hlt
      go_wp2
      clear hw0 hcn
      go_loopw [5] (fun v wq => ∃ m : Nat, m ≤ k ∧ v = .int .i64 (m : Int) ∧ Seek s (k + 1) m ∧ wq.heap[g]? = some (.cells (icells (tab s (k + 1))) 3 (0, 0)) ∧ Below g w wq) (fun v _ => (intOf v).toNat)
      case atStart =>
        have hs := seek_start hlt (by omega)
        exact ⟨fl (s.take (k + 1)), by have := hs.lt; omega, rfl, hs, HR2.out, HB2.out⟩
      case round =>
        obtain ⟨m, hm, rfl, hsk, hr, hbel⟩ := hrel
        have HSK := Lib.hid hsk
        have HR3 := Lib.hid hr
        have HB3 := Lib.hid hbel
        clear hsk hr hbel
        have hwm := HT.out _ HR3.out m (by omega)
        have hcn := HC.out _ HB3.out (k + 1) hlt
        have hcm := HC.out _ HB3.out m (by omega)
        have hms : m < s.length := by omega
        have hms2 : (m : Int) < (s.length : Int) := by omega
        have hbe := u8_bne (at' s m) (at' s (k + 1))
        have hbq := u8_beq (at' s m) (at' s (k + 1))
        by_cases hm0 : m = 0
        · have hm1 : ¬ (0 : Int) < (m : Int) := by omega
          have hm2 : ¬ 0 < m := by omega
          by_cases he : at' s m = at' s (k + 1)
          · rw [decide_eq_false (fun h => h he)] at hbe
            rw [decide_eq_true he] at hbq
            have HF := Lib.hid (HSK.out.hit hlt he)
            clear he hm0
            go_wp2
            go_quiet (fail)
            have HR4 : Hid ((wr.drewN nq).heap[g]? = some (.cells (icells (tab s (k + 1))) 3 (0, 0))) := HR3
            have HB4 := Lib.hid (below_drews HB3.out nq)
            clear hwm hcn hcm
            generalize wr.drewN nq = w4 at *
            have hcn := HC.out _ HB4.out (k + 1) hlt
            have hcm := HC.out _ HB4.out m hms
            go_wp2
            go_quiet (fail)
            have HR5 : Hid ((w4.drewN nq).heap[g]? = some (.cells (icells (tab s (k + 1))) 3 (0, 0))) := HR4
            have HB5 := Lib.hid (below_drews HB4.out nq)
            clear hcn hcm
            generalize w4.drewN nq = w5 at *
            have hold : w5.cell? ⟨g, k + 1 + 1, none⟩ = some (.int .i64 ((tab s (k + 1))[k + 1 + 1]'(by rw [tab_length]; omega) : Int)) := by
              rw [cell_of_row w5 g _ _ 3 (0, 0) HR5.out, icells_at _ _ (by rw [tab_length]; omega)]
            generalize (tab s (k + 1))[k + 1 + 1]'(by rw [tab_length]; omega) = old at *
            have hfz := row_frozen HR5.out (k + 1 + 1)
            go_wp2
            exact ⟨⟨k + 1, .inl (by omega), by go_num, by rw [tab_next s (k + 1) hlt, HF.out]; exact row_put HR5.out _ (by omega), HB5.out.setCell (p := ⟨g, k + 1 + 1, none⟩) (Nat.le_refl _) _⟩, by simp [intOf]; omega⟩
          · rw [decide_eq_true he] at hbe
            rw [decide_eq_false he] at hbq
            have HF := Lib.hid ((show fl (s.take (k + 1 + 1)) = m by subst hm0; exact HSK.out.miss hlt he))
            clear he hm0
            go_wp2
            go_quiet (fail)
            have HR4 : Hid ((wr.drewN nq).heap[g]? = some (.cells (icells (tab s (k + 1))) 3 (0, 0))) := HR3
            have HB4 := Lib.hid (below_drews HB3.out nq)
            clear hwm hcn hcm
            generalize wr.drewN nq = w4 at *
            have hcn := HC.out _ HB4.out (k + 1) hlt
            have hcm := HC.out _ HB4.out m hms
            go_wp2
            go_quiet (fail)
            have HR5 : Hid ((w4.drewN nq).heap[g]? = some (.cells (icells (tab s (k + 1))) 3 (0, 0))) := HR4
            have HB5 := Lib.hid (below_drews HB4.out nq)
            clear hcn hcm
            generalize w4.drewN nq = w5 at *
            have hold : w5.cell? ⟨g, k + 1 + 1, none⟩ = some (.int .i64 ((tab s (k + 1))[k + 1 + 1]'(by rw [tab_length]; omega) : Int)) := by
              rw [cell_of_row w5 g _ _ 3 (0, 0) HR5.out, icells_at _ _ (by rw [tab_length]; omega)]
            generalize (tab s (k + 1))[k + 1 + 1]'(by rw [tab_length]; omega) = old at *
            have hfz := row_frozen HR5.out (k + 1 + 1)
            go_wp2
            exact ⟨⟨k + 1, .inl (by omega), by go_num, by rw [tab_next s (k + 1) hlt, HF.out]; exact row_put HR5.out _ (by omega), HB5.out.setCell (p := ⟨g, k + 1 + 1, none⟩) (Nat.le_refl _) _⟩, by simp [intOf]; omega⟩
        · have hm1 : (0 : Int) < (m : Int) := by omega
          have hm2 : 0 < m := by omega
          by_cases he : at' s m = at' s (k + 1)
          · rw [decide_eq_false (fun h => h he)] at hbe
            rw [decide_eq_true he] at hbq
            have HF := Lib.hid (HSK.out.hit hlt he)
            clear he
            go_wp2
            go_quiet (fail)
            have HR4 : Hid ((wr.drewN nq).heap[g]? = some (.cells (icells (tab s (k + 1))) 3 (0, 0))) := HR3
            have HB4 := Lib.hid (below_drews HB3.out nq)
            clear hwm hcn hcm
            generalize wr.drewN nq = w4 at *
            have hcn := HC.out _ HB4.out (k + 1) hlt
            have hcm := HC.out _ HB4.out m hms
            go_wp2
            go_quiet (fail)
            have HR5 : Hid ((w4.drewN nq).heap[g]? = some (.cells (icells (tab s (k + 1))) 3 (0, 0))) := HR4
            have HB5 := Lib.hid (below_drews HB4.out nq)
            clear hcn hcm
            generalize w4.drewN nq = w5 at *
            have hold : w5.cell? ⟨g, k + 1 + 1, none⟩ = some (.int .i64 ((tab s (k + 1))[k + 1 + 1]'(by rw [tab_length]; omega) : Int)) := by
              rw [cell_of_row w5 g _ _ 3 (0, 0) HR5.out, icells_at _ _ (by rw [tab_length]; omega)]
            generalize (tab s (k + 1))[k + 1 + 1]'(by rw [tab_length]; omega) = old at *
            have hfz := row_frozen HR5.out (k + 1 + 1)
            go_wp2
            exact ⟨⟨k + 1, .inl (by omega), by go_num, by rw [tab_next s (k + 1) hlt, HF.out]; exact row_put HR5.out _ (by omega), HB5.out.setCell (p := ⟨g, k + 1 + 1, none⟩) (Nat.le_refl _) _⟩, by simp [intOf]; omega⟩
          · rw [decide_eq_true he] at hbe
            rw [decide_eq_false he] at hbq
            have HSK2 := Lib.hid (HSK.out.fall hm2 he)
            have HLT : Hid (fl (s.take m) < m) := Lib.hid (by have := fl_lt (s := s.take m) (fun e => by have := congrArg List.length e; rw [List.length_take, List.length_nil] at this; omega); rw [List.length_take] at this; omega)
            clear he
            go_wp2
            go_quiet (fail)
            have hwm2 : (wr.drewN nq).cell? ⟨g, m, none⟩ = some (.int .i64 (fl (s.take m) : Int)) := hwm
            have HR4 : Hid ((wr.drewN nq).heap[g]? = some (.cells (icells (tab s (k + 1))) 3 (0, 0))) := HR3
            have HB4 := Lib.hid (below_drews HB3.out nq)
            clear hwm hcn hcm
            generalize wr.drewN nq = w4 at *
            have hms3 : m < s.length + 1 := by omega
            have hms4 : (m : Int) < (s.length : Int) + 1 := by omega
            go_wp2
            have hs := HSK2.out
            exact ⟨⟨fl (s.take m), by have := hs.lt; omega, rfl, hs, HR4.out, HB4.out⟩, by simp [intOf]; have := HLT.out; omega⟩
    · have hkl : ¬ (k : Int) + 1 < (s.length : Int) := by omega
      have HE : Hid (tab s (k + 1) = tab s s.length) := Lib.hid (by
        rcases hk with h | rfl
        · rw [show s.length = k + 1 by omega]
        · rcases Nat.eq_zero_or_pos s.length with h | h
          · rw [h]
            apply List.ext_getElem
            · simp [tab]
            · intro i h1 h2
              simp only [tab, List.getElem_map, List.getElem_range]
              rw [tab_length] at h1
              rw [if_pos (by omega), if_pos (by omega)]
          · rw [show s.length = 0 + 1 by omega])
      go_wp2
      refine bodyPost_ret (v := .slice (some ⟨g, 0, none⟩) (s.length + 1) (s.length + 1)) (by simp [results, Try.results20, go_sem]) rfl ⟨g, rfl, ?_, by rw [HGE.out]; exact HB2.out⟩
      rw [HR2.out, HE.out]
theorem cells_of_row {w : World} {g : Nat} {s : Tx} {k : Nat} (h : w.heap[g]? = some (.cells (icells (tab s k)) 3 (0, 0))) (i : Nat) (hi : i ≤ k) (hs : i ≤ s.length) : w.cell? ⟨g, i, none⟩ = some (.int .i64 (fl (s.take i) : Int)) := by
  rw [cell_of_row w g _ _ 3 (0, 0) h, icells_at _ i (by rw [tab_length]; omega), tab_at s _ i _ hi]
end Go.Proofs.Ytpknaobmchmpdaa.Suf
