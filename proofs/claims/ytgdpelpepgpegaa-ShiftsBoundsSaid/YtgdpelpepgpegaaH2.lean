/- A Shifts in memory; at, First, Second, Far. -/
import Derived.Test.YtgdpelpepgpegaaH1
namespace Go.Proofs.Ytgdpelpepgpegaa.Shf
open Go.RowKit Go.Maps Go.Proofs.Ytgdpelpepgpegaa.Tri Go.Proofs.Ytgdpelpepgpegaa.Lnk Go.Proofs.Ytgdpelpepgpegaa.Cwl Go.Proofs.Ytgdpelpepgpegaa.Bck Go.Proofs.Ytgdpelpepgpegaa.Reg
set_option maxRecDepth 100000
set_option linter.unusedVariables false

/-- What is kept of a node: how deep it is, and the two. -/
structure Sf where
  d : Nat
  f : Nat
  s : Nat
def scells (r : Sf) : List Value := [.int .i64 (r.d : Int), .int .i64 (r.f : Int), .int .i64 (r.s : Int)]
def rvals (l : List Sf) : List Value := l.flatMap scells
theorem rvals_length (l : List Sf) : (rvals l).length = l.length * 3 := by
  induction l with
  | nil => rfl
  | cons p l ih => simp only [rvals, List.flatMap_cons, List.length_append, List.length_cons] at ih ⊢; rw [ih]; simp [scells]; omega
theorem rvals_append (l m : List Sf) : rvals (l ++ m) = rvals l ++ rvals m := by simp [rvals]
theorem rvals_at : ∀ (xs : List Sf) (i j : Nat), j < 3 → (h : i < xs.length) → (rvals xs)[i * 3 + j]? = (scells xs[i])[j]?
  | [], i, j, _, h => by simp at h
  | y :: xs, 0, j, hj, _ => by
    unfold rvals
    rw [List.flatMap_cons, List.getElem?_append_left (by simp [scells]; omega)]
    simp
  | y :: xs, i + 1, j, hj, h => by
    have h' : i < xs.length := by simpa using h
    unfold rvals
    rw [List.flatMap_cons, List.getElem?_append_right (by simp [scells]; omega)]
    have e : (i + 1) * 3 + j - (scells y).length = i * 3 + j := by simp [scells]; omega
    rw [e]
    exact rvals_at xs i j hj h'
theorem rvals_one (l : List Sf) : ∀ v ∈ rvals l, v.oneCell' = true := by
  intro v hv
  unfold rvals at hv
  obtain ⟨r, _, h⟩ := List.mem_flatMap.1 hv
  simp only [scells, List.mem_cons, List.not_mem_nil, or_false] at h
  rcases h with rfl | rfl | rfl <;> rfl
theorem rvals_put1 : ∀ (xs : List Sf) (i : Nat) (h : i < xs.length) (x : Nat), (rvals xs).set (i * 3 + 1) (.int .i64 (x : Int)) = rvals (xs.set i ⟨xs[i].d, x, xs[i].s⟩)
  | [], i, h, _ => by simp at h
  | y :: xs, 0, _, x => by simp [rvals, scells]
  | y :: xs, i + 1, h, x => by
    have h' : i < xs.length := by simpa using h
    have ih := rvals_put1 xs i h' x
    unfold rvals at ih ⊢
    rw [List.flatMap_cons, List.set_append_right _ _ (by simp [scells]; omega)]
    have e : (i + 1) * 3 + 1 - (scells y).length = i * 3 + 1 := by simp [scells]; omega
    rw [e, ih]
    simp
theorem rvals_put2 : ∀ (xs : List Sf) (i : Nat) (h : i < xs.length) (x : Nat), (rvals xs).set (i * 3 + 2) (.int .i64 (x : Int)) = rvals (xs.set i ⟨xs[i].d, xs[i].f, x⟩)
  | [], i, h, _ => by simp at h
  | y :: xs, 0, _, x => by simp [rvals, scells]
  | y :: xs, i + 1, h, x => by
    have h' : i < xs.length := by simpa using h
    have ih := rvals_put2 xs i h' x
    unfold rvals at ih ⊢
    rw [List.flatMap_cons, List.set_append_right _ _ (by simp [scells]; omega)]
    have e : (i + 1) * 3 + 2 - (scells y).length = i * 3 + 2 := by simp [scells]; omega
    rw [e, ih]
    simp
/-- A row of them: of all paths, by two functions. -/
def tab (ps : List Tx) (F G : Tx → Nat) : List Sf := ps.map fun p => ⟨p.length, F p, G p⟩
theorem tab_len (ps : List Tx) (F G : Tx → Nat) : (tab ps F G).length = ps.length := by simp [tab]
theorem tab_at (ps : List Tx) (F G : Tx → Nat) (i : Nat) (h : i < ps.length) : (tab ps F G)[i]'(by rw [tab_len]; exact h) = ⟨ps[i].length, F ps[i], G ps[i]⟩ := by simp [tab]
theorem tab_put1 {ps : List Tx} (hd : ps.Nodup) (F G F' : Tx → Nat) {i : Nat} (hi : i < ps.length) (h : ∀ p ∈ ps, p ≠ ps[i] → F' p = F p) :
    (tab ps F G).set i ⟨ps[i].length, F' ps[i], G ps[i]⟩ = tab ps F' G := by
  apply List.ext_getElem
  · simp [tab]
  · intro j h1 h2
    rw [tab_len] at h2
    rw [List.getElem_set, tab_at _ _ _ j h2, tab_at _ _ _ j h2]
    by_cases e : i = j
    · subst e; simp
    · have hne : ps[j] ≠ ps[i] := fun q => e (nd_inj hd q).symm
      rw [if_neg e, h _ (List.getElem_mem h2) hne]
theorem tab_put2 {ps : List Tx} (hd : ps.Nodup) (F G G' : Tx → Nat) {i : Nat} (hi : i < ps.length) (h : ∀ p ∈ ps, p ≠ ps[i] → G' p = G p) :
    (tab ps F G).set i ⟨ps[i].length, F ps[i], G' ps[i]⟩ = tab ps F G' := by
  apply List.ext_getElem
  · simp [tab]
  · intro j h1 h2
    rw [tab_len] at h2
    rw [List.getElem_set, tab_at _ _ _ j h2, tab_at _ _ _ j h2]
    by_cases e : i = j
    · subst e; simp
    · have hne : ps[j] ≠ ps[i] := fun q => e (nd_inj hd q).symm
      rw [if_neg e, h _ (List.getElem_mem h2) hne]
theorem tab_congr {ps : List Tx} {F F' G G' : Tx → Nat} (hF : ∀ p ∈ ps, F p = F' p) (hG : ∀ p ∈ ps, G p = G' p) : tab ps F G = tab ps F' G' := by
  unfold tab
  apply List.map_congr_left
  intro p hp
  rw [hF p hp, hG p hp]
/-- The struct in memory: the row, and how near each byte is. -/
def Sd (w : World) (t : Nat) (v : Value) (nr : Nat → Nat) : Prop :=
  ∃ cells : Array Value, w.heap[t]? = some (.cells cells 56 (0, 0)) ∧ cells.size = 257 ∧ cells[0]? = some v ∧ ∀ i, i < 256 → cells[1 + i]? = some (.int .i64 (nr i : Int))
theorem Sd.lt {w : World} {t : Nat} {v : Value} {nr : Nat → Nat} (h : Sd w t v nr) : t < w.heap.size := by
  obtain ⟨_, h, _⟩ := h
  exact txt_lt h
theorem Sd.same {w w' : World} {t : Nat} {v : Value} {nr : Nat → Nat} (h : Sd w t v nr) (e : w'.heap[t]? = w.heap[t]?) : Sd w' t v nr := by
  obtain ⟨cells, h1, h2⟩ := h
  exact ⟨cells, e.trans h1, h2⟩
theorem Sd.keep {w w' : World} {t : Nat} {v : Value} {nr : Nat → Nat} (h : Sd w t v nr) (hb : Below w.heap.size w w') : Sd w' t v nr := h.same (hb.block t h.lt)
theorem Sd.row {w : World} {t : Nat} {v : Value} {nr : Nat → Nat} (h : Sd w t v nr) : w.cell? ⟨t, 0, none⟩ = some v := by
  obtain ⟨cells, h1, _, h2, _⟩ := h
  exact (cell_of_row w t 0 _ _ _ h1).trans h2
theorem Sd.at {w : World} {t : Nat} {v : Value} {nr : Nat → Nat} (h : Sd w t v nr) {i : Nat} (hi : i < 256) : w.cell? ⟨t, 1 + i, none⟩ = some (.int .i64 (nr i : Int)) := by
  obtain ⟨cells, h1, _, _, h2⟩ := h
  exact (cell_of_row w t _ _ _ _ h1).trans (h2 i hi)
theorem Sd.free {w : World} {t : Nat} {v : Value} {nr : Nat → Nat} (h : Sd w t v nr) (i : Nat) : w.frozen? ⟨t, i, none⟩ = false := by
  obtain ⟨cells, h1, _⟩ := h
  exact frozen_of_row w t i cells 56 h1
theorem Sd.put0 {w : World} {t : Nat} {v : Value} {nr : Nat → Nat} (h : Sd w t v nr) (u : Value) : Sd (w.setCell ⟨t, 0, none⟩ u) t u nr := by
  obtain ⟨cells, h1, h2, h3, h4⟩ := h
  refine ⟨cells.setIfInBounds 0 u, heap_setCell_same w t 0 cells 56 u h1, by rw [Array.size_setIfInBounds]; exact h2, ?_, fun i hi => ?_⟩
  · rw [Array.getElem?_setIfInBounds_self]; simp [h2]
  · rw [Array.getElem?_setIfInBounds_ne (by omega)]; exact h4 i hi
theorem Sd.put {w : World} {t : Nat} {v : Value} {nr nr' : Nat → Nat} (h : Sd w t v nr) {k : Nat} (hk : k < 256) (hn : ∀ i, i ≠ k → nr' i = nr i) {x : Int} (hx : x = (nr' k : Int)) : Sd (w.setCell ⟨t, 1 + k, none⟩ (.int .i64 x)) t v nr' := by
  obtain ⟨cells, h1, h2, h3, h4⟩ := h
  refine ⟨cells.setIfInBounds (1 + k) (.int .i64 x), heap_setCell_same w t (1 + k) cells 56 _ h1, by rw [Array.size_setIfInBounds]; exact h2, ?_, fun i hi => ?_⟩
  · rw [Array.getElem?_setIfInBounds_ne (by omega)]; exact h3
  · by_cases e : i = k
    · subst e
      rw [Array.getElem?_setIfInBounds_self, hx]; simp [h2]; omega
    · rw [Array.getElem?_setIfInBounds_ne (by omega), hn i e]; exact h4 i hi
theorem Sd.congr {w : World} {t : Nat} {v : Value} {nr nr' : Nat → Nat} (h : Sd w t v nr) (e : ∀ i, i < 256 → nr i = nr' i) : Sd w t v nr' := by
  obtain ⟨cells, h1, h2, h3, h4⟩ := h
  exact ⟨cells, h1, h2, h3, fun i hi => by rw [← e i hi]; exact h4 i hi⟩
/-- A row of nodes. -/
def Rw (w : World) (g : Nat) (xs : List Sf) : Prop := ∀ (i : Nat) (h : i < xs.length), w.cell? ⟨g, i * 3, none⟩ = some (.int .i64 (xs[i].d : Int)) ∧ w.cell? ⟨g, i * 3 + 1, none⟩ = some (.int .i64 (xs[i].f : Int)) ∧ w.cell? ⟨g, i * 3 + 2, none⟩ = some (.int .i64 (xs[i].s : Int))
theorem own_rw {w : World} {s g n cap : Nat} {xs : List Sf} (h2 : w.ownsRow s 59 3 (.slice (some ⟨g, 0, none⟩) n cap) n (rvals xs)) (hn : xs.length = n) : Rw w g xs := by
  intro i hi
  have key : ∀ j, j < 3 → w.cell? ⟨g, i * 3 + j, none⟩ = (scells xs[i])[j]? := fun j hj => by
    rw [h2.cellAt (i * 3 + j) (by omega), rvals_at _ i j hj hi]
  exact ⟨key 0 (by omega), key 1 (by omega), key 2 (by omega)⟩
/-- The Shifts of some texts: all is there, or (of a nil tree) nothing is. -/
def Tb (w : World) (t : Nat) (l : List Tx) : Prop :=
  (∃ g cap, Sd w t (.slice (some ⟨g, 0, none⟩) (paths (turned l)).length cap) (fun c => nearK (turned l) (UInt8.ofNat c)) ∧ (∀ p ∈ paths (turned l), p.length ≤ 1000000) ∧ g < w.heap.size ∧ Rw w g (tab (paths (turned l)) (firstOf (turned l) (paths (turned l))) (secondOf (turned l)))) ∨
  (turned l = [] ∧ Sd w t (.slice none 0 0) fun _ => 0)
theorem Tb.keep {w w' : World} {t : Nat} {l : List Tx} (h : Tb w t l) (hb : Below w.heap.size w w') : Tb w' t l := by
  rcases h with ⟨g, cap, h1, h0, h2, h3⟩ | ⟨h1, h2⟩
  · refine .inl ⟨g, cap, h1.keep hb, h0, Nat.lt_of_lt_of_le h2 hb.size, fun i hi => ?_⟩
    obtain ⟨c0, c1, c2⟩ := h3 i hi
    exact ⟨(hb.cell (p := ⟨g, _, none⟩) h2).trans c0, (hb.cell (p := ⟨g, _, none⟩) h2).trans c1, (hb.cell (p := ⟨g, _, none⟩) h2).trans c2⟩
  · exact .inr ⟨h1, h2.keep hb⟩
/-- What is kept of a number. -/
def kept (l : List Tx) (n : Int) : Sf := match pathOf (paths (turned l)) n with | some s => ⟨s.length, firstOf (turned l) (paths (turned l)) s, secondOf (turned l) s⟩ | none => ⟨0, 0, 0⟩
theorem kept_at {l : List Tx} {i : Nat} (h : i < (paths (turned l)).length) : kept l (i : Int) = (tab (paths (turned l)) (firstOf (turned l) (paths (turned l))) (secondOf (turned l)))[i]'(by rw [tab_len]; exact h) := by rw [tab_at _ _ _ i h, kept, pathOf_at h]
theorem kept_off {l : List Tx} {n : Int} (h : ¬ (0 ≤ n ∧ n < (paths (turned l)).length)) : kept l n = ⟨0, 0, 0⟩ := by rw [kept, pathOf_none h]
def sV (r : Sf) : Value := .agg #[.int .i64 (r.d : Int), .int .i64 (r.f : Int), .int .i64 (r.s : Int)]
theorem kept_nil {l : List Tx} (h : turned l = []) (n : Int) : kept l n = ⟨0, 0, 0⟩ := by
  unfold kept
  rw [h]
  cases hp : pathOf (paths ([] : List Tx)) n with
  | none => rfl
  | some s =>
    obtain ⟨i, hi, _, e⟩ := pathOf_some hp
    have hs : s = [] := by
      have := List.getElem_mem hi
      rw [e] at this
      have h2 : s ∈ [([] : Tx)] := this
      simpa using h2
    subst hs
    have h1 : firstOf [] (paths []) [] ≤ Cwl.leastOf [] := first_le _ _ _
    have h2 : secondOf [] [] ≤ Cwl.leastOf [] := second_le _ _
    have h0 : Cwl.leastOf ([] : List Tx) = 0 := rfl
    show (⟨0, firstOf [] (paths []) [], secondOf [] []⟩ : Sf) = _
    rw [show firstOf [] (paths []) [] = 0 by omega, show secondOf [] [] = 0 by omega]
theorem at_any (w : World) (t : Nat) (l : List Tx) (h : Tb w t l) (n : Int) :
    Calls Try.prog 35 #[.pointer (some ⟨t, 0, none⟩), .int .i64 n] w fun e w' => e = .returned (sV (kept l n)) ∧ Below w.heap.size w w' := by
  have off : ∀ (m cap : Nat) (a : Option Addr), w.cell? ⟨t, 0, none⟩ = some (.slice a m cap) → t < w.heap.size → ¬ (0 ≤ n ∧ n < (m : Int)) → Calls Try.prog 35 #[.pointer (some ⟨t, 0, none⟩), .int .i64 n] w fun e w' => e = .returned (sV ⟨0, 0, 0⟩) ∧ Below w.heap.size w w' := by
    intro m cap a c0 ht hin
    clear h
    by_cases h0 : n < 0
    · clear hin
      go_enter Try.func35, Try.ntmps35
      go_wp2
      exact bodyPost_ret (v := sV ⟨0, 0, 0⟩) (by simp [results, Try.results35, sV, go_sem]) rfl ⟨rfl, (Below.refl _ _).alloc (Nat.le_refl _) _⟩
    · have h2 : (m : Int) ≤ n := by omega
      clear hin
      go_enter Try.func35, Try.ntmps35
      go_wp2
      exact bodyPost_ret (v := sV ⟨0, 0, 0⟩) (by simp [results, Try.results35, sV, go_sem]) rfl ⟨rfl, (Below.refl _ _).alloc (Nat.le_refl _) _⟩
  rcases h with ⟨g, cap, h1, hdp, h2, h3⟩ | ⟨h1, h2⟩
  · have c0 := h1.row
    have ht := h1.lt
    by_cases hin : 0 ≤ n ∧ n < ((paths (turned l)).length : Int)
    · obtain ⟨i, rfl⟩ : ∃ i : Nat, n = (i : Int) := ⟨n.toNat, by omega⟩
      have hi : i < (paths (turned l)).length := by omega
      rw [kept_at hi]
      obtain ⟨d0, d1, d2⟩ := h3 i (by rw [tab_len]; exact hi)
      have hin2 : ¬ ((paths (turned l)).length : Int) ≤ (i : Int) := by omega
      have hin3 : (i : Int) < ((paths (turned l)).length : Int) := by omega
      clear h1 h3 off hdp
      generalize (tab (paths (turned l)) (firstOf (turned l) (paths (turned l))) (secondOf (turned l)))[i]'_ = r at *
      generalize (paths (turned l)).length = m at *
      go_enter Try.func35, Try.ntmps35
      go_wp2
      exact bodyPost_ret (v := sV r) (by simp [results, Try.results35, sV, go_sem]) rfl ⟨rfl, (Below.refl _ _).alloc (Nat.le_refl _) _⟩
    · rw [kept_off hin]
      exact off _ _ _ c0 ht hin
  · rw [kept_nil h1]
    exact off _ _ _ h2.row h2.lt (by omega)
theorem at_none (w : World) (n : Int) : Calls Try.prog 35 #[.pointer none, .int .i64 n] w fun e w' => e = .returned (sV ⟨0, 0, 0⟩) ∧ Below w.heap.size w w' := by
  go_enter Try.func35, Try.ntmps35
  go_wp2
  exact bodyPost_ret (v := sV ⟨0, 0, 0⟩) (by simp [results, Try.results35, sV, go_sem]) rfl ⟨rfl, (Below.refl _ _).alloc (Nat.le_refl _) _⟩
/-- The Shifts of some texts (nil is that of no texts). -/
def Sh (w : World) (p : Option Addr) (l : List Tx) : Prop := (p = none → turned l = []) ∧ ∀ a, p = some a → ∃ t, a = ⟨t, 0, none⟩ ∧ Tb w t l
theorem Sh.keep {w w' : World} {p : Option Addr} {l : List Tx} (h : Sh w p l) (hb : Below w.heap.size w w') : Sh w' p l :=
  ⟨h.1, fun a ha => by obtain ⟨t, e, ht⟩ := h.2 a ha; exact ⟨t, e, ht.keep hb⟩⟩
theorem sh_none (w : World) : Sh w none [] := ⟨fun _ => rfl, fun a h => by cases h⟩
def GivesSh (w : World) (l : List Tx) (e : Ending) (w' : World) : Prop := ∃ p, e = .returned (.pointer p) ∧ Sh w' p l ∧ Below w.heap.size w w'
theorem sat_any (w : World) (p : Option Addr) (l : List Tx) (h : Sh w p l) (n : Int) :
    Calls Try.prog 35 #[.pointer p, .int .i64 n] w fun e w' => e = .returned (sV (kept l n)) ∧ Below w.heap.size w w' := by
  cases p with
  | none => rw [kept_nil (h.1 rfl)]; exact at_none w n
  | some a =>
    obtain ⟨t, rfl, ht⟩ := h.2 a rfl
    exact at_any w t l ht n
theorem field_s1 (r : Sf) (w : World) : (Instr.field 59 (sV r) 1).run Try.prog w = .ok (.agg #[.int .i64 (r.f : Int), .int .i64 (r.s : Int)]) w := by
  simp [Instr.field, sV, asAgg, go_sem]
theorem index_s0 (a b : Int) (w : World) : (Instr.index 57 (.agg #[.int .i64 a, .int .i64 b]) (.int .i64 0)).run Try.prog w = .ok (.int .i64 a) w := by
  simp [Instr.index, go_sem]
theorem index_s1 (a b : Int) (w : World) : (Instr.index 57 (.agg #[.int .i64 a, .int .i64 b]) (.int .i64 1)).run Try.prog w = .ok (.int .i64 b) w := by
  simp [Instr.index, go_sem]
theorem sfirst_kept (w : World) (p : Option Addr) (l : List Tx) (h : Sh w p l) (n : Int) :
    Calls Try.prog 14 #[.pointer p, .int .i64 n] w fun e w' => e = .returned (.int .i64 ((kept l n).f : Int)) ∧ Below w.heap.size w w' := by
  have HA := Lib.hid (sat_any w p l h n)
  have hf := field_s1 (kept l n)
  have hi0 := index_s0
  have hi1 := index_s1
  clear h
  generalize kept l n = r at *
  go_enter Try.func14, Try.ntmps14
  go_wp2_with (go_at_call 35; (with_reducible refine HA.out.mono ?_); rintro e w1 ⟨rfl, hb⟩)
  go_ret
  exact ⟨rfl, hb⟩
theorem ssecond_kept (w : World) (p : Option Addr) (l : List Tx) (h : Sh w p l) (n : Int) :
    Calls Try.prog 16 #[.pointer p, .int .i64 n] w fun e w' => e = .returned (.int .i64 ((kept l n).s : Int)) ∧ Below w.heap.size w w' := by
  have HA := Lib.hid (sat_any w p l h n)
  have hf := field_s1 (kept l n)
  have hi0 := index_s0
  have hi1 := index_s1
  clear h
  generalize kept l n = r at *
  go_enter Try.func16, Try.ntmps16
  go_wp2_with (go_at_call 35; (with_reducible refine HA.out.mono ?_); rintro e w1 ⟨rfl, hb⟩)
  go_ret
  exact ⟨rfl, hb⟩
theorem least_deep {l : List Tx} (h : ∀ p ∈ paths (turned l), p.length ≤ 1000000) : Cwl.leastOf (turned l) ≤ 1000000 := by
  by_cases h0 : turned l = []
  · rw [h0]; exact Nat.zero_le _
  · obtain ⟨x, hx, e⟩ := Cwl.least_is h0
    rw [e]
    exact h x (paths_sub _ x hx)
theorem kept_deep {l : List Tx} (h : ∀ p ∈ paths (turned l), p.length ≤ 1000000) (n : Int) : (kept l n).d ≤ 1000000 ∧ (kept l n).f ≤ 1000000 ∧ (kept l n).s ≤ 1000000 := by
  have hm := least_deep h
  by_cases hin : 0 ≤ n ∧ n < ((paths (turned l)).length : Int)
  · obtain ⟨i, rfl⟩ : ∃ i : Nat, n = (i : Int) := ⟨n.toNat, by omega⟩
    have hi : i < (paths (turned l)).length := by omega
    rw [kept_at hi, tab_at _ _ _ i hi]
    have h1 := first_le (turned l) (paths (turned l)) (paths (turned l))[i]
    have h2 := second_le (turned l) (paths (turned l))[i]
    exact ⟨h _ (List.getElem_mem hi), Nat.le_trans h1 hm, Nat.le_trans h2 hm⟩
  · rw [kept_off hin]
    exact ⟨Nat.zero_le _, Nat.zero_le _, Nat.zero_le _⟩
set_option maxHeartbeats 1000000 in
theorem sfar_kept (w : World) (t : Nat) (l : List Tx) (v : Value) (nr : Nat → Nat) (hs : Sd w t v nr) (r : Sf) (n : Int) (c : UInt8)
    (ha : Calls Try.prog 35 #[.pointer (some ⟨t, 0, none⟩), .int .i64 n] w fun e w' => e = .returned (sV r) ∧ Below w.heap.size w w')
    (h1 : r.d ≤ 1000000) (h2 : r.f ≤ 1000000) (h3 : r.s ≤ 1000000) (k : Nat) (hk : nr c.toNat = k) (h4 : k ≤ 1000001) :
    Calls Try.prog 18 #[.pointer (some ⟨t, 0, none⟩), .int .i64 n, .int .u8 (c.toNat : Int)] w fun e w' => e = .returned (.int .i64 (min (r.s : Int) (max (r.f : Int) ((k : Int) - r.d - 1)))) ∧ Below w.heap.size w w' := by
  unfold sV at ha
  have HA := Lib.hid ha
  have HS := Lib.hid hs
  have hc := c.toNat_lt
  clear ha hs
  go_enter Try.func18, Try.ntmps18
  go_wp2_with (go_at_call 35; (with_reducible refine HA.out.mono ?_); rintro e w1 ⟨rfl, hb⟩; have HB1 := Lib.hid hb; clear hb)
  have hs2 := (HS.out.keep HB1.out).keep ((Below.refl _ w1).alloc (Nat.le_refl _) (.cells #[.int .i64 (r.d : Int), .int .i64 (r.f : Int), .int .i64 (r.s : Int)] 59))
  have hw2 := HB1.out.alloc HB1.out.size (.cells #[.int .i64 (r.d : Int), .int .i64 (r.f : Int), .int .i64 (r.s : Int)] 59)
  have hcs := hs2.at hc
  rw [hk] at hcs
  have hblk : Blk3 (w1.alloc (.cells #[.int .i64 (r.d : Int), .int .i64 (r.f : Int), .int .i64 (r.s : Int)] 59)) w1.heap.size 59 (.int .i64 (r.d : Int)) (.int .i64 (r.f : Int)) (.int .i64 (r.s : Int)) := new_cells w1 _ _ _ _
  obtain ⟨c0, c1, c2⟩ := hblk.cells
  have HW2 := Lib.hid hw2
  clear hs2 hw2 hblk HS HB1 HA
  generalize w1.alloc (.cells #[.int .i64 (r.d : Int), .int .i64 (r.f : Int), .int .i64 (r.s : Int)] 59) = W at *
  generalize w1.heap.size = g at *
  obtain ⟨d, f, s⟩ := r
  simp only at *
  have e1 : wrap64 ((k : Int) - (d : Int)) = (k : Int) - d := by unfold wrap64; omega
  have e2 : wrap64 ((k : Int) - (d : Int) - 1) = (k : Int) - d - 1 := by unfold wrap64; omega
  have hc2 : (c.toNat : Int) < 256 := by omega
  go_quiet (fail)
  go_wp2
  go_ret
  exact ⟨rfl, below_drews HW2.out nq⟩
theorem sfar_none (w : World) (n : Int) (c : UInt8) :
    Calls Try.prog 18 #[.pointer none, .int .i64 n, .int .u8 (c.toNat : Int)] w fun e w' => e = .returned (.int .i64 0) ∧ Below w.heap.size w w' := by
  go_enter Try.func18, Try.ntmps18
  go_wp2
  go_ret
  exact ⟨rfl, Below.refl _ _⟩
/-- What the document says of a node of a number. -/
def fstN (l : List Tx) (n : Int) : Nat := match pathOf (paths (turned l)) n with | some s => firstOf (turned l) (paths (turned l)) s | none => 0
def sndN (l : List Tx) (n : Int) : Nat := match pathOf (paths (turned l)) n with | some s => secondOf (turned l) s | none => 0
def farN (l : List Tx) (n : Int) (c : UInt8) : Nat := match pathOf (paths (turned l)) n with | some s => farOf (turned l) (paths (turned l)) s c | none => 0
theorem kept_fst (l : List Tx) (n : Int) : (kept l n).f = fstN l n := by unfold kept fstN; split <;> rfl
theorem kept_snd (l : List Tx) (n : Int) : (kept l n).s = sndN l n := by unfold kept sndN; split <;> rfl
theorem kept_far {l : List Tx} (h : turned l ≠ []) (n : Int) (c : UInt8) : (farN l n c : Int) = min ((kept l n).s : Int) (max ((kept l n).f : Int) ((nearK (turned l) c : Int) - (kept l n).d - 1)) := by
  unfold farN kept
  split
  · rename_i s _
    unfold farOf
    rw [if_neg h]
    simp only
    omega
  · simp only
    omega
theorem farN_empty {l : List Tx} (h : turned l = []) (n : Int) (c : UInt8) : farN l n c = 0 := by
  unfold farN
  split
  · unfold farOf; exact if_pos h
  · rfl
theorem sfirst_any (w : World) (p : Option Addr) (l : List Tx) (h : Sh w p l) (n : Int) (hn : (Lit.int .i64 n).wf = true) :
    Calls Try.prog 14 #[.pointer p, .int .i64 n] w fun e w' => e = .returned (.int .i64 (fstN l n : Int)) ∧ Below w.heap.size w w' := by
  rw [← kept_fst]; exact sfirst_kept w p l h n
theorem ssecond_any (w : World) (p : Option Addr) (l : List Tx) (h : Sh w p l) (n : Int) (hn : (Lit.int .i64 n).wf = true) :
    Calls Try.prog 16 #[.pointer p, .int .i64 n] w fun e w' => e = .returned (.int .i64 (sndN l n : Int)) ∧ Below w.heap.size w w' := by
  rw [← kept_snd]; exact ssecond_kept w p l h n
theorem sfar_any (w : World) (p : Option Addr) (l : List Tx) (h : Sh w p l) (n : Int) (hn : (Lit.int .i64 n).wf = true) (c : UInt8) :
    Calls Try.prog 18 #[.pointer p, .int .i64 n, .int .u8 (c.toNat : Int)] w fun e w' => e = .returned (.int .i64 (farN l n c : Int)) ∧ Below w.heap.size w w' := by
  cases p with
  | none => rw [farN_empty (h.1 rfl)]; exact sfar_none w n c
  | some a =>
    have hat := sat_any w _ l h n
    obtain ⟨t, rfl, ht⟩ := h.2 a rfl
    rcases ht with ⟨g, cap, h1, hdp, h2, h3⟩ | ⟨h1, h2⟩
    · obtain ⟨b1, b2, b3⟩ := kept_deep hdp n
      have hk : nearK (turned l) (UInt8.ofNat c.toNat) = nearK (turned l) c := by rw [UInt8.ofNat_toNat]
      have hkb : nearK (turned l) c ≤ Cwl.leastOf (turned l) + 1 := min_le _ _
      have hlb := least_deep hdp
      have := sfar_kept w t l _ _ h1 (kept l n) n c hat b1 b2 b3 _ hk (by omega)
      by_cases h0 : turned l = []
      · rw [kept_nil h0] at this
        rw [farN_empty h0]
        refine this.mono ?_
        rintro e w' ⟨rfl, hb⟩
        refine ⟨ret_int ?_, hb⟩
        simp only
        omega
      · rw [kept_far h0]
        exact this
    · rw [farN_empty h1]
      rw [kept_nil h1] at hat
      refine (sfar_kept w t l _ _ h2 ⟨0, 0, 0⟩ n c hat (by simp) (by simp) (by simp) 0 rfl (by simp)).mono ?_
      rintro e w' ⟨rfl, hb⟩
      exact ⟨rfl, hb⟩
theorem fstN_at {l : List Tx} {i : Nat} (h : i < (paths (turned l)).length) : fstN l (i : Int) = firstOf (turned l) (paths (turned l)) (paths (turned l))[i] := by unfold fstN; rw [pathOf_at h]
theorem sndN_at {l : List Tx} {i : Nat} (h : i < (paths (turned l)).length) : sndN l (i : Int) = secondOf (turned l) (paths (turned l))[i] := by unfold sndN; rw [pathOf_at h]
theorem farN_at {l : List Tx} {i : Nat} (h : i < (paths (turned l)).length) (c : UInt8) : farN l (i : Int) c = farOf (turned l) (paths (turned l)) (paths (turned l))[i] c := by unfold farN; rw [pathOf_at h]
theorem fstN_off {l : List Tx} {n : Int} (h : ¬ (0 ≤ n ∧ n < (paths (turned l)).length)) : fstN l n = 0 := by unfold fstN; rw [pathOf_none h]
theorem sndN_off {l : List Tx} {n : Int} (h : ¬ (0 ≤ n ∧ n < (paths (turned l)).length)) : sndN l n = 0 := by unfold sndN; rw [pathOf_none h]
theorem farN_off {l : List Tx} {n : Int} (h : ¬ (0 ≤ n ∧ n < (paths (turned l)).length)) (c : UInt8) : farN l n c = 0 := by unfold farN; rw [pathOf_none h]
theorem fstN_nil (n : Int) : fstN [] n = 0 := by rw [← kept_fst, kept_nil rfl]
theorem sndN_nil (n : Int) : sndN [] n = 0 := by rw [← kept_snd, kept_nil rfl]
theorem farN_nil (n : Int) (c : UInt8) : farN [] n c = 0 := farN_empty rfl n c
end Go.Proofs.Ytgdpelpepgpegaa.Shf
