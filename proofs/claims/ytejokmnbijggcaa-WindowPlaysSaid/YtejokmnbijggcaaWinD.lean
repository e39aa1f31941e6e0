/- What is done to a window, act by act. -/
import Derived.Test.YtejokmnbijggcaaWinC
namespace Go.Proofs.Ytejokmnbijggcaa.Win
open Go.Proofs.Ytejokmnbijggcaa.Stm Go.Proofs.Ytejokmnbijggcaa.Reg Go.RowKit Go.Maps
set_option maxRecDepth 100000
set_option linter.unusedVariables false

def play1 (x : Wn) (y : ActV) : Wn := if y.clear = true then x.clear else x.add y.x.text
def plays (l : List ActV) : Wn := l.foldl play1 wnNew
theorem plays_succ (l : List ActV) (k : Nat) (h : k < l.length) : plays (l.take (k + 1)) = play1 (plays (l.take k)) l[k] := by
  unfold plays
  rw [List.take_succ_eq_append_getElem h, List.foldl_append]
  rfl
def put1 (y : ActV) : Nat := if y.clear = true then 0 else y.x.text.length
def puts (l : List ActV) : Nat := (l.map put1).sum
theorem puts_succ (l : List ActV) (k : Nat) (h : k < l.length) : puts (l.take (k + 1)) = puts (l.take k) + put1 l[k] := by
  unfold puts
  rw [List.take_succ_eq_append_getElem h, List.map_append, List.sum_append]
  simp
theorem puts_le (l : List ActV) (k : Nat) : puts (l.take k) ≤ added l := by
  have h1 : ∀ l : List ActV, puts l ≤ added l := by
    intro l
    induction l with
    | nil => exact Nat.le_refl _
    | cons y t ih =>
      unfold puts added at ih ⊢
      simp only [List.map_cons, List.sum_cons]
      have : put1 y ≤ y.x.text.length := by unfold put1; split <;> omega
      omega
  have h2 : added l = added (l.take k) + added (l.drop k) := by
    unfold added
    rw [← List.sum_append, ← List.map_append, List.take_append_drop]
  have := h1 (l.take k)
  omega
theorem plays_inv (l : List ActV) : WInv (puts l) (plays l) ∧ (plays l).room ≤ 16 + 2 * puts l := by
  have step : ∀ (l : List ActV) (x : Wn) (n : Nat), WInv n x → x.room ≤ 16 + 2 * n → WInv (n + puts l) (l.foldl play1 x) ∧ (l.foldl play1 x).room ≤ 16 + 2 * (n + puts l) := by
    intro l
    induction l with
    | nil => exact fun x n h1 h2 => ⟨h1, h2⟩
    | cons y t ih =>
      intro x n h1 h2
      have e : n + puts (y :: t) = (n + put1 y) + puts t := by unfold puts; simp only [List.map_cons, List.sum_cons]; omega
      rw [e, List.foldl_cons]
      by_cases hc : y.clear = true
      · have e1 : play1 x y = x.clear := if_pos hc
        have e2 : put1 y = 0 := if_pos hc
        rw [e1, e2]
        exact ih _ _ h1.clear h2
      · have e1 : play1 x y = x.add y.x.text := if_neg hc
        have e2 : put1 y = y.x.text.length := if_neg hc
        rw [e1, e2]
        exact ih _ _ (h1.add _) (room_most h1 h2 _)
  have := step l wnNew 0 winv_new (by decide)
  rwa [Nat.zero_add] at this
/-- How large all is, of few acts. -/
theorem plays_small {l : List ActV} (hf : Fw l) (k : Nat) : (plays (l.take k)).held.length ≤ 4000 ∧ (plays (l.take k)).room ≤ 8016 ∧ (plays (l.take k)).move ≤ 12000 ∧ puts (l.take k) ≤ 4000 := by
  obtain ⟨h1, h2⟩ := plays_inv (l.take k)
  have h3 := puts_le l k
  have h4 := hf.2.1
  have h5 := h1.came
  have h6 := h1.most
  omega
/-- Another block has changed. -/
theorem Duo.touch {W0 W W' : World} {mp : Option Addr} {g b : Nat} {d : Option Nat} {x : Wn} (h : Duo W0 W mp g d x) (t : Touch W W' b none none) (h1 : W0.heap.size ≤ b) (h2 : b ≠ g) (h3 : d ≠ some b) (h4 : Met.blk mp ≠ some b) : Duo W0 W' mp g d x := by
  have hlt := h.wd.lt
  refine ⟨h.wd.same (t.block g hlt.1 (Ne.symm h2) (by simp) (by simp [Met.blk])) fun k hk => t.block k (hlt.2 k hk) (fun e => h3 (by rw [hk, e])) (by simp) (by simp [Met.blk]), h.mt.same fun k hk => t.block k (h.mt.lt hk) (fun e => h4 (by rw [← hk, e])) (by simp) (by simp [Met.blk]), t.below h.bel h.bel.size h1 (fun k h => by cases h) (fun k h => by cases h), h.g0, h.d0, h.m0⟩
theorem touch_put3 (W : World) (b : Nat) (v0 v1 v2 : Value) : Touch W (put3 W b v0 v1 v2) b none none :=
  ⟨rfl, rfl, rfl, by simp [put3], fun k _ h _ _ => put3_other h⟩
/-- The reference's window, in a block of its own beside the program's. -/
structure Box (W0 W : World) (gm g : Nat) (d : Option Nat) (b : Nat) (x : Wn) : Prop where
  blk : Blk3 W b 30 (.string (str x.held)) (.int .i64 (x.room : Int)) (.int .i64 (x.move : Int))
  low : W0.heap.size ≤ b
  ng : b ≠ g
  nd : d ≠ some b
  nm : b ≠ gm
theorem Box.keep {W0 W W' : World} {gm g : Nat} {d : Option Nat} {b : Nat} {x : Wn} (h : Box W0 W gm g d b x) (hb : Below W.heap.size W W') : Box W0 W' gm g d b x :=
  ⟨h.blk.keep hb h.blk.lt, h.low, h.ng, h.nd, h.nm⟩
theorem Box.touch {W0 W W' : World} {gm g : Nat} {d d' : Option Nat} {b : Nat} {x : Wn} {mp : Option Addr} {D : Option Nat} (h : Box W0 W gm g d b x) (t : Touch W W' g D mp) (hD : D ≠ some b) (hm : Met.blk mp ≠ some b) (hd : d' = d ∨ ∃ k, d' = some k ∧ W.heap.size ≤ k) : Box W0 W' gm g d' b x := by
  have hlt := h.blk.lt
  refine ⟨(t.block b hlt h.ng hD hm).trans h.blk, h.low, h.ng, ?_, h.nm⟩
  rcases hd with rfl | ⟨k, rfl, hk⟩
  · exact h.nd
  · intro e; cases e; omega
theorem Box.put {W0 W : World} {gm g : Nat} {d : Option Nat} {b : Nat} {x : Wn} (h : Box W0 W gm g d b x) (y : Wn) : Box W0 (put3 W b (.string (str y.held)) (.int .i64 (y.room : Int)) (.int .i64 (y.move : Int))) gm g d b y :=
  ⟨h.blk.put _ _ _, h.low, h.ng, h.nd, h.nm⟩
theorem Duo.put {W0 W : World} {gm g : Nat} {d : Option Nat} {b : Nat} {x y : Wn} (h : Duo W0 W (some ⟨gm, 0, none⟩) g d x) (hb : Box W0 W gm g d b y) (v0 v1 v2 : Value) : Duo W0 (put3 W b v0 v1 v2) (some ⟨gm, 0, none⟩) g d x :=
  h.touch (touch_put3 W b v0 v1 v2) hb.low hb.ng hb.nd (fun e => hb.nm (by cases e; rfl))
theorem neq_counts (a b c d : Int) (w : World) : (binOp .neq 40 (.agg #[.int .i64 a, .int .i64 b, .int .i64 c, .int .i64 d]) (.agg #[.int .i64 a, .int .i64 b, .int .i64 c, .int .i64 d])).run Try.prog w = .ok (.bool false) w := by
  simp [go_sem]
theorem acts_old {W : World} {a : Option Addr} {xs : List ActV} (h : Acts W a xs) {y : ActV} (hy : y ∈ xs) (h0 : 0 < y.x.text.length) : ∀ ad : Addr, y.x.a = some ad → ad.block < W.heap.size := by
  intro ad e
  obtain ⟨b, off, e2, hlt, _⟩ := h.2 y hy h0
  rw [e2] at e; cases e
  exact hlt
/-- A text of the call's own, of n bytes, that lies apart from the window. -/
def Mine (W0 W : World) (g : Nat) (d : Option Nat) (x : Wn) (A : Option Addr) (n : Nat) : Prop :=
  ∃ (base : Nat) (c : Tx), c.length = n ∧ Txt W base A c ∧ Duo W0 W none g d x ∧ (0 < n → ∀ ad : Addr, A = some ad → W0.heap.size ≤ ad.block ∧ ad.block ≠ g ∧ d ≠ some ad.block)
theorem Mine.duo {W0 W : World} {g : Nat} {d : Option Nat} {x : Wn} {A : Option Addr} {n : Nat} (h : Mine W0 W g d x A n) : Duo W0 W none g d x := by
  obtain ⟨_, _, _, _, h, _⟩ := h; exact h
theorem touch_set (W : World) (b i : Nat) (v : Value) : Touch W (W.setCell ⟨b, i, none⟩ v) b none none :=
  ⟨rfl, rfl, rfl, by simp, fun k _ h _ _ => by simp [World.setCell, Array.getElem?_modify, Ne.symm h]⟩
theorem Mine.step {W0 W : World} {g : Nat} {d : Option Nat} {x : Wn} {A : Option Addr} {n : Nat} (h : Mine W0 W g d x A n) (k : Nat) (hk : k < n) :
    ∃ (b : Nat) (y : UInt8), A = some ⟨b, 0, none⟩ ∧ W.cell? ⟨b, k, none⟩ = some (.int .u8 (y.toNat : Int)) ∧ W.frozen? ⟨b, k, none⟩ = false ∧ Mine W0 (W.setCell ⟨b, k, none⟩ (.int .u8 (((y.toNat : Int) + 1) % 256))) g d x A n := by
  obtain ⟨base, c, rfl, hT, hD, ha⟩ := h
  obtain ⟨b, cs, rfl, hb, hh, hc⟩ := hT (by omega)
  obtain ⟨a1, a2, a3⟩ := ha (by omega) _ rfl
  refine ⟨b, c[k], rfl, (cell_of_row W b k _ 5 (0, 0) hh).trans (hc k hk), by simp [World.frozen?, hh], base, c.set k (c[k] + 1), by simp, ?_, hD.touch (touch_set W b k _) a1 a2 a3 (by simp [Met.blk]), ha⟩
  rw [← Met.u8_inc']
  exact Met.Txt.set hT _
theorem add_fits (x : Wn) (b : Tx) (h : x.held.length + b.length ≤ x.room) : (x.add b).room = x.room ∧ (x.add b).move = x.move + b.length := by
  unfold Wn.add
  split
  · rename_i e; subst e; exact ⟨rfl, rfl⟩
  · rw [if_neg (by omega)]; exact ⟨rfl, rfl⟩
/-- Added again behind a clear: each byte is moved once. -/
theorem once_again (a b : Tx) : (((((wnNew.add a).add b).clear).add b).add a).move = ((wnNew.add a).add b).move + (a.length + b.length) ∧ (((((wnNew.add a).add b).clear).add b).add a).room = ((wnNew.add a).add b).room := by
  have h := ((winv_new.add a).add b).fits
  rw [Wn.add_held, Wn.add_held, List.length_append, List.length_append] at h
  have h0 : wnNew.held.length = 0 := rfl
  generalize (wnNew.add a).add b = x at *
  obtain ⟨r1, m1⟩ := add_fits x.clear b (by show 0 + b.length ≤ x.room; omega)
  obtain ⟨r2, m2⟩ := add_fits (x.clear.add b) a (by rw [Wn.add_held, r1, List.length_append]; show 0 + b.length + a.length ≤ x.room; omega)
  have c1 : x.clear.move = x.move := rfl
  have c2 : x.clear.room = x.room := rfl
  exact ⟨by omega, by omega⟩
theorem once_new (c : Tx) : (wnNew.add c).move = c.length ∧ (c ≠ [] → (wnNew.add c).room = max c.length 16) ∧ (c = [] → (wnNew.add c).room = 0) := by
  unfold Wn.add wnNew grown
  by_cases h : c = []
  · subst h; exact ⟨rfl, fun h => absurd rfl h, fun _ => rfl⟩
  · have hc : 0 < c.length := List.length_pos_iff.2 h
    rw [if_neg h, if_pos (by simpa using hc)]
    refine ⟨by simp, fun _ => by simp only [List.length_nil]; omega, fun e => absurd e h⟩
theorem once_room (a b : Tx) (h : a ++ b ≠ []) : max (a ++ b).length 16 ≤ ((wnNew.add a).add b).room := by
  have h1 := ((winv_new.add a).add b).fits
  rw [Wn.add_held, Wn.add_held] at h1
  have h2 : wnNew.held ++ a = a := rfl
  rw [h2] at h1
  have h3 : 16 ≤ ((wnNew.add a).add b).room := by
    have ha := (once_new a).2.1
    by_cases e : a = []
    · subst e
      have hb : b ≠ [] := fun e => h (by rw [e]; rfl)
      have e1 : (wnNew.add []).add b = wnNew.add b := rfl
      rw [e1, (once_new b).2.1 hb]; omega
    · have := Wn.room_add (wnNew.add a) b
      have := ha e
      omega
  omega
end Go.Proofs.Ytejokmnbijggcaa.Win
