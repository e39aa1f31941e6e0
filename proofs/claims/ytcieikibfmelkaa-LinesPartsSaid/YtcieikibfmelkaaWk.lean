/- Lines in blocks of a call's own, beside a text that grows. -/
import Derived.Test.YtcieikibfmelkaaWj
namespace Go.Proofs.Ytcieikibfmelkaa
open Go.RowKit

/-- A slice of lines that reads as xs, in blocks from s on. -/
def LsF (W : World) (s : Nat) (a : Option Addr) (xs : List LnV) : Prop :=
  (0 < xs.length → ∃ b off, a = some ⟨b, off, none⟩ ∧ s ≤ b ∧ b < W.heap.size ∧ ∀ i (h : i < xs.length), W.cell? ⟨b, off + i * 3, none⟩ = some (.int .i64 (xs[i].ln.off : Int)) ∧
    W.cell? ⟨b, off + i * 3 + 1, none⟩ = some (.slice xs[i].a xs[i].ln.text.length xs[i].cap) ∧ W.cell? ⟨b, off + i * 3 + 2, none⟩ = some (.bool xs[i].ln.ends)) ∧ ∀ x ∈ xs, Txt W s x.a x.ln.text
theorem LsF.ls {W : World} {s : Nat} {a : Option Addr} {xs : List LnV} (h : LsF W s a xs) : Ls W a xs := by
  refine ⟨fun h0 => ?_, fun x hx => (h.2 x hx).bs⟩
  obtain ⟨b, off, e, _, hlt, hc⟩ := h.1 h0
  exact ⟨b, off, e, hlt, hc⟩
theorem LsF.grown {W W' : World} {row : Option Nat} {s : Nat} {a : Option Addr} {xs : List LnV} (h : LsF W s a xs) (hg : W.grownBy W' row) (hr : ∀ r, row = some r → r < s) : LsF W' s a xs := by
  have hblk : ∀ b, s ≤ b → b < W.heap.size → W'.heap[b]? = W.heap[b]? := fun b hb hlt => hg.block b hlt (fun e => by have := hr b e.symm; omega)
  refine ⟨fun h0 => ?_, fun x hx h0 => ?_⟩
  · obtain ⟨b, off, e, hs, hlt, hc⟩ := h.1 h0
    refine ⟨b, off, e, hs, Nat.lt_of_lt_of_le hlt hg.size, fun i hi => ?_⟩
    obtain ⟨h1, h2, h3⟩ := hc i hi
    have hcell : ∀ o, W'.cell? ⟨b, o, none⟩ = W.cell? ⟨b, o, none⟩ := fun o => World.cell?_of_block (hblk b hs hlt)
    exact ⟨(hcell _).trans h1, (hcell _).trans h2, (hcell _).trans h3⟩
  · obtain ⟨b, cs, e, hs, hh, hc⟩ := (h.2 x hx) h0
    exact ⟨b, cs, e, hs, (hblk b hs (txt_lt hh)).trans hh, hc⟩
theorem LsF.keep {W W' : World} {s : Nat} {a : Option Addr} {xs : List LnV} (h : LsF W s a xs) (hb : Below W.heap.size W W') : LsF W' s a xs :=
  h.grown (grown_of_below hb) (fun _ e => by cases e)
theorem own_lsf {W : World} {base : Nat} {v : Value} {xs : List LnV} (h : W.ownsRow base 31 3 v xs.length (xs.flatMap lcells)) (ht : ∀ x ∈ xs, Txt W base x.a x.ln.text) :
    ∃ a cap, v = .slice a xs.length cap ∧ xs.length ≤ cap ∧ LsF W base a xs := by
  rcases h.2 with ⟨rfl, h0⟩ | ⟨g, cap, cur, rfl, hg, hh, hnc, _, hs, htk⟩
  · exact ⟨none, 0, by rw [h0], by omega, fun h1 => by omega, ht⟩
  · refine ⟨some ⟨g, 0, none⟩, cap, rfl, hnc, fun _ => ⟨g, 0, rfl, hg, txt_lt hh, fun i hi => ?_⟩, ht⟩
    have key : ∀ j, j < 3 → W.cell? ⟨g, 0 + i * 3 + j, none⟩ = (lcells xs[i])[j]? := fun j hj => by
      rw [cell_of_row W g _ _ 31 (0, 0) hh, Nat.zero_add, ← flat_at xs i j hj hi, ← htk, List.getElem?_take_of_lt (by omega), Array.getElem?_toList]
    exact ⟨key 0 (by omega), key 1 (by omega), key 2 (by omega)⟩
/-- A call that hands out a slice of lines, in blocks of its own. -/
def GivesLsF (w : World) (ls : List Ln) (n : Nat) (e : Ending) (w' : World) : Prop :=
  ∃ a cap, ∃ xs : List LnV, e = .returned (.slice a n cap) ∧ xs.length = n ∧ xs.map LnV.ln = ls ∧ n ≤ cap ∧ LsF w' w.heap.size a xs ∧ Below w.heap.size w w'
theorem split_lsf (t : List UInt8) (a : Option Addr) (cap n k : Nat) (w : World) (hn : t.length = n) (hk : (linesOf t).length = k) (ht : t.length ≤ 1000000000) (hb : Bs w w.heap.size a t) :
    Calls Try.prog 10 #[.slice a n cap] w (GivesLsF w (linesOf t) k) := by
  subst hn
  refine (split_any t a cap w ht hb).mono ?_
  rintro e w1 ⟨v, xs, rfl, hm, hown, htx, hbel⟩
  obtain ⟨a1, c1, rfl, hc, hls⟩ := own_lsf hown htx
  have hxl : xs.length = k := by have := congrArg List.length hm; rw [← hk]; simpa using this
  exact ⟨a1, c1, xs, by rw [hxl], hxl, hm, by omega, hls, hbel⟩
/-- A text that grows, in a row of the call's own. -/
theorem own_text {w : World} {base n : Nat} {v : Value} {l : List UInt8} {ys : List Value} (h : w.ownsRow base 5 1 v n ys) (e : ys = vals l) : w.ownsRow base 5 1 v l.length (vals l) ∧ ∃ a cap, v = .slice a l.length cap ∧ Txt w base a l ∧ (a = none → cap = 0) := by
  subst e
  have hn : l.length = n := by have := h.1; simpa [vals] using this
  obtain ⟨a, cap, hv, ht, _, hc⟩ := own_txt h
  rw [hn]
  exact ⟨h, a, cap, by rw [hv, hn], ht, hc⟩
end Go.Proofs.Ytcieikibfmelkaa
