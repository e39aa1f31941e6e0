/- Slices of lines, read; the contract of the statements' own 'same'. -/
import Derived.Test.YtcekifknbljbiaaWf
import Derived.Test.YtcekifknbljbiaaGW
namespace Go.Proofs.Ytcekifknbljbiaa
open Go.RowKit
set_option maxRecDepth 100000

/-- A slice of lines that reads as xs. -/
def Ls (W : World) (a : Option Addr) (xs : List LnV) : Prop :=
  (0 < xs.length → ∃ b off, a = some ⟨b, off, none⟩ ∧ b < W.heap.size ∧ ∀ i (h : i < xs.length), W.cell? ⟨b, off + i * 3, none⟩ = some (.int .i64 (xs[i].ln.off : Int)) ∧
    W.cell? ⟨b, off + i * 3 + 1, none⟩ = some (.slice xs[i].a xs[i].ln.text.length xs[i].cap) ∧ W.cell? ⟨b, off + i * 3 + 2, none⟩ = some (.bool xs[i].ln.ends)) ∧ ∀ x ∈ xs, Bs W W.heap.size x.a x.ln.text
theorem Ls.keep {W W' : World} {a : Option Addr} {xs : List LnV} (h : Ls W a xs) (hb : Below W.heap.size W W') : Ls W' a xs := by
  refine ⟨fun h0 => ?_, fun x hx => ((h.2 x hx).keep hb).more hb.size⟩
  obtain ⟨b, off, e, hlt, hc⟩ := h.1 h0
  refine ⟨b, off, e, Nat.lt_of_lt_of_le hlt hb.size, fun i hi => ?_⟩
  obtain ⟨h1, h2, h3⟩ := hc i hi
  exact ⟨(hb.cell (p := ⟨b, _, none⟩) hlt).trans h1, (hb.cell (p := ⟨b, _, none⟩) hlt).trans h2, (hb.cell (p := ⟨b, _, none⟩) hlt).trans h3⟩
theorem flat_at : ∀ (xs : List LnV) (i j : Nat), j < 3 → (h : i < xs.length) → (xs.flatMap lcells)[i * 3 + j]? = (lcells xs[i])[j]?
  | [], i, j, _, h => absurd h (by simp)
  | x :: xs, 0, j, hj, _ => by
    rw [List.flatMap_cons, List.getElem?_append_left (by simp [lcells]; omega)]
    simp
  | x :: xs, i + 1, j, hj, h => by
    have h' : i < xs.length := by simpa using h
    rw [List.flatMap_cons, List.getElem?_append_right (by simp [lcells]; omega)]
    have e : (i + 1) * 3 + j - (lcells x).length = i * 3 + j := by simp [lcells]; omega
    rw [e, flat_at xs i j hj h']
    rfl
theorem own_ls {W : World} {base : Nat} {v : Value} {xs : List LnV} (h : W.ownsRow base 60 3 v xs.length (xs.flatMap lcells)) (ht : ∀ x ∈ xs, Txt W base x.a x.ln.text) :
    ∃ a cap, v = .slice a xs.length cap ∧ xs.length ≤ cap ∧ Ls W a xs := by
  rcases h.2 with ⟨rfl, h0⟩ | ⟨g, cap, cur, rfl, hg, hh, hnc, _, hs, htk⟩
  · exact ⟨none, 0, by rw [h0], by omega, fun h1 => by omega, fun x hx => (ht x hx).bs⟩
  · refine ⟨some ⟨g, 0, none⟩, cap, rfl, hnc, fun _ => ⟨g, 0, rfl, txt_lt hh, fun i hi => ?_⟩, fun x hx => (ht x hx).bs⟩
    have key : ∀ j, j < 3 → W.cell? ⟨g, 0 + i * 3 + j, none⟩ = (lcells xs[i])[j]? := fun j hj => by
      rw [cell_of_row W g _ _ 60 (0, 0) hh, Nat.zero_add, ← flat_at xs i j hj hi, ← htk, List.getElem?_take_of_lt (by omega), Array.getElem?_toList]
    exact ⟨key 0 (by omega), key 1 (by omega), key 2 (by omega)⟩

end Go.Proofs.Ytcekifknbljbiaa
