/- What the statements of layer 20 share. -/
import Derived.Test.YtcekifknbljbiaaStrC3
namespace Go.Proofs.Ytcekifknbljbiaa.Str
open Go.Proofs.Ytcekifknbljbiaa.Stm Go.Proofs.Ytcekifknbljbiaa.Reg Go.RowKit Go.Maps
set_option maxRecDepth 100000
set_option linter.unusedVariables false

/-- Chunks that were there ahead of the stream. -/
theorem arg_cks {w W : World} {p g : Nat} {d : Option Nat} {mp a : Option Addr} {xs : List TxV} (hs : Ts w a xs) (hcx : ∀ x ∈ xs, x.text.length ≤ x.cap) (hb : Below w.heap.size w W) (h0 : ∀ k, Own p g d mp k → w.heap.size ≤ k) : Cks W p g d mp a xs := by
  refine ⟨hs.keep hb, fun hl ad e ho => ?_, fun x hx hl ad e ho => ?_, hcx⟩
  · obtain ⟨b, off, e2, hlt, _⟩ := hs.1 hl
    rw [e2] at e; cases e
    have := h0 _ ho
    simp only at this
    omega
  · have h1 := bs_at (hs.2 x hx) hl e
    have h2 := h0 _ ho
    omega
theorem max_nat (most : Int) : ∃ M : Nat, max most 0 = (M : Int) := ⟨most.toNat, by omega⟩
theorem fin_is_over (s : St) : s.fin.1.over = true := by
  unfold St.fin
  split
  · assumption
  · split <;> rfl
theorem runs_over {s : St} (h : s.over = true) (l : List Tx) : runs s l = (s, []) := by
  unfold runs
  rw [feeds_over h, fin_over h]
  rfl
theorem runs_is_over (s : St) (l : List Tx) : (runs s l).1.over = true := fin_is_over _
theorem Bd.runs {n : Nat} {s : St} (h : Bd n s) (l : List Tx) : Bd (n + l.flatten.length + 1) (runs s l).1 := (Bd.feeds l h).fin
/-- What all chunks do to a new stream. -/
theorem runs_new (M : Nat) (l : List Tx) : (runs (stNew M) l).2 = full M 0 0 [] l.flatten ∧ (runs (stNew M) l).1.bad = fails M [] l.flatten ∧ (runs (stNew M) l).1.hunt = reads M [] l.flatten ∧ (fails M [] l.flatten = true → (runs (stNew M) l).1.num = num' M 0 [] l.flatten) := by
  obtain ⟨h1, h2, _, h4, h5⟩ := run_is l (stNew M) rfl rfl
  refine ⟨h1, h2, ?_, h5⟩
  show ((stNew M).feeds l).1.fin.1.hunt = _
  rw [h4]
  show 0 + reads M [] l.flatten = _
  omega
theorem runs_moves (M : Nat) (l : List Tx) : (runs (stNew M) l).1.w.move ≤ 3 * l.flatten.length := by
  obtain ⟨m, h1, h2⟩ := feeds_inv l (stNew M) 0 winv_new
  have h3 := (fin_inv h1).most
  show ((stNew M).feeds l).1.fin.1.w.move ≤ _
  omega
theorem map_nil_of {ys : List SlV} (h : ys.map SlV.sl = []) : ys = [] := List.map_eq_nil_iff.1 h
end Go.Proofs.Ytcekifknbljbiaa.Str
