/- How an argument that is a slice of numbers is opened. -/
import Derived.Test.YtlpjghhmacobdaaGO
import Derived.Test.YtlpjghhmacobdaaGL
namespace Go.Proofs.Ytlpjghhmacobdaa.Cts
open Go.ChangeShapes Go.WideShapes Go.ChangeAt Go.RowKit
set_option maxRecDepth 100000
theorem ints_of_trod {H : Type} {enc : TypeId × Value → H} {W : World} {a : Option Addr} {len cap : Nat} {d : DataW H} {p : List MemPlace}
    (h : DataW.Trod enc Try.prog W 0 (fun _ => true) true 23 (.slice a len cap) d p) : ∃ l : List Int, len = l.length ∧ l.length ≤ maxLen ∧ Lnk.Is W W.heap.size a l ∧ ∀ i ∈ l, (Lit.int .i64 i).wf = true := by
  obtain ⟨fuel, hf⟩ := h
  rcases open_ints Try.underlying23 Try.underlying3 (by kernel_rfl) hf with ⟨hcs, _⟩ | ⟨x, l, c, zs, hcs, _, hl, hm, hz, _, hcell, hwz⟩
  · simp [Value.cells] at hcs
    obtain ⟨rfl, rfl, rfl⟩ := hcs
    exact ⟨[], rfl, Nat.zero_le _, fun h => absurd h (by simp), fun i hi => absurd hi (by simp)⟩
  · simp [Value.cells] at hcs
    obtain ⟨rfl, rfl, rfl⟩ := hcs
    have hz' : zs.length = cap := by simpa using hz
    have hlen : (zs.take len).length = len := by simp; omega
    refine ⟨zs.take len, hlen.symm, by rw [hlen]; omega, fun h0 => ?_, fun i hi => hwz i (List.mem_of_mem_take hi)⟩
    rw [hlen] at h0
    obtain ⟨b, off, spot⟩ := x
    have hc := hcell 0 (by omega)
    have hspot : spot = none := by simpa [Addr.add] using World.cell?_spot hc
    subst hspot
    rw [add_at] at hc
    refine ⟨b, off, rfl, cell_lt hc, fun i hi => ?_⟩
    rw [hlen] at hi
    have hci := hcell i (by omega)
    rw [add_at] at hci
    rw [hci]
    have hzi : i < zs.length := by omega
    simp [List.getD, hzi]
end Go.Proofs.Ytlpjghhmacobdaa.Cts
