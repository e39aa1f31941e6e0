/- Package by package: Open Opens TOpen SOpen BOpen. -/
import Derived.Test.YtlmncljnnpnjmaaGB
import Derived.ChangeOld
import Derived.Deep.Matrix
import Derived.Laws.IdiomArrays
import Derived.OpenShut
import Derived.SizedLaws
/- How an argument that is a slice of bytes, or a byte, is opened. -/
namespace Go.Proofs.Ytlmncljnnpnjmaa
open Go.ChangeShapes Go.WideShapes Go.ChangeAt Go.RowKit
set_option maxRecDepth 100000

theorem own : ownKnob Try.prog.godebug = none := by kernel_rfl
theorem laidOut : laidOutB Try.prog = true := by kernel_rfl
theorem u8_of {a : Int} (h : (Lit.int .u8 a).wf = true) : ∃ c : UInt8, a = (c.toNat : Int) := by
  have hb := bounds_u8 h
  refine ⟨UInt8.ofNat a.toNat, ?_⟩
  rw [UInt8.toNat_ofNat']
  omega
theorem cell_lt {w : World} {b o : Nat} {v : Value} (h : w.cell? ⟨b, o, none⟩ = some v) : b < w.heap.size := by
  rcases Nat.lt_or_ge b w.heap.size with hlt | hge
  · exact hlt
  · unfold World.cell? at h
    simp only [Array.getElem?_eq_none hge] at h
    cases h
theorem add_at (b off i : Nat) : (⟨b, off, none⟩ : Addr).add i = ⟨b, off + i, none⟩ := by unfold Addr.add; split <;> simp_all

theorem bs_of_trod {H : Type} {enc : TypeId × Value → H} {W : World} {a : Option Addr} {len cap : Nat} {d : DataW H} {p : List MemPlace}
    (h : DataW.Trod enc Try.prog W 0 (fun _ => true) true 33 (.slice a len cap) d p) : ∃ l : List UInt8, len = l.length ∧ l.length ≤ maxLen ∧ Bs W W.heap.size a l := by
  obtain ⟨fuel, hf⟩ := h
  rcases open_ints Try.underlying33 Try.underlying5 (by kernel_rfl) hf with ⟨hcs, _⟩ | ⟨x, l, c, zs, hcs, _, hl, hm, hz, _, hcell, hwz⟩
  · simp [Value.cells] at hcs
    obtain ⟨rfl, rfl, rfl⟩ := hcs
    exact ⟨[], rfl, Nat.zero_le _, fun h => absurd h (by simp)⟩
  · simp [Value.cells] at hcs
    obtain ⟨rfl, rfl, rfl⟩ := hcs
    have hz' : zs.length = cap := by simpa using hz
    have hlen : ((zs.take len).map fun z => UInt8.ofNat z.toNat).length = len := by simp; omega
    refine ⟨(zs.take len).map fun z => UInt8.ofNat z.toNat, hlen.symm, by rw [hlen]; omega, fun h0 => ?_⟩
    rw [hlen] at h0
    obtain ⟨b, off, spot⟩ := x
    have hc := hcell 0 (by omega)
    have hspot : spot = none := by simpa [Addr.add] using World.cell?_spot hc
    subst hspot
    rw [add_at] at hc
    refine ⟨b, off, rfl, cell_lt hc, fun i hi => ?_⟩
    rw [hlen] at hi
    have hci := hcell i (by omega)
    rw [add_at] at hci
    rw [hci]
    have hzi : i < zs.length := by omega
    have hw := bounds_u8 (hwz zs[i] (List.getElem_mem hzi))
    have e : zs.getD i 0 = zs[i] := by simp [List.getD, List.getElem?_eq_getElem hzi]
    rw [e]
    have e2 : (((zs.take len).map fun z => UInt8.ofNat z.toNat)[i]'(by rw [hlen]; exact hi)).toNat = zs[i].toNat := by
      simp only [List.getElem_map, List.getElem_take, UInt8.toNat_ofNat']
      omega
    rw [e2]
    have e3 : zs[i] = ((zs[i].toNat : Nat) : Int) := by omega
    rw [← e3]

theorem nil_of_trod {H : Type} {enc : TypeId × Value → H} {W : World} {a : Option Addr} {len cap : Nat} {d : DataW H} {p : List MemPlace}
    (h : DataW.Trod enc Try.prog W 0 (fun _ => true) true 33 (.slice a len cap) d p) : a = none → cap = 0 := by
  obtain ⟨fuel, hf⟩ := h
  rcases open_ints Try.underlying33 Try.underlying5 (by kernel_rfl) hf with ⟨hcs, _⟩ | ⟨x, l, c, zs, hcs, _⟩
  · simp [Value.cells] at hcs
    intro _; exact hcs.2.2
  · simp [Value.cells] at hcs
    intro h0
    rw [hcs.1] at h0
    cases h0
end Go.Proofs.Ytlmncljnnpnjmaa
/- How an argument that is a slice of slices of bytes is opened. -/
namespace Go.Proofs.Ytlmncljnnpnjmaa
open Go.ChangeShapes Go.WideShapes Go.ChangeAt Go.RowKit
set_option maxRecDepth 100000

theorem bytes_len (zs : List Int) (n : Nat) (h : n ≤ zs.length) : ((zs.take n).map fun z => UInt8.ofNat z.toNat).length = n := by simp; omega
theorem bytes_at (zs : List Int) (n i : Nat) (hi : i < n) (h : n ≤ zs.length) (hw : ∀ z ∈ zs, (Lit.int .u8 z).wf = true) :
    ((((zs.take n).map fun z => UInt8.ofNat z.toNat)[i]'(by rw [bytes_len zs n h]; exact hi)).toNat : Int) = zs.getD i 0 := by
  have hzi : i < zs.length := by omega
  have hb := bounds_u8 (hw zs[i] (List.getElem_mem hzi))
  have e : zs.getD i 0 = zs[i] := by simp [List.getD, List.getElem?_eq_getElem hzi]
  rw [e]
  simp only [List.getElem_map, List.getElem_take, UInt8.toNat_ofNat']
  omega
theorem spot_none {W : World} {a : Addr} {v : Value} (h : W.cell? (a.add 0) = some v) : ∃ b off, a = ⟨b, off, none⟩ := by
  obtain ⟨b, off, spot⟩ := a
  have hspot : spot = none := by simpa [Addr.add] using World.cell?_spot h
  exact ⟨b, off, by rw [hspot]⟩

end Go.Proofs.Ytlmncljnnpnjmaa
/- A slice of slices of bytes that came in: if it is nil its capacity is nought. -/
namespace Go.Proofs.Ytlmncljnnpnjmaa
open Go.ChangeShapes Go.WideShapes Go.ChangeAt Go.RowKit
set_option maxRecDepth 100000

end Go.Proofs.Ytlmncljnnpnjmaa
/- A slice of bytes that came in is no longer than its capacity. -/
namespace Go.Proofs.Ytlmncljnnpnjmaa
open Go.ChangeShapes Go.WideShapes Go.ChangeAt Go.RowKit
set_option maxRecDepth 100000
theorem cap_of_trod {H : Type} {enc : TypeId × Value → H} {W : World} {a : Option Addr} {len cap : Nat} {d : DataW H} {p : List MemPlace}
    (h : DataW.Trod enc Try.prog W 0 (fun _ => true) true 33 (.slice a len cap) d p) : len ≤ cap := by
  obtain ⟨fuel, hf⟩ := h
  rcases open_ints Try.underlying33 Try.underlying5 (by kernel_rfl) hf with ⟨hcs, _⟩ | ⟨x, l, c, zs, hcs, _, hl, hm, hz, _, hcell, hwz⟩
  · simp [Value.cells] at hcs
    omega
  · simp [Value.cells] at hcs
    obtain ⟨rfl, rfl, rfl⟩ := hcs
    exact hl
end Go.Proofs.Ytlmncljnnpnjmaa
/- A slice of slices of bytes that came in: none of them is longer than its capacity. -/
namespace Go.Proofs.Ytlmncljnnpnjmaa
open Go.ChangeShapes Go.WideShapes Go.ChangeAt Go.RowKit
set_option maxRecDepth 100000

end Go.Proofs.Ytlmncljnnpnjmaa
