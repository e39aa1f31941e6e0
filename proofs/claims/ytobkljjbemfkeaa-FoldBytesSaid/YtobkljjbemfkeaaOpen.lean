/- How an argument that is a slice of bytes, or a byte, is opened. -/
import Derived.Test.YtobkljjbemfkeaaWalkh
import Derived.OpenShut
import Derived.ChangeOld
import Derived.Laws.IdiomArrays
namespace Go.Proofs.Ytobkljjbemfkeaa
open Go.ChangeShapes Go.WideShapes Go.ChangeAt Go.RowKit

theorem own : ownKnob Try.prog.godebug = none := by kernel_rfl
theorem laidOut : laidOutB Try.prog = true := by kernel_rfl
theorem u8_of {a : Int} (h : (Lit.int .u8 a).wf = true) : ∃ c : UInt8, a = (c.toNat : Int) := by
  have hb := bounds_u8 h
  refine ⟨UInt8.ofNat a.toNat, ?_⟩
  rw [UInt8.toNat_ofNat']
  omega
theorem cell_lt {w : World} {b o : Nat} {v : Value} (h : w.cell? ⟨b, o, none⟩ = some v) : b < w.heap.size := by
  rcases Nat.lt_or_ge b w.heap.size with hlt | hge
  · exact hlt
  · unfold World.cell? at h
    simp only [Array.getElem?_eq_none hge] at h
    cases h
theorem add_at (b off i : Nat) : (⟨b, off, none⟩ : Addr).add i = ⟨b, off + i, none⟩ := by unfold Addr.add; split <;> simp_all

theorem bs_of_trod {H : Type} {enc : TypeId × Value → H} {W : World} {a : Option Addr} {len cap : Nat} {d : DataW H} {p : List MemPlace}
    (h : DataW.Trod enc Try.prog W 0 (fun _ => true) true 22 (.slice a len cap) d p) : ∃ l : List UInt8, len = l.length ∧ l.length ≤ maxLen ∧ Bs W W.heap.size a l := by
  obtain ⟨fuel, hf⟩ := h
  rcases open_ints Try.underlying22 Try.underlying5 (by kernel_rfl) hf with ⟨hcs, _⟩ | ⟨x, l, c, zs, hcs, _, hl, hm, hz, _, hcell, hwz⟩
  · simp [Value.cells] at hcs
    obtain ⟨rfl, rfl, rfl⟩ := hcs
    exact ⟨[], rfl, Nat.zero_le _, fun h => absurd h (by simp)⟩
  · simp [Value.cells] at hcs
    obtain ⟨rfl, rfl, rfl⟩ := hcs
    have hz' : zs.length = cap := by simpa using hz
    have hlen : ((zs.take len).map fun z => UInt8.ofNat z.toNat).length = len := by simp; omega
    refine ⟨(zs.take len).map fun z => UInt8.ofNat z.toNat, hlen.symm, by rw [hlen]; omega, fun h0 => ?_⟩
    rw [hlen] at h0
    obtain ⟨b, off, spot⟩ := x
    have hc := hcell 0 (by omega)
    have hspot : spot = none := by simpa [Addr.add] using World.cell?_spot hc
    subst hspot
    rw [add_at] at hc
    refine ⟨b, off, rfl, cell_lt hc, fun i hi => ?_⟩
    rw [hlen] at hi
    have hci := hcell i (by omega)
    rw [add_at] at hci
    rw [hci]
    have hzi : i < zs.length := by omega
    have hw := bounds_u8 (hwz zs[i] (List.getElem_mem hzi))
    have e : zs.getD i 0 = zs[i] := by simp [List.getD, List.getElem?_eq_getElem hzi]
    rw [e]
    have e2 : (((zs.take len).map fun z => UInt8.ofNat z.toNat)[i]'(by rw [hlen]; exact hi)).toNat = zs[i].toNat := by
      simp only [List.getElem_map, List.getElem_take, UInt8.toNat_ofNat']
      omega
    rw [e2]
    have e3 : zs[i] = ((zs[i].toNat : Nat) : Int) := by omega
    rw [← e3]

theorem nil_of_trod {H : Type} {enc : TypeId × Value → H} {W : World} {a : Option Addr} {len cap : Nat} {d : DataW H} {p : List MemPlace}
    (h : DataW.Trod enc Try.prog W 0 (fun _ => true) true 22 (.slice a len cap) d p) : a = none → cap = 0 := by
  obtain ⟨fuel, hf⟩ := h
  rcases open_ints Try.underlying22 Try.underlying5 (by kernel_rfl) hf with ⟨hcs, _⟩ | ⟨x, l, c, zs, hcs, _⟩
  · simp [Value.cells] at hcs
    intro _; exact hcs.2.2
  · simp [Value.cells] at hcs
    intro h0
    rw [hcs.1] at h0
    cases h0

theorem okWide_arr {P : Program} {w : World} {r : Reach} {base : Nat} {t e : TypeId} {n : Nat} {v : Value} (ht : P.underlying t = some (.array n e)) (h : Value.okWide P w r base t v) : ∃ cs, v = .agg cs ∧ cs.size = P.cellsOf t := by
  simp only [Value.okWide, ht] at h
  obtain ⟨cs, h1, h2, _⟩ := h
  exact ⟨cs, h1, h2⟩
theorem cells31 : Try.prog.cellsOf 31 = 4 := by kernel_rfl
theorem nat_of_u64 {a : Int} (h : (Lit.int .u64 a).wf = true) : ∃ n : Nat, a = (n : Int) ∧ n < 18446744073709551616 := by
  have hb := bounds_u64 h
  exact ⟨a.toNat, by omega, by omega⟩
theorem set_of_trod {H : Type} {enc : TypeId × Value → H} {W : World} {r : Reach} {b0 : Nat} {v : Value} {d : DataW H} {p : List MemPlace}
    (hv : Value.okWide Try.prog W r b0 31 v) (h : DataW.Trod enc Try.prog W 0 (fun _ => true) true 31 v d p) : ∃ N : Nat, N < 2 ^ 256 ∧ v = setV N := by
  obtain ⟨cs, rfl, hs⟩ := okWide_arr und31 hv
  rw [cells31] at hs
  obtain ⟨fuel, hf⟩ := h
  obtain ⟨l⟩ := cs
  match l, hs with
  | [x0, x1, x2, x3], _ =>
    obtain ⟨y0, y1, y2, y3, n, _, h0, h1, h2, h3⟩ := trod_array4 und31 cells29 (by simpa [Value.cells] using hf)
    obtain ⟨n0, e0, _, w0⟩ := DataW.trod_int und29 h0
    obtain ⟨n1, e1, _, w1⟩ := DataW.trod_int und29 h1
    obtain ⟨n2, e2, _, w2⟩ := DataW.trod_int und29 h2
    obtain ⟨n3, e3, _, w3⟩ := DataW.trod_int und29 h3
    simp at e0 e1 e2 e3
    subst e0 e1 e2 e3
    obtain ⟨a, rfl, ha⟩ := nat_of_u64 w0
    obtain ⟨b, rfl, hb⟩ := nat_of_u64 w1
    obtain ⟨c, rfl, hc⟩ := nat_of_u64 w2
    obtain ⟨d, rfl, hd⟩ := nat_of_u64 w3
    obtain ⟨N, hN, f0, f1, f2, f3⟩ := words_of a b c d ha hb hc hd
    exact ⟨N, hN, by unfold setV; rw [f0, f1, f2, f3]⟩
end Go.Proofs.Ytobkljjbemfkeaa
