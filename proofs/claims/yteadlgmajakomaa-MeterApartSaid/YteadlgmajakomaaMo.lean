/- How arguments are opened that are slices of numbers, of rows, of questions, or a question. -/
import Derived.Test.YteadlgmajakomaaOpen
import Derived.Test.YteadlgmajakomaaMh
import Derived.Deep.SlicePairs
import Derived.Deep.Strs
import Derived.Lib.SmallJoins
namespace Go.Proofs.Yteadlgmajakomaa
open Go.ChangeShapes Go.WideShapes Go.ChangeAt Go.RowKit

instance : Inhabited Ak := ⟨⟨0, 0⟩⟩
instance : Inhabited Rw := ⟨⟨0, 0, 0⟩⟩
theorem is_of_trod {H : Type} {enc : TypeId × Value → H} {W : World} {a : Option Addr} {len cap : Nat} {d : DataW H} {p : List MemPlace}
    (h : DataW.Trod enc Try.prog W 0 (fun _ => true) true 23 (.slice a len cap) d p) : ∃ l : List Int, len = l.length ∧ l.length ≤ maxLen ∧ Is W W.heap.size a l := by
  obtain ⟨fuel, hf⟩ := h
  rcases open_ints Try.underlying23 Try.underlying3 (by kernel_rfl) hf with ⟨hcs, _⟩ | ⟨x, l, c, zs, hcs, _, hl, hm, hz, _, hcell, hwz⟩
  · simp [Value.cells] at hcs
    obtain ⟨rfl, rfl, rfl⟩ := hcs
    exact ⟨[], rfl, Nat.zero_le _, fun h => absurd h (by simp)⟩
  · simp [Value.cells] at hcs
    obtain ⟨rfl, rfl, rfl⟩ := hcs
    have hz' : zs.length = cap := by simpa using hz
    have hlen : (zs.take len).length = len := by simp; omega
    refine ⟨zs.take len, hlen.symm, by rw [hlen]; omega, fun h0 => ?_⟩
    rw [hlen] at h0
    obtain ⟨b, off, spot⟩ := x
    have hc := hcell 0 (by omega)
    have hspot : spot = none := by simpa [Addr.add] using World.cell?_spot hc
    subst hspot
    rw [add_at] at hc
    refine ⟨b, off, rfl, cell_lt hc, fun i hi => ?_⟩
    rw [hlen] at hi
    have hci := hcell i (by omega)
    rw [add_at] at hci
    rw [hci]
    have hzi : i < zs.length := by omega
    simp [List.getD, hzi]
theorem as_of_trod {H : Type} {enc : TypeId × Value → H} {W : World} {a : Option Addr} {len cap : Nat} {d : DataW H} {p : List MemPlace}
    (h : DataW.Trod enc Try.prog W 0 (fun _ => true) true 36 (.slice a len cap) d p) : ∃ xs : List Ak, len = xs.length ∧ xs.length ≤ maxLen ∧ As W W.heap.size a xs ∧ ∀ q ∈ xs, (Lit.int .i64 q.s).wf = true := by
  obtain ⟨fuel, hf⟩ := h
  rcases Deep.open_slice_pairs Try.underlying36 Try.underlying45 (by kernel_rfl) rfl rfl (by kernel_rfl) (by kernel_rfl) hf with ⟨hcs, _⟩ | ⟨x, l, c, m, n, V0, V1, D0, D1, P0, P1, hcs, _, hl, hcm, hm, _, hr⟩
  · simp [Value.cells] at hcs
    obtain ⟨rfl, rfl, rfl⟩ := hcs
    exact ⟨[], rfl, Nat.zero_le _, (fun h => absurd h (by simp)), (fun q hq => by cases hq)⟩
  · simp [Value.cells] at hcs
    obtain ⟨rfl, rfl, rfl⟩ := hcs
    have hm' : m = cap := by simpa using hm
    subst hm'
    have each : ∀ i, i < len → ∃ q : Ak, W.cell? (x.add (i * 2)) = some (.int .i64 q.s) ∧ W.cell? (x.add (i * 2 + 1)) = some (.int .u8 (q.c.toNat : Int)) ∧ (Lit.int .i64 q.s).wf = true := fun i hi => by
      obtain ⟨c0, c1, t0, t1⟩ := hr i (by omega)
      obtain ⟨z0, e0, _, w0⟩ := DataW.trod_int Try.underlying3 t0
      obtain ⟨z1, e1, _, w1⟩ := DataW.trod_int Try.underlying5 t1
      obtain ⟨c, rfl⟩ := u8_of w1
      simp at e0 e1
      exact ⟨⟨z0, c⟩, by rw [c0, e0], by rw [c1, e1], w0⟩
    obtain ⟨f, hf'⟩ := Deep.choose_lt each
    refine ⟨(List.range len).map f, by simp, by simp; omega, fun h0 => ?_, fun q hq => ?_⟩
    · have hlen : 0 < len := by simpa using h0
      obtain ⟨b, off, spot⟩ := x
      have hc0 := (hr 0 (by omega)).1
      have hspot : spot = none := by simpa [Addr.add] using World.cell?_spot hc0
      subst hspot
      rw [add_at] at hc0
      refine ⟨b, off, rfl, cell_lt hc0, fun i hi => ?_⟩
      have hil : i < len := by simpa using hi
      have hs := hf' i hil
      rw [add_at, add_at] at hs
      simp only [List.getElem_map, List.getElem_range]
      exact ⟨hs.1, by rw [Nat.add_assoc]; exact hs.2.1⟩
    · obtain ⟨i, hi, rfl⟩ := List.mem_map.1 hq
      exact (hf' i (List.mem_range.1 hi)).2.2
theorem rs_of_trod {H : Type} {enc : TypeId × Value → H} {W : World} {a : Option Addr} {len cap : Nat} {d : DataW H} {p : List MemPlace}
    (h : DataW.Trod enc Try.prog W 0 (fun _ => true) true 35 (.slice a len cap) d p) : ∃ xs : List Rw, len = xs.length ∧ xs.length ≤ maxLen ∧ Rs W W.heap.size a xs ∧ WfR xs := by
  obtain ⟨fuel, hf⟩ := h
  rcases Deep.open_slice Try.underlying35 hf with ⟨hcs, _⟩ | ⟨x, l, c, m, n, D, Pl, hcs, _, hl, hcm, hm, _, hr⟩
  · simp [Value.cells] at hcs
    obtain ⟨rfl, rfl, rfl⟩ := hcs
    exact ⟨[], rfl, Nat.zero_le _, (fun h => absurd h (by simp)), (fun q hq => by cases hq)⟩
  · simp [Value.cells] at hcs
    obtain ⟨rfl, rfl, rfl⟩ := hcs
    have hm' : m = cap := by simpa using hm
    subst hm'
    have ce : Try.prog.cellsOf 41 = 3 := by kernel_rfl
    have c3 : Try.prog.cellsOf 3 = 1 := by kernel_rfl
    have c5 : Try.prog.cellsOf 5 = 1 := by kernel_rfl
    have each : ∀ i, i < len → ∃ r : Rw, W.cell? ((x.add (i * 3)).add 0) = some (.int .i64 r.s) ∧ W.cell? ((x.add (i * 3)).add 1) = some (.int .u8 (r.b.toNat : Int)) ∧ W.cell? ((x.add (i * 3)).add 2) = some (.int .i64 r.t) ∧ (Lit.int .i64 r.s).wf = true ∧ (Lit.int .i64 r.t).wf = true := fun i hi => by
      obtain ⟨cs', h1, h2⟩ := hr i (by omega)
      rw [ce] at h1
      obtain ⟨_, hlen, hcell⟩ := World.cells?_some h1
      obtain ⟨y0, y1, y2, n', _, hl3, t0, t1, t2⟩ := Deep.trod_struct3 Try.underlying41 h2
      match cs', hlen with
      | [v0, v1, v2], _ =>
        simp [c3, c5] at t0 t1 t2
        obtain ⟨z0, e0, _, w0⟩ := DataW.trod_int Try.underlying3 t0
        obtain ⟨z1, e1, _, w1⟩ := DataW.trod_int Try.underlying5 t1
        obtain ⟨z2, e2, _, w2⟩ := DataW.trod_int Try.underlying3 t2
        obtain ⟨c, rfl⟩ := u8_of w1
        simp at e0 e1 e2
        have k0 := hcell 0 (by omega)
        have k1 := hcell 1 (by omega)
        have k2 := hcell 2 (by omega)
        refine ⟨⟨z0, c, z2⟩, ?_, ?_, ?_, w0, w2⟩
        · simpa [e0] using k0
        · simpa [e1] using k1
        · simpa [e2] using k2
    obtain ⟨f, hf'⟩ := Deep.choose_lt each
    refine ⟨(List.range len).map f, by simp, by simp; omega, fun h0 => ?_, fun q hq => ?_⟩
    · have hlen : 0 < len := by simpa using h0
      obtain ⟨b, off, spot⟩ := x
      have hc0 := (hf' 0 hlen).1
      have hspot : spot = none := by simpa [Addr.add] using World.cell?_spot hc0
      subst hspot
      rw [add_at, add_at] at hc0
      refine ⟨b, off, rfl, cell_lt hc0, fun i hi => ?_⟩
      have hil : i < len := by simpa using hi
      have hs := hf' i hil
      simp only [add_at, Nat.add_zero] at hs
      simp only [List.getElem_map, List.getElem_range]
      exact ⟨hs.1, hs.2.1, hs.2.2.1⟩
    · obtain ⟨i, hi, rfl⟩ := List.mem_map.1 hq
      exact (hf' i (List.mem_range.1 hi)).2.2.2
theorem ak_of_trod {H : Type} {enc : TypeId × Value → H} {W : World} {r : Reach} {b0 : Nat} {v : Value} {d : DataW H} {p : List MemPlace}
    (hv : Value.okWide Try.prog W r b0 45 v) (h : DataW.Trod enc Try.prog W 0 (fun _ => true) true 45 v d p) : ∃ q : Ak, v = .agg #[.int .i64 q.s, .int .u8 (q.c.toNat : Int)] ∧ (Lit.int .i64 q.s).wf = true := by
  obtain ⟨v0, v1, y0, y1, n, rfl, _, _, t0, t1⟩ := Joins.open_agg2 Try.underlying45 (by kernel_rfl) (by kernel_rfl) hv h
  obtain ⟨z0, e0, _, w0⟩ := DataW.trod_int Try.underlying3 t0
  obtain ⟨z1, e1, _, w1⟩ := DataW.trod_int Try.underlying5 t1
  obtain ⟨c, rfl⟩ := u8_of w1
  simp at e0 e1
  exact ⟨⟨z0, c⟩, by rw [e0, e1], w0⟩
end Go.Proofs.Yteadlgmajakomaa
