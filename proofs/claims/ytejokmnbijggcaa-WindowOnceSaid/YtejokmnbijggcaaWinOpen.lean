/- How an argument that is a slice of acts is opened. -/
import Derived.Test.YtejokmnbijggcaaGO
import Derived.Deep.SlicePairs
import Derived.Deep.Strs
import Derived.Lib.SmallJoins
import Derived.SizedLaws
namespace Go.Proofs.Ytejokmnbijggcaa.Win
open Go.ChangeShapes Go.WideShapes Go.ChangeAt Go.RowKit
set_option maxRecDepth 100000
/-- An act in memory: whether all is cleared, and its bytes, where they lie. -/
structure ActV where
  clear : Bool
  x : TxV
instance : Inhabited ActV := ⟨⟨false, ⟨[], none, 0, fun _ => rfl⟩⟩⟩
/-- A slice of acts that reads as xs. -/
def Acts (W : World) (a : Option Addr) (xs : List ActV) : Prop :=
  (0 < xs.length → ∃ b off, a = some ⟨b, off, none⟩ ∧ b < W.heap.size ∧ ∀ i (h : i < xs.length), W.cell? ⟨b, off + i * 2, none⟩ = some (.bool xs[i].clear) ∧ W.cell? ⟨b, off + i * 2 + 1, none⟩ = some (.slice xs[i].x.a xs[i].x.text.length xs[i].x.cap)) ∧ ∀ y ∈ xs, Bs W W.heap.size y.x.a y.x.text
theorem Acts.keep {W W' : World} {a : Option Addr} {xs : List ActV} (h : Acts W a xs) (hb : Below W.heap.size W W') : Acts W' a xs := by
  refine ⟨fun h0 => ?_, fun y hy => ((h.2 y hy).keep hb).more hb.size⟩
  obtain ⟨b, off, e, hlt, hc⟩ := h.1 h0
  exact ⟨b, off, e, Nat.lt_of_lt_of_le hlt hb.size, fun i hi => ⟨(hb.cell (p := ⟨b, _, none⟩) hlt).trans (hc i hi).1, (hb.cell (p := ⟨b, _, none⟩) hlt).trans (hc i hi).2⟩⟩
theorem acts_of_trod {H : Type} {enc : TypeId × Value → H} {W : World} {a : Option Addr} {len cap : Nat} {d : DataW H} {p : List MemPlace}
    (h : DataW.Trod enc Try.prog W 0 (fun _ => true) true 22 (.slice a len cap) d p) : ∃ xs : List ActV, len = xs.length ∧ xs.length ≤ maxLen ∧ (∀ y ∈ xs, y.x.text.length ≤ maxLen) ∧ Acts W a xs := by
  obtain ⟨fuel, hf⟩ := h
  rcases Deep.open_slice_pairs Try.underlying22 Try.underlying33 (by kernel_rfl) rfl rfl (by kernel_rfl) (by kernel_rfl) hf with ⟨hcs, _⟩ | ⟨x, l, c, m, n, V0, V1, D0, D1, P0, P1, hcs, _, hl, hcm, hm, _, hr⟩
  · simp [Value.cells] at hcs
    obtain ⟨rfl, rfl, rfl⟩ := hcs
    exact ⟨[], rfl, Nat.zero_le _, (fun q hq => by cases hq), (fun h => absurd h (by simp)), (fun q hq => by cases hq)⟩
  · simp [Value.cells] at hcs
    obtain ⟨rfl, rfl, rfl⟩ := hcs
    have hm' : m = cap := by simpa using hm
    subst hm'
    have each : ∀ i, i < len → ∃ q : ActV, W.cell? (x.add (i * 2)) = some (.bool q.clear) ∧ W.cell? (x.add (i * 2 + 1)) = some (.slice q.x.a q.x.text.length q.x.cap) ∧ q.x.text.length ≤ maxLen ∧ Bs W W.heap.size q.x.a q.x.text := fun i hi => by
      obtain ⟨c0, c1, t0, t1⟩ := hr i (by omega)
      obtain ⟨z0, e0, _⟩ := DataW.trod_bool Try.underlying4 t0
      simp at e0
      have hv : ∃ a1 l1 k1, V1 i = .slice a1 l1 k1 := by
        rcases open_ints Try.underlying31 Try.underlying5 (by kernel_rfl) t1 with ⟨hcs, _⟩ | ⟨x1, l1, c1', zs, hcs, _⟩
        · simp at hcs; exact ⟨_, _, _, hcs⟩
        · simp at hcs; exact ⟨_, _, _, hcs⟩
      obtain ⟨a1, l1, k1, e1⟩ := hv
      have ht : DataW.Trod enc Try.prog W 0 (fun _ => true) true 31 (.slice a1 l1 k1) (D1 i) (P1 i) := ⟨n, by rw [e1] at t1; simpa [Value.cells] using t1⟩
      obtain ⟨tx, hl1, hm1, hb1⟩ := bs_of_trod ht
      have hn1 := nil_of_trod ht
      exact ⟨⟨z0, ⟨tx, a1, k1, hn1⟩⟩, by rw [c0, e0], by rw [c1, e1, hl1], hm1, hb1⟩
    obtain ⟨f, hf'⟩ := Deep.choose_lt each
    refine ⟨(List.range len).map f, by simp, by simp; omega, fun q hq => ?_, fun h0 => ?_, fun q hq => ?_⟩
    · obtain ⟨i, hi, rfl⟩ := List.mem_map.1 hq
      exact (hf' i (List.mem_range.1 hi)).2.2.1
    · have hlen : 0 < len := by simpa using h0
      obtain ⟨b, off, spot⟩ := x
      have hc0 := (hr 0 (by omega)).1
      have hspot : spot = none := by simpa [Addr.add] using World.cell?_spot hc0
      subst hspot
      rw [add_at] at hc0
      refine ⟨b, off, rfl, cell_lt hc0, fun i hi => ?_⟩
      have hil : i < len := by simpa using hi
      have hs := hf' i hil
      rw [add_at, add_at] at hs
      simp only [List.getElem_map, List.getElem_range]
      exact ⟨hs.1, by rw [Nat.add_assoc]; exact hs.2.1⟩
    · obtain ⟨i, hi, rfl⟩ := List.mem_map.1 hq
      exact (hf' i (List.mem_range.1 hi)).2.2.2
/-- How long such an argument can be: the form's own reach. -/
theorem acts_sized {H : Type} {enc : TypeId × Value → H} {W : World} {ts : List TypeId} {ds : List (DataW H)} (hz : (DataW.weightsEach Try.prog ts ds).all (· ≤ reachBytes) = true) {j : Nat} {a : Option Addr} {len cap : Nat} {d : DataW H} {p : List MemPlace}
    (ht : ts[j]? = some 22) (hd : ds[j]? = some d) (h : DataW.Trod enc Try.prog W 0 (fun _ => true) true 22 (.slice a len cap) d p) : len ≤ 6000000000000 := by
  obtain ⟨fuel, hf⟩ := h
  rcases Deep.open_slice_pairs Try.underlying22 Try.underlying33 (by kernel_rfl) rfl rfl (by kernel_rfl) (by kernel_rfl) hf with ⟨hcs, _⟩ | ⟨x, l, c, m, n, V0, V1, D0, D1, P0, P1, hcs, _, hl, hcm, hm, hx, hr⟩
  · simp [Value.cells] at hcs
    omega
  · simp [Value.cells] at hcs
    obtain ⟨rfl, rfl, rfl⟩ := hcs
    have hd' := congrArg Prod.fst hx
    simp only at hd'
    have hb : Try.prog.bytesOf 33 = 32 := by kernel_rfl
    have := sized_slice hz (j := j) (t := 22) (e := 33) ht (hd' ▸ hd) Try.underlying22
    rw [hb] at this
    simp only [List.length_map, List.length_range] at this
    unfold reachBytes at this
    omega
end Go.Proofs.Ytejokmnbijggcaa.Win
