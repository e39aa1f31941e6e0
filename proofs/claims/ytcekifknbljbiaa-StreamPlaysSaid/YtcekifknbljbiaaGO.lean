/- Package by package: Open Opens TOpen SOpen BOpen. -/
import Derived.Test.YtcekifknbljbiaaGB
import Derived.ChangeOld
import Derived.Deep.Matrix
import Derived.Laws.IdiomArrays
import Derived.OpenShut
import Derived.SizedLaws
/- How an argument that is a slice of bytes, or a byte, is opened. -/
namespace Go.Proofs.Ytcekifknbljbiaa
open Go.ChangeShapes Go.WideShapes Go.ChangeAt Go.RowKit
set_option maxRecDepth 100000

theorem own : ownKnob Try.prog.godebug = none := by kernel_rfl
theorem laidOut : laidOutB Try.prog = true := by kernel_rfl
theorem u8_of {a : Int} (h : (Lit.int .u8 a).wf = true) : ∃ c : UInt8, a = (c.toNat : Int) := by
  have hb := bounds_u8 h
  refine ⟨UInt8.ofNat a.toNat, ?_⟩
  rw [UInt8.toNat_ofNat']
  omega
theorem cell_lt {w : World} {b o : Nat} {v : Value} (h : w.cell? ⟨b, o, none⟩ = some v) : b < w.heap.size := by
  rcases Nat.lt_or_ge b w.heap.size with hlt | hge
  · exact hlt
  · unfold World.cell? at h
    simp only [Array.getElem?_eq_none hge] at h
    cases h
theorem add_at (b off i : Nat) : (⟨b, off, none⟩ : Addr).add i = ⟨b, off + i, none⟩ := by unfold Addr.add; split <;> simp_all

theorem bs_of_trod {H : Type} {enc : TypeId × Value → H} {W : World} {a : Option Addr} {len cap : Nat} {d : DataW H} {p : List MemPlace}
    (h : DataW.Trod enc Try.prog W 0 (fun _ => true) true 38 (.slice a len cap) d p) : ∃ l : List UInt8, len = l.length ∧ l.length ≤ maxLen ∧ Bs W W.heap.size a l := by
  obtain ⟨fuel, hf⟩ := h
  rcases open_ints Try.underlying38 Try.underlying5 (by kernel_rfl) hf with ⟨hcs, _⟩ | ⟨x, l, c, zs, hcs, _, hl, hm, hz, _, hcell, hwz⟩
  · simp [Value.cells] at hcs
    obtain ⟨rfl, rfl, rfl⟩ := hcs
    exact ⟨[], rfl, Nat.zero_le _, fun h => absurd h (by simp)⟩
  · simp [Value.cells] at hcs
    obtain ⟨rfl, rfl, rfl⟩ := hcs
    have hz' : zs.length = cap := by simpa using hz
    have hlen : ((zs.take len).map fun z => UInt8.ofNat z.toNat).length = len := by simp; omega
    refine ⟨(zs.take len).map fun z => UInt8.ofNat z.toNat, hlen.symm, by rw [hlen]; omega, fun h0 => ?_⟩
    rw [hlen] at h0
    obtain ⟨b, off, spot⟩ := x
    have hc := hcell 0 (by omega)
    have hspot : spot = none := by simpa [Addr.add] using World.cell?_spot hc
    subst hspot
    rw [add_at] at hc
    refine ⟨b, off, rfl, cell_lt hc, fun i hi => ?_⟩
    rw [hlen] at hi
    have hci := hcell i (by omega)
    rw [add_at] at hci
    rw [hci]
    have hzi : i < zs.length := by omega
    have hw := bounds_u8 (hwz zs[i] (List.getElem_mem hzi))
    have e : zs.getD i 0 = zs[i] := by simp [List.getD, List.getElem?_eq_getElem hzi]
    rw [e]
    have e2 : (((zs.take len).map fun z => UInt8.ofNat z.toNat)[i]'(by rw [hlen]; exact hi)).toNat = zs[i].toNat := by
      simp only [List.getElem_map, List.getElem_take, UInt8.toNat_ofNat']
      omega
    rw [e2]
    have e3 : zs[i] = ((zs[i].toNat : Nat) : Int) := by omega
    rw [← e3]

theorem nil_of_trod {H : Type} {enc : TypeId × Value → H} {W : World} {a : Option Addr} {len cap : Nat} {d : DataW H} {p : List MemPlace}
    (h : DataW.Trod enc Try.prog W 0 (fun _ => true) true 38 (.slice a len cap) d p) : a = none → cap = 0 := by
  obtain ⟨fuel, hf⟩ := h
  rcases open_ints Try.underlying38 Try.underlying5 (by kernel_rfl) hf with ⟨hcs, _⟩ | ⟨x, l, c, zs, hcs, _⟩
  · simp [Value.cells] at hcs
    intro _; exact hcs.2.2
  · simp [Value.cells] at hcs
    intro h0
    rw [hcs.1] at h0
    cases h0
end Go.Proofs.Ytcekifknbljbiaa
/- How an argument that is a slice of slices of bytes is opened. -/
namespace Go.Proofs.Ytcekifknbljbiaa
open Go.ChangeShapes Go.WideShapes Go.ChangeAt Go.RowKit
set_option maxRecDepth 100000

theorem bytes_len (zs : List Int) (n : Nat) (h : n ≤ zs.length) : ((zs.take n).map fun z => UInt8.ofNat z.toNat).length = n := by simp; omega
theorem bytes_at (zs : List Int) (n i : Nat) (hi : i < n) (h : n ≤ zs.length) (hw : ∀ z ∈ zs, (Lit.int .u8 z).wf = true) :
    ((((zs.take n).map fun z => UInt8.ofNat z.toNat)[i]'(by rw [bytes_len zs n h]; exact hi)).toNat : Int) = zs.getD i 0 := by
  have hzi : i < zs.length := by omega
  have hb := bounds_u8 (hw zs[i] (List.getElem_mem hzi))
  have e : zs.getD i 0 = zs[i] := by simp [List.getD, List.getElem?_eq_getElem hzi]
  rw [e]
  simp only [List.getElem_map, List.getElem_take, UInt8.toNat_ofNat']
  omega
theorem spot_none {W : World} {a : Addr} {v : Value} (h : W.cell? (a.add 0) = some v) : ∃ b off, a = ⟨b, off, none⟩ := by
  obtain ⟨b, off, spot⟩ := a
  have hspot : spot = none := by simpa [Addr.add] using World.cell?_spot h
  exact ⟨b, off, by rw [hspot]⟩

theorem ts_of_trod {H : Type} {enc : TypeId × Value → H} {W : World} {a : Option Addr} {len cap : Nat} {d : DataW H} {p : List MemPlace}
    (h : DataW.Trod enc Try.prog W 0 (fun _ => true) true 22 (.slice a len cap) d p) : ∃ xs : List TxV, len = xs.length ∧ xs.length ≤ maxLen ∧ (∀ x ∈ xs, x.text.length ≤ maxLen) ∧ Ts W a xs := by
  obtain ⟨fuel, hf⟩ := h
  rcases Deep.open_int_rows (k := .u8) Try.underlying22 Try.underlying38 Try.underlying5 (by kernel_rfl) (by kernel_rfl) hf with ⟨hcs, _⟩ | ⟨x, l, c, A, L, C, Z, hcs, _, hl, hm, _, hr⟩
  · simp [Value.cells] at hcs
    obtain ⟨rfl, rfl, rfl⟩ := hcs
    exact ⟨[], rfl, Nat.zero_le _, (fun x hx => by cases hx), (fun h => absurd h (by simp)), (fun x hx => by cases hx)⟩
  · simp [Value.cells] at hcs
    obtain ⟨rfl, rfl, rfl⟩ := hcs
    let f : Nat → TxV := fun r => ⟨((Z r).take (L r)).map (fun z => UInt8.ofNat z.toNat), A r, if A r = none then 0 else C r, fun e => if_pos e⟩
    have hcap : ∀ r, r < cap → (f r).cap = C r := fun r hrc => by
      show (if A r = none then 0 else C r) = C r
      obtain ⟨_, _, _, _, _, hn, _⟩ := hr r hrc
      split
      · rename_i e; exact (hn e).symm
      · rfl
    have htl : ∀ r, r < cap → (f r).text.length = L r := fun r hrc => by
      obtain ⟨_, hLC, _, hZ, _⟩ := hr r hrc
      exact bytes_len (Z r) (L r) (by omega)
    refine ⟨(List.range len).map f, by simp, by simp; omega, ?_, fun h0 => ?_, ?_⟩
    · intro y hy
      obtain ⟨r, hrr, rfl⟩ := List.mem_map.1 hy
      have hrl : r < cap := by have := List.mem_range.1 hrr; omega
      obtain ⟨_, hLC, hC, _⟩ := hr r hrl
      rw [htl r hrl]; omega
    · have hlen : 0 < len := by simpa using h0
      obtain ⟨b, off, rfl⟩ := spot_none (hr 0 (by omega)).1
      have hc0 := (hr 0 (by omega)).1
      rw [add_at] at hc0
      refine ⟨b, off, rfl, cell_lt hc0, fun i hi => ?_⟩
      have hil : i < len := by simpa using hi
      have hci := (hr i (by omega)).1
      rw [add_at] at hci
      rw [hci]
      simp only [List.getElem_map, List.getElem_range]
      rw [htl i (by omega), hcap i (by omega)]
    · intro y hy
      obtain ⟨r, hrr, rfl⟩ := List.mem_map.1 hy
      have hrl : r < cap := by have := List.mem_range.1 hrr; omega
      obtain ⟨_, hLC, _, hZ, hw, _, hcell⟩ := hr r hrl
      intro h0
      rw [htl r hrl] at h0
      cases hA : A r with
      | none => obtain ⟨_, _, _, _, _, hn, _⟩ := hr r hrl; have := hn hA; omega
      | some ad =>
        obtain ⟨_, hc⟩ := hcell ad hA
        obtain ⟨b, off, rfl⟩ := spot_none (hc 0 (by omega))
        have hc0 := hc 0 (by omega)
        rw [add_at] at hc0
        refine ⟨b, off, hA, cell_lt hc0, fun i hi => ?_⟩
        rw [htl r hrl] at hi
        have hci := hc i (by omega)
        rw [add_at] at hci
        rw [hci, ← bytes_at (Z r) (L r) i hi (by omega) hw]
/-- How long such an argument can be: the form's own reach. -/
theorem ts_sized {H : Type} {enc : TypeId × Value → H} {W : World} {ts : List TypeId} {ds : List (DataW H)} (hz : (DataW.weightsEach Try.prog ts ds).all (· ≤ reachBytes) = true) {j : Nat} {a : Option Addr} {len cap : Nat} {d : DataW H} {p : List MemPlace}
    (ht : ts[j]? = some 22) (hd : ds[j]? = some d) (h : DataW.Trod enc Try.prog W 0 (fun _ => true) true 22 (.slice a len cap) d p) : len ≤ 6000000000000 := by
  obtain ⟨fuel, hf⟩ := h
  rcases Deep.open_int_rows (k := .u8) Try.underlying22 Try.underlying38 Try.underlying5 (by kernel_rfl) (by kernel_rfl) hf with ⟨hcs, _⟩ | ⟨x, l, c, A, L, C, Z, hcs, _, hl, hm, hx, hr⟩
  · simp [Value.cells] at hcs
    omega
  · simp [Value.cells] at hcs
    obtain ⟨rfl, rfl, rfl⟩ := hcs
    have hd' := congrArg Prod.fst hx
    simp only at hd'
    have hb : Try.prog.bytesOf 38 = 24 := by kernel_rfl
    have := sized_slice hz (j := j) (t := 22) (e := 38) ht (hd' ▸ hd) Try.underlying22
    rw [hb] at this
    simp only [List.length_map, List.length_range] at this
    unfold reachBytes at this
    omega
end Go.Proofs.Ytcekifknbljbiaa
/- A slice of slices of bytes that came in: if it is nil its capacity is nought. -/
namespace Go.Proofs.Ytcekifknbljbiaa
open Go.ChangeShapes Go.WideShapes Go.ChangeAt Go.RowKit
set_option maxRecDepth 100000

theorem ts_nil_of_trod {H : Type} {enc : TypeId × Value → H} {W : World} {a : Option Addr} {len cap : Nat} {d : DataW H} {p : List MemPlace}
    (h : DataW.Trod enc Try.prog W 0 (fun _ => true) true 22 (.slice a len cap) d p) : a = none → cap = 0 := by
  obtain ⟨fuel, hf⟩ := h
  rcases Deep.open_int_rows (k := .u8) Try.underlying22 Try.underlying38 Try.underlying5 (by kernel_rfl) (by kernel_rfl) hf with ⟨hcs, _⟩ | ⟨x, l, c, A, L, C, Z, hcs, _⟩
  · simp [Value.cells] at hcs
    intro _; exact hcs.2.2
  · simp [Value.cells] at hcs
    intro h0
    rw [hcs.1] at h0
    cases h0
end Go.Proofs.Ytcekifknbljbiaa
/- A slice of bytes that came in is no longer than its capacity. -/
namespace Go.Proofs.Ytcekifknbljbiaa
open Go.ChangeShapes Go.WideShapes Go.ChangeAt Go.RowKit
set_option maxRecDepth 100000
theorem cap_of_trod {H : Type} {enc : TypeId × Value → H} {W : World} {a : Option Addr} {len cap : Nat} {d : DataW H} {p : List MemPlace}
    (h : DataW.Trod enc Try.prog W 0 (fun _ => true) true 38 (.slice a len cap) d p) : len ≤ cap := by
  obtain ⟨fuel, hf⟩ := h
  rcases open_ints Try.underlying38 Try.underlying5 (by kernel_rfl) hf with ⟨hcs, _⟩ | ⟨x, l, c, zs, hcs, _, hl, hm, hz, _, hcell, hwz⟩
  · simp [Value.cells] at hcs
    omega
  · simp [Value.cells] at hcs
    obtain ⟨rfl, rfl, rfl⟩ := hcs
    exact hl
end Go.Proofs.Ytcekifknbljbiaa
/- A slice of slices of bytes that came in: none of them is longer than its capacity. -/
namespace Go.Proofs.Ytcekifknbljbiaa
open Go.ChangeShapes Go.WideShapes Go.ChangeAt Go.RowKit
set_option maxRecDepth 100000

theorem ts_cap_of_trod {H : Type} {enc : TypeId × Value → H} {W : World} {a : Option Addr} {len cap : Nat} {d : DataW H} {p : List MemPlace}
    (h : DataW.Trod enc Try.prog W 0 (fun _ => true) true 22 (.slice a len cap) d p) : ∃ xs : List TxV, len = xs.length ∧ xs.length ≤ maxLen ∧ (∀ x ∈ xs, x.text.length ≤ maxLen) ∧ Ts W a xs ∧ ∀ x ∈ xs, x.text.length ≤ x.cap := by
  obtain ⟨fuel, hf⟩ := h
  rcases Deep.open_int_rows (k := .u8) Try.underlying22 Try.underlying38 Try.underlying5 (by kernel_rfl) (by kernel_rfl) hf with ⟨hcs, _⟩ | ⟨x, l, c, A, L, C, Z, hcs, _, hl, hm, _, hr⟩
  · simp [Value.cells] at hcs
    obtain ⟨rfl, rfl, rfl⟩ := hcs
    exact ⟨[], rfl, Nat.zero_le _, (fun x hx => by cases hx), ⟨(fun h => absurd h (by simp)), (fun x hx => by cases hx)⟩, (fun x hx => by cases hx)⟩
  · simp [Value.cells] at hcs
    obtain ⟨rfl, rfl, rfl⟩ := hcs
    let f : Nat → TxV := fun r => ⟨((Z r).take (L r)).map (fun z => UInt8.ofNat z.toNat), A r, if A r = none then 0 else C r, fun e => if_pos e⟩
    have hcap : ∀ r, r < cap → (f r).cap = C r := fun r hrc => by
      show (if A r = none then 0 else C r) = C r
      obtain ⟨_, _, _, _, _, hn, _⟩ := hr r hrc
      split
      · rename_i e; exact (hn e).symm
      · rfl
    have htl : ∀ r, r < cap → (f r).text.length = L r := fun r hrc => by
      obtain ⟨_, hLC, _, hZ, _⟩ := hr r hrc
      exact bytes_len (Z r) (L r) (by omega)
    refine ⟨(List.range len).map f, by simp, by simp; omega, ?_, ⟨fun h0 => ?_, ?_⟩, ?_⟩
    · intro y hy
      obtain ⟨r, hrr, rfl⟩ := List.mem_map.1 hy
      have hrl : r < cap := by have := List.mem_range.1 hrr; omega
      obtain ⟨_, hLC, hC, _⟩ := hr r hrl
      rw [htl r hrl]; omega
    · have hlen : 0 < len := by simpa using h0
      obtain ⟨b, off, rfl⟩ := spot_none (hr 0 (by omega)).1
      have hc0 := (hr 0 (by omega)).1
      rw [add_at] at hc0
      refine ⟨b, off, rfl, cell_lt hc0, fun i hi => ?_⟩
      have hil : i < len := by simpa using hi
      have hci := (hr i (by omega)).1
      rw [add_at] at hci
      rw [hci]
      simp only [List.getElem_map, List.getElem_range]
      rw [htl i (by omega), hcap i (by omega)]
    · intro y hy
      obtain ⟨r, hrr, rfl⟩ := List.mem_map.1 hy
      have hrl : r < cap := by have := List.mem_range.1 hrr; omega
      obtain ⟨_, hLC, _, hZ, hw, _, hcell⟩ := hr r hrl
      intro h0
      rw [htl r hrl] at h0
      cases hA : A r with
      | none => obtain ⟨_, _, _, _, _, hn, _⟩ := hr r hrl; have := hn hA; omega
      | some ad =>
        obtain ⟨_, hc⟩ := hcell ad hA
        obtain ⟨b, off, rfl⟩ := spot_none (hc 0 (by omega))
        have hc0 := hc 0 (by omega)
        rw [add_at] at hc0
        refine ⟨b, off, hA, cell_lt hc0, fun i hi => ?_⟩
        rw [htl r hrl] at hi
        have hci := hc i (by omega)
        rw [add_at] at hci
        rw [hci, ← bytes_at (Z r) (L r) i hi (by omega) hw]
    · intro y hy
      obtain ⟨r, hrr, rfl⟩ := List.mem_map.1 hy
      have hrl : r < cap := by have := List.mem_range.1 hrr; omega
      obtain ⟨_, hLC, _⟩ := hr r hrl
      rw [htl r hrl, hcap r hrl]
      exact hLC
end Go.Proofs.Ytcekifknbljbiaa
