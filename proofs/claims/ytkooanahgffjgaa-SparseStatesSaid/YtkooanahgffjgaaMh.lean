/- Slices of numbers and of questions in memory; texts that are changed in place. -/
import Derived.Test.YtkooanahgffjgaaMg
namespace Go.Proofs.Ytkooanahgffjgaa.Met
open Go.RowKit Go.Maps
set_option maxRecDepth 100000

/-- A slice of numbers that reads as xs, below block B. -/
def Is (W : World) (B : Nat) (a : Option Addr) (xs : List Int) : Prop :=
  0 < xs.length → ∃ b off, a = some ⟨b, off, none⟩ ∧ b < B ∧ ∀ i (h : i < xs.length), W.cell? ⟨b, off + i, none⟩ = some (.int .i64 xs[i])
theorem Is.keep {W W' : World} {B : Nat} {a : Option Addr} {xs : List Int} (h : Is W B a xs) (hb : Below B W W') : Is W' B a xs := fun h0 => by
  obtain ⟨b, off, e, hlt, hc⟩ := h h0
  exact ⟨b, off, e, hlt, fun i hi => (hb.cell (p := ⟨b, _, none⟩) hlt).trans (hc i hi)⟩
/-- A question: a state and a byte. -/
structure Ak where
  s : Int
  c : UInt8
/-- A slice of questions that reads as xs, below block B. -/
def As (W : World) (B : Nat) (a : Option Addr) (xs : List Ak) : Prop :=
  0 < xs.length → ∃ b off, a = some ⟨b, off, none⟩ ∧ b < B ∧ ∀ i (h : i < xs.length), W.cell? ⟨b, off + i * 2, none⟩ = some (.int .i64 xs[i].s) ∧ W.cell? ⟨b, off + i * 2 + 1, none⟩ = some (.int .u8 (xs[i].c.toNat : Int))
theorem As.keep {W W' : World} {B : Nat} {a : Option Addr} {xs : List Ak} (h : As W B a xs) (hb : Below B W W') : As W' B a xs := fun h0 => by
  obtain ⟨b, off, e, hlt, hc⟩ := h h0
  exact ⟨b, off, e, hlt, fun i hi => ⟨(hb.cell (p := ⟨b, _, none⟩) hlt).trans (hc i hi).1, (hb.cell (p := ⟨b, _, none⟩) hlt).trans (hc i hi).2⟩⟩
/-- A byte of a text of the call's own, stored. -/
theorem Txt.set {w : World} {base g i : Nat} {l : List UInt8} (h : Txt w base (some ⟨g, 0, none⟩) l) (x : UInt8) : Txt (w.setCell ⟨g, i, none⟩ (.int .u8 (x.toNat : Int))) base (some ⟨g, 0, none⟩) (l.set i x) := fun h0 => by
  rw [List.length_set] at h0
  obtain ⟨b, cs, e, hb, hh, hc⟩ := h h0
  cases e
  refine ⟨g, _, rfl, hb, heap_set_same hh, fun j hj => ?_⟩
  rw [List.length_set] at hj
  have hcj := hc j hj
  have hjc : j < cs.size := (Array.getElem?_eq_some_iff.1 hcj).1
  rw [Array.getElem?_setIfInBounds, List.getElem_set]
  by_cases e : i = j
  · subst e
    simp [hjc]
  · simp [e, hcj]
theorem u8_inc' (x : UInt8) : ((x + 1).toNat : Int) = ((x.toNat : Int) + 1) % 256 := by
  rw [UInt8.toNat_add]
  have : (1 : UInt8).toNat = 1 := rfl
  omega
theorem field_scan (a b c d : Int) (w : World) : (Instr.field 38 (.agg #[.int .i64 a, .int .i64 b, .int .i64 c, .int .i64 d]) 0).run Try.prog w = .ok (.int .i64 a) w := by
  simp [Instr.field, go_sem, asAgg]
theorem eql_counts (a b c d a' b' c' d' : Int) (w : World) : (binOp .eql 38 (.agg #[.int .i64 a, .int .i64 b, .int .i64 c, .int .i64 d]) (.agg #[.int .i64 a', .int .i64 b', .int .i64 c', .int .i64 d'])).run Try.prog w = .ok (.bool ((a == a') && ((b == b') && ((c == c') && (d == d'))))) w := by
  cases h1 : (a == a') <;> cases h2 : (b == b') <;> cases h3 : (c == c') <;> cases h4 : (d == d') <;> simp [go_sem, h1, h2, h3, h4]
end Go.Proofs.Ytkooanahgffjgaa.Met
