/- Which pieces may be: the reference. -/
import Derived.Test.YtlmncljnnpnjmaaAdmMath
import Derived.Test.YtlmncljnnpnjmaaGB
import Derived.Deep.LoopGhost
namespace Go.Proofs.Ytlmncljnnpnjmaa.Adm
open Go.RowKit Go.Proofs.Ytlmncljnnpnjmaa.Prs
set_option maxRecDepth 100000

/-- Bytes of words. -/
def wdN (n : Nat) : Bool := decide (65 ≤ n ∧ n ≤ 90 ∨ 97 ≤ n ∧ n ≤ 122 ∨ 48 ≤ n ∧ n ≤ 57 ∨ n = 95)
def isWd (c : UInt8) : Bool := wdN c.toNat
theorem ret_b {a b : Bool} (h : a = b) : Ending.returned (.bool a) = .returned (.bool b) := by rw [h]
theorem fit_nat {n : Nat} {p : Pr} (h : fit n p = true) : ∃ a b : Nat, p = ⟨(a : Int), (b : Int)⟩ ∧ a ≤ b ∧ b ≤ n := by
  obtain ⟨h1, h2, h3⟩ := (fit_iff _ _).1 h
  exact ⟨p.s.toNat, p.e.toNat, pr_ext (Int.toNat_of_nonneg h1).symm (Int.toNat_of_nonneg (by omega)).symm, by omega, by omega⟩
/-- A pair in a block of its own. -/
def Pb (w : World) (x : Nat) (s e : Int) : Prop := w.heap[x]? = some (.cells #[.int .i64 s, .int .i64 e] 25 (0, 0))
theorem pb_new (w : World) (s e : Int) : Pb (w.alloc (.cells #[.int .i64 s, .int .i64 e] 25)) w.heap.size s e := heap_alloc_new w _
theorem Pb.lt {w : World} {x : Nat} {s e : Int} (h : Pb w x s e) : x < w.heap.size := txt_lt h
theorem Pb.keep {w w' : World} {B x : Nat} {s e : Int} (h : Pb w x s e) (hb : Below B w w') (hx : x < B) : Pb w' x s e := (hb.block x hx).trans h
theorem Pb.cells {w : World} {x : Nat} {s e : Int} (h : Pb w x s e) : w.cell? ⟨x, 0, none⟩ = some (.int .i64 s) ∧ w.cell? ⟨x, 1, none⟩ = some (.int .i64 e) := by
  unfold Pb at h
  constructor <;> (rw [cell_of_row w x _ _ 25 (0, 0) h]; rfl)
theorem free_is (line : Tx) (a b : Nat) (hab : a < b) (hbn : b ≤ line.length) : free isWd line ⟨(a : Int), (b : Int)⟩ = (!(decide (0 < a) && isWd (line.getD (a - 1) 0)) && (decide (b = line.length) || !isWd (line.getD b 0))) := by
  have hf : fit line.length ⟨(a : Int), (b : Int)⟩ = true := (fit_iff _ _).2 ⟨by show (0 : Int) ≤ (a : Int); omega, by show (a : Int) ≤ (b : Int); omega, by show (b : Int) ≤ _; omega⟩
  unfold free
  rw [hf]
  have h1 : decide ((a : Int) ≠ (b : Int)) = true := decide_eq_true (by omega)
  have h2 : decide ((0 : Int) < (a : Int)) = decide (0 < a) := by rw [decide_eq_decide]; omega
  have h3 : decide ((b : Int) = (line.length : Int)) = decide (b = line.length) := by rw [decide_eq_decide]; omega
  have h4 : ((a : Int) - 1).toNat = a - 1 := by omega
  simp only [h1, h2, h3, h4, Int.toNat_natCast, Bool.true_and]

end Go.Proofs.Ytlmncljnnpnjmaa.Adm
