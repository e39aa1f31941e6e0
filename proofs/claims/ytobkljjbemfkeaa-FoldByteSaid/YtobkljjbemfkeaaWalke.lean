/- Contracts of fold.Word, the reference's Byte and Word, and the examples of the document. -/
import Derived.Test.YtobkljjbemfkeaaWalkd
import Derived.Laws.IdiomStrings
import Derived.Lib.SlBytesConst
namespace Go.Proofs.Ytobkljjbemfkeaa
open Go.RowKit

theorem word_of (n m : Nat) (hl : n < 256) (h : m = if 65 ≤ n ∧ n ≤ 90 then n + 32 else n) :
    isWord n = (decide (97 ≤ (m : Int) ∧ (m : Int) ≤ 122) || (decide (48 ≤ (n : Int) ∧ (n : Int) ≤ 57) || decide ((n : Int) = 95))) := by
  unfold isWord
  rw [Bool.eq_iff_iff]
  simp only [decide_eq_true_eq, Bool.or_eq_true]
  split at h <;> omega
set_option maxHeartbeats 1000000 in
theorem word_any (c : UInt8) (w : World) :
    Calls Try.prog 15 #[.int .u8 c.toNat] w fun e w' => e = .returned (.bool (isWord c.toNat)) ∧ w = w' := by
  have hl := c.toNat_lt
  have hl2 := (low c).toNat_lt
  have hn := low_nat c
  obtain ⟨n, hc⟩ : ∃ n, n = c.toNat := ⟨_, rfl⟩
  obtain ⟨m, hm⟩ : ∃ m, m = (low c).toNat := ⟨_, rfl⟩
  have cb : Calls Try.prog 13 #[.int .u8 (n : Int)] w fun e w' => e = .returned (.int .u8 (m : Int)) ∧ w = w' := by rw [hc, hm]; exact byte_any c w
  rw [← hc] at hl hn ⊢
  rw [← hm] at hn hl2
  clear hc hm
  have HW := Lib.hid (word_of n m hl hn)
  clear hn
  obtain ⟨r, hr⟩ : ∃ r, r = isWord n := ⟨_, rfl⟩
  rw [← hr] at HW ⊢
  clear hr
  go_enter Try.func15, Try.ntmps15
  go_wp2_with (go_at_call 13; refine cb.mono ?_; rintro e w' ⟨rfl, rfl⟩)
  all_goals
    go_ret
    refine ⟨ret_bool ?_, rfl⟩
    rw [HW.out, Bool.eq_iff_iff]
    simp only [Bool.or_eq_true, decide_eq_true_eq, beq_iff_eq, true_iff]
    omega

set_option maxHeartbeats 1000000 in
theorem rbyte_any (c : UInt8) (w : World) :
    Calls Try.prog 14 #[.int .u8 c.toNat] w fun e w' => e = .returned (.int .u8 (low c).toNat) ∧ w = w' := by
  have hl := c.toNat_lt
  rw [low_nat]
  go_enter Try.func14, Try.ntmps14
  go_wp2
  all_goals (go_ret; exact ⟨rfl, rfl⟩)

theorem rword_of (n : Nat) : isWord n = ((decide (65 ≤ (n : Int) ∧ (n : Int) ≤ 90)) || (decide (97 ≤ (n : Int) ∧ (n : Int) ≤ 122)) || (decide (48 ≤ (n : Int) ∧ (n : Int) ≤ 57) || decide ((n : Int) = 95))) := by
  unfold isWord
  rw [Bool.eq_iff_iff]
  simp only [decide_eq_true_eq, Bool.or_eq_true]
  omega
set_option maxHeartbeats 1000000 in
theorem rword_any (n : Nat) (w : World) :
    Calls Try.prog 16 #[.int .u8 n] w fun e w' => e = .returned (.bool (isWord n)) ∧ w = w' := by
  have HW := Lib.hid (rword_of n)
  obtain ⟨r, hr⟩ : ∃ r, r = isWord n := ⟨_, rfl⟩
  rw [← hr] at HW ⊢
  clear hr
  go_enter Try.func16, Try.ntmps16
  go_wp2
  all_goals
    go_ret
    refine ⟨ret_bool ?_, rfl⟩
    rw [HW.out, Bool.eq_iff_iff]
    simp only [Bool.or_eq_true, decide_eq_true_eq, beq_iff_eq, true_iff]
    omega

theorem und22 : Try.prog.underlying 22 = some (.slice 5) := by kernel_rfl
theorem und5 : Try.prog.underlying 5 = some (.int .u8) := by kernel_rfl
theorem und9 : Try.prog.underlying 9 = some .string := by kernel_rfl
/-- A text out of its bytes. -/
def str (l : List UInt8) : ByteArray := ⟨l.toArray⟩
theorem str_of_bs {w : World} {B : Nat} {a : Option Addr} {l : List UInt8} (cap : Nat) (h : Bs w B a l) :
    (convert 22 9 (.slice a l.length cap)).run Try.prog w = .ok (.string (str l)) w := by
  unfold str
  rcases Nat.eq_zero_or_pos l.length with h0 | h0
  · obtain rfl : l = [] := List.eq_nil_of_length_eq_zero h0
    rw [run_convert_bytes_string w 22 9 5 _ _ cap und22 und5 und9]
    cases a <;> simp [Conv.bytesToString, loadCells]
    all_goals rfl
  · obtain ⟨b, off, rfl, _, hc⟩ := h h0
    refine run_convert_bytes_back w 22 9 5 ⟨b, off, none⟩ cap l und22 und5 und9 fun j hj => ?_
    have e : (⟨b, off, none⟩ : Addr).add j = ⟨b, off + j, none⟩ := by unfold Addr.add; split <;> simp_all
    rw [e]
    exact hc j hj

/-- A literal's bytes. -/
theorem bs_lit (w : World) (l : List UInt8) (fr : Nat × Nat) (cs : Array Value) (hcs : cs = (l.map fun c => Value.int .u8 (c.toNat : Int)).toArray) :
    Bs (w.alloc (.cells cs 5 fr)) (w.alloc (.cells cs 5 fr)).heap.size (some ⟨w.heap.size, 0, none⟩) l := fun _ => by
  refine ⟨w.heap.size, 0, rfl, by simp, fun i hi => ?_⟩
  rw [cell_of_row _ w.heap.size _ _ 5 fr (heap_alloc_new w _), hcs]
  simp [hi]

end Go.Proofs.Ytobkljjbemfkeaa
