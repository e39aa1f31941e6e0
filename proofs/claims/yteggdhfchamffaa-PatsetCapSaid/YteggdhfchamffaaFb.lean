/- Bytes without case: the contracts of fold.Byte, fold.Bytes and of the reference's. -/
import Derived.Test.YteggdhfchamffaaBase
namespace Go.Proofs.Yteggdhfchamffaa
open Go.RowKit

/-- A byte without case. -/
def low (c : UInt8) : UInt8 := if 65 ≤ c.toNat ∧ c.toNat ≤ 90 then UInt8.ofNat (c.toNat + 32) else c
theorem low_nat (c : UInt8) : (low c).toNat = if 65 ≤ c.toNat ∧ c.toNat ≤ 90 then c.toNat + 32 else c.toNat := by
  unfold low
  split
  · rw [UInt8.toNat_ofNat']; omega
  · rfl
def lows (l : List UInt8) : List UInt8 := l.map low
theorem byte_any (c : UInt8) (w : World) :
    Calls Try.prog 33 #[.int .u8 c.toNat] w fun e w' => e = .returned (.int .u8 (low c).toNat) ∧ w = w' := by
  have hl := c.toNat_lt
  rw [low_nat]
  go_enter Try.func33, Try.ntmps33
  go_wp2
  all_goals (go_ret; exact ⟨rfl, rfl⟩)

/-- A block of bytes whose first k cells are those of l. -/
def RowTo (w : World) (g n k : Nat) (l : List UInt8) : Prop :=
  ∃ cs : Array Value, w.heap[g]? = some (.cells cs 5 (0, 0)) ∧ cs.size = n ∧ ∀ i, i < k → ∀ h : i < l.length, cs[i]? = some (.int .u8 (l[i].toNat : Int))
theorem RowTo.at_ {w : World} {g n k i : Nat} {l : List UInt8} (h : RowTo w g n k l) (hi : i < n) : (∃ v, w.cell? ⟨g, i, none⟩ = some v) ∧ w.frozen? ⟨g, i, none⟩ = false := by
  obtain ⟨cs, hh, hs, _⟩ := h
  refine ⟨⟨cs[i]'(by omega), ?_⟩, ?_⟩
  · rw [cell_of_row w g _ _ 5 (0, 0) hh]
    exact Array.getElem?_eq_getElem _
  · simp [World.frozen?, hh]
theorem RowTo.put {w : World} {g n k : Nat} {l : List UInt8} (h : RowTo w g n k l) (hk : k < l.length) (hn : k < n) : RowTo (w.setCell ⟨g, k, none⟩ (.int .u8 (l[k].toNat : Int))) g n (k + 1) l := by
  obtain ⟨cs, hh, hs, hc⟩ := h
  refine ⟨_, heap_set_same hh, by simpa using hs, fun i hi hl => ?_⟩
  by_cases e : i = k
  · subst e; rw [Array.getElem?_setIfInBounds_self_of_lt (by omega)]
  · rw [Array.getElem?_setIfInBounds_ne (by omega)]; exact hc i (by omega) hl
theorem RowTo.keep {w w' : World} {B g n k : Nat} {l : List UInt8} (h : RowTo w g n k l) (hb : Below B w w') (hg : g < B) : RowTo w' g n k l := by
  obtain ⟨cs, hh, hs, hc⟩ := h
  exact ⟨cs, (hb.block g hg).trans hh, hs, hc⟩
theorem RowTo.lt {w : World} {g n k : Nat} {l : List UInt8} (h : RowTo w g n k l) : g < w.heap.size := by
  obtain ⟨cs, hh, _⟩ := h
  rcases Nat.lt_or_ge g w.heap.size with hlt | hge
  · exact hlt
  · rw [Array.getElem?_eq_none hge] at hh; cases hh
theorem RowTo.txt {w : World} {s g n : Nat} {l : List UInt8} (h : RowTo w g n l.length l) (hs : s ≤ g) : Txt w s (some ⟨g, 0, none⟩) l := fun _ => by
  obtain ⟨cs, hh, _, hc⟩ := h
  exact ⟨g, cs, rfl, hs, hh, fun i hi => hc i hi hi⟩

set_option maxHeartbeats 4000000 in
theorem bytes_any (l : List UInt8) (a : Option Addr) (cap : Nat) (w : World) (hl : l.length ≤ 1000000000000) (hb : Bs w w.heap.size a l) :
    Calls Try.prog 29 #[.slice a l.length cap] w (GivesText w (lows l)) := by
  obtain ⟨i0, hi, hz0, hz1, hz2⟩ := info_parts info5
  have hmk := fun W : World => run_make (P := Try.prog) W 22 5 i0 (.int .u8 0) Try.underlying22 hi hz0 .i64 .i64 (l.length : Int) (l.length : Int) (by omega) (Int.le_refl _) (by rw [hz2]; omega) (by omega)
  simp only [Int.toNat_natCast, hz1, Nat.mul_one] at hmk
  have hlow : (lows l).length = l.length := by simp [lows]
  have HL := Lib.hid hlow
  clear hlow hi hz0 hz1 hz2
  go_enter Try.func29, Try.ntmps29
  go_wp2
  go_loopw [11] (fun i wr => ∃ k : Nat, k ≤ l.length ∧ i = .int .i64 k ∧ RowTo wr w.heap.size l.length k (lows l) ∧ Below w.heap.size w wr)
    (fun i _ => l.length - (intOf i).toNat)
  case atStart =>
    refine ⟨0, Nat.zero_le _, rfl, ⟨_, heap_alloc_new w _, size_madeCells _ _, fun i hi => absurd hi (by omega)⟩, (Below.refl _ _).alloc (Nat.le_refl _) _⟩
  case round =>
    obtain ⟨k, hk, rfl, hr, hbel⟩ := hrel
    by_cases hlt : k < l.length
    · obtain ⟨b, off, rfl, hbl, hc⟩ := hb (by omega)
      have hck : wr.cell? ⟨b, off + k, none⟩ = some (.int .u8 (l[k].toNat : Int)) := (hbel.cell (p := ⟨b, off + k, none⟩) hbl).trans (hc k hlt)
      obtain ⟨⟨v, hv⟩, hf⟩ := hr.at_ hlt
      have HC := Lib.hid hc
      clear hc
      go_wp2_with (go_at_call 33; refine (byte_any _ _).mono ?_; rintro e w1 ⟨rfl, rfl⟩)
      go_roundw
      case rel =>
        have hll := HL.out
        have e : (low l[k]).toNat = ((lows l)[k]'(by omega)).toNat := by simp [lows]
        refine ⟨k + 1, by omega, by go_num, ?_, ?_⟩
        · rw [e]; exact hr.put (by omega) hlt
        · exact hbel.setCell (Nat.le_refl _) _
      case measure => simp [intOf]; omega
    · have e : k = l.length := by omega
      go_wp2
      go_ret
      refine ⟨some ⟨w.heap.size, 0, none⟩, l.length, ?_, ?_, ?_, ?_, hbel⟩
      · rw [HL.out]; rfl
      · apply RowTo.txt (n := l.length) _ (Nat.le_refl _)
        rw [HL.out]; rw [e] at hr; exact hr
      · rw [HL.out]; omega
      · intro h; cases h

set_option maxHeartbeats 1000000 in
theorem rbyte_any (c : UInt8) (w : World) :
    Calls Try.prog 27 #[.int .u8 c.toNat] w fun e w' => e = .returned (.int .u8 (low c).toNat) ∧ w = w' := by
  have hl := c.toNat_lt
  rw [low_nat]
  go_enter Try.func27, Try.ntmps27
  go_wp2
  all_goals (go_ret; exact ⟨rfl, rfl⟩)

theorem str_list (l : List UInt8) : (str l).toList = l := by rw [ByteArray.toList_eq]; rfl
theorem str_add (a b : List UInt8) : str a ++ str b = str (a ++ b) := by
  apply ByteArray.ext
  simp [str]
theorem lows_snoc (l : List UInt8) (k : Nat) (h : k < l.length) : lows (l.take (k + 1)) = lows (l.take k) ++ [low l[k]] := by
  unfold lows
  rw [take_snoc l k h, List.map_append]
  rfl

set_option maxHeartbeats 1000000 in
theorem rbytes_any (l : List UInt8) (w : World) (hl : l.length ≤ 1000000000000) :
    Calls Try.prog 19 #[.string (str l)] w fun e w' => e = .returned (.string (str (lows l))) ∧ Below w.heap.size w w' := by
  have hz := str_size l
  go_enter Try.func19, Try.ntmps19
  go_wp2
  go_loopw [3, 4] (fun o i wr => ∃ k : Nat, k ≤ l.length ∧ i = .int .i64 k ∧ o = .string (str (lows (l.take k))) ∧ Below w.heap.size w wr)
    (fun _ i _ => l.length - (intOf i).toNat)
  case atStart => exact ⟨0, Nat.zero_le _, rfl, rfl, Below.refl _ _⟩
  case round =>
    obtain ⟨k, hk, rfl, rfl, hbel⟩ := hrel
    by_cases hlt : k < l.length
    · have hcv : (convert 22 9 (.slice (some ⟨wr.heap.size, 0, none⟩) 1 1)).run Try.prog (wr.alloc (.cells #[.int .u8 ((low l[k]).toNat : Int)] 5)) = .ok (.string (str [low l[k]])) (wr.alloc (.cells #[.int .u8 ((low l[k]).toNat : Int)] 5)) :=
        str_of_bs (l := [low l[k]]) 1 (bs_lit wr [low l[k]] (0, 0) _ rfl)
      have hix := str_at l k hlt
      have hs1 : (str [low l[k]]).size = 1 := str_size _
      have hs2 : (str (lows (l.take k))).size ≤ 1000000000000 := by rw [str_size]; simp [lows]; omega
      go_wp2_with (go_at_call 27; refine (rbyte_any _ _).mono ?_; rintro e w1 ⟨rfl, rfl⟩)
      go_roundw
      case rel => exact ⟨k + 1, by omega, by go_num, by rw [lows_snoc l k hlt, str_add], hbel.alloc hbel.size _⟩
      case measure => simp [intOf]; omega
    · go_wp2
      go_ret
      refine ⟨?_, hbel⟩
      rw [List.take_of_length_le (by omega)]
      rfl

end Go.Proofs.Yteggdhfchamffaa
