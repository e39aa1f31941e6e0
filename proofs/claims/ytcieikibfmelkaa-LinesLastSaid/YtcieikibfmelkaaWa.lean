/- Slices of bytes; contracts of lines.newlines, Count, Bare, the reference's Bare, bytes.IndexByte, bytes.Clone. -/
import Derived.Test.YtcieikibfmelkaaRows
import Derived.Test.YtcieikibfmelkaaText
import Derived.WalkKit
import Derived.ProofKit
import Derived.WalkLawsBesides
import Derived.Outline
import Derived.Deep.QuietTactic
import Derived.BigQuiet
import Derived.Deep.RegionWith
import Derived.Below
import Derived.Lib.Hide
import Derived.LoopTactic
import Derived.Laws.MakeOwn
import Derived.OwnWalk
import Derived.Laws.IdiomStrings
import Derived.Lib.SlBytesConst
import Derived.Lib.BytesEntry
import Derived.Laws.Externs
import Derived.Shelf.Slices.Clone
namespace Go.Proofs.Ytcieikibfmelkaa
open Go.RowKit

theorem ret_int {k : IntKind} {a b : Int} (h : a = b) : Ending.returned (.int k a) = .returned (.int k b) := by rw [h]
theorem ret_bool {a b : Bool} (h : a = b) : Ending.returned (.bool a) = .returned (.bool b) := by rw [h]
theorem below_drews {B : Nat} {a w : World} (h : Below B a w) (n : Nat) : Below B a (w.drewN n) := ⟨h.os, h.tape, h.output, h.size, h.block⟩

/-- A slice of bytes that reads as l, below block B. -/
def Bs (w : World) (B : Nat) (a : Option Addr) (l : List UInt8) : Prop :=
  0 < l.length → ∃ b off, a = some ⟨b, off, none⟩ ∧ b < B ∧ ∀ i (h : i < l.length), w.cell? ⟨b, off + i, none⟩ = some (.int .u8 (l[i].toNat : Int))
theorem Bs.keep {w w' : World} {B : Nat} {a : Option Addr} {l : List UInt8} (h : Bs w B a l) (hb : Below B w w') : Bs w' B a l := fun h0 => by
  obtain ⟨b, off, e, hlt, hc⟩ := h h0
  exact ⟨b, off, e, hlt, fun i hi => (hb.cell (p := ⟨b, off + i, none⟩) hlt).trans (hc i hi)⟩
theorem Bs.more {w : World} {B B' : Nat} {a : Option Addr} {l : List UInt8} (h : Bs w B a l) (hB : B ≤ B') : Bs w B' a l := fun h0 => by
  obtain ⟨b, off, e, hlt, hc⟩ := h h0
  exact ⟨b, off, e, by omega, hc⟩
theorem bs_nil (w : World) (B : Nat) (a : Option Addr) : Bs w B a [] := fun h => absurd h (by simp)

theorem und22 : Try.prog.underlying 22 = some (.slice 5) := by kernel_rfl
theorem und5 : Try.prog.underlying 5 = some (.int .u8) := by kernel_rfl
theorem und9 : Try.prog.underlying 9 = some .string := by kernel_rfl
theorem info5 : (Try.prog.info? 5).map (fun i => (i.zero, i.size, i.bytes)) = some (some (.int .u8 0), 1, 1) := by kernel_rfl

theorem take_snoc (l : List UInt8) (k : Nat) (h : k < l.length) : l.take (k + 1) = l.take k ++ [l[k]] := by
  rw [List.take_succ_eq_append_getElem h]
theorem u8_ten (c : UInt8) : ((c.toNat : Int) == 10) = decide (c = 10) := by
  rw [Bool.eq_iff_iff]; simp only [beq_iff_eq, decide_eq_true_eq]
  constructor
  · intro h; apply UInt8.toNat_inj.1; show c.toNat = 10; omega
  · rintro rfl; rfl
theorem u8_ne_ten (c : UInt8) : ((c.toNat : Int) != 10) = decide (c ≠ 10) := by
  rw [bne, u8_ten]; simp

set_option maxHeartbeats 1000000 in
theorem newlines_any (l : List UInt8) (a : Option Addr) (cap : Nat) (w : World) (hl : l.length ≤ 1000000000000) (hb : Bs w w.heap.size a l) :
    Calls Try.prog 18 #[.slice a l.length cap] w fun e w' => e = .returned (.int .i64 (nls l)) ∧ w = w' := by
  go_enter Try.func18, Try.ntmps18
  go_wp2
  go_loop [3, 8] (fun n i => ∃ k : Nat, k ≤ l.length ∧ i = .int .i64 k ∧ n = .int .i64 (nls (l.take k))) (fun _ i => l.length - (intOf i).toNat)
  case atStart => exact ⟨0, Nat.zero_le _, rfl, rfl⟩
  case round =>
    obtain ⟨k, hk, rfl, rfl⟩ := hrel
    have hn : nls (l.take k) ≤ k := Nat.le_trans (nls_le _) (List.length_take_le _ _)
    by_cases hlt : k < l.length
    · obtain ⟨b, off, rfl, hbl, hc⟩ := hb (by omega)
      have hck := hc k hlt
      have HC := Lib.hid hc
      clear hc
      have HS := Lib.hid (nls_snoc l k hlt)
      by_cases h10 : l[k] = 10
      · have ht : ((l[k].toNat : Int) == 10) = true := by rw [u8_ten]; simp [h10]
        have H10 := Lib.hid h10
        clear h10
        go_wp2
        go_round
        case rel => exact ⟨k + 1, by omega, by go_num, by rw [HS.out, if_pos H10.out]; go_num⟩
        case measure => simp [intOf]; omega
      · have ht : ((l[k].toNat : Int) == 10) = false := by rw [u8_ten]; simp [h10]
        have H10 := Lib.hid h10
        clear h10
        go_wp2
        go_round
        case rel => exact ⟨k + 1, by omega, by go_num, by rw [HS.out, if_neg H10.out]; rfl⟩
        case measure => simp [intOf]; omega
    · go_wp2
      go_ret
      exact ⟨ret_int (by rw [List.take_of_length_le (by omega)]), rfl⟩

theorem openB_last (l : List UInt8) (h : 0 < l.length) : openB l = decide (l[l.length - 1]'(by omega) ≠ 10) := by
  unfold openB
  rw [List.getLast?_eq_getElem?, List.getElem?_eq_getElem (by omega)]
  simp only []
  rw [Bool.eq_iff_iff]; simp
theorem openB_zero (l : List UInt8) (h : l.length = 0) : openB l = false := by
  obtain rfl := List.eq_nil_of_length_eq_zero h; rfl

set_option maxHeartbeats 1000000 in
theorem count_any (l : List UInt8) (a : Option Addr) (cap : Nat) (w : World) (hl : l.length ≤ 1000000000000) (hb : Bs w w.heap.size a l) :
    Calls Try.prog 12 #[.slice a l.length cap] w fun e w' => e = .returned (.int .i64 ((linesOf l).length : Nat)) ∧ w = w' := by
  have hn := nls_le l
  have HL := Lib.hid (lines_length l)
  rcases Nat.eq_zero_or_pos l.length with h0 | h0
  · have hd : decide (0 < (l.length : Int)) = false := decide_eq_false (by omega)
    have hd' : decide (0 < l.length) = false := decide_eq_false (by omega)
    have HO := Lib.hid (openB_zero l h0)
    have H0 := Lib.hid h0
    clear h0
    go_enter Try.func12, Try.ntmps12
    go_wp2_with (go_at_call 18; refine (newlines_any l a cap _ hl hb).mono ?_; rintro e w' ⟨rfl, rfl⟩)
    all_goals first
      | (exfalso; have := H0.out; omega)
      | (go_ret
         exact ⟨ret_int (by rw [HL.out, HO.out]; simp), rfl⟩)
  · have HO := Lib.hid (openB_last l h0)
    obtain ⟨b, off, rfl, hbl, hc⟩ := hb h0
    have hck := hc (l.length - 1) (by omega)
    have hcb : Bs w w.heap.size (some ⟨b, off, none⟩) l := hb
    have HC := Lib.hid hc
    have HB := Lib.hid hb
    clear hc hb hcb
    have hx : (l.length : Int) - 1 = ((l.length - 1 : Nat) : Int) := by omega
    have hq : ((l.length : Int) - 1).toNat = l.length - 1 := by omega
    by_cases h10 : l[l.length - 1] = 10
    · have ht : ((l[l.length - 1].toNat : Int) != 10) = false := by rw [u8_ne_ten]; simp [h10]
      have hz : openB l = false := by rw [HO.out]; simp [h10]
      have HZ := Lib.hid hz
      clear hz h10
      go_enter Try.func12, Try.ntmps12
      go_wp2_with (go_at_call 18; refine (newlines_any l _ cap _ hl HB.out).mono ?_; rintro e w' ⟨rfl, rfl⟩)
      all_goals
        go_ret
        exact ⟨ret_int (by rw [HL.out, HZ.out]; simp), rfl⟩
    · have ht : ((l[l.length - 1].toNat : Int) != 10) = true := by rw [u8_ne_ten]; simp [h10]
      have hz : openB l = true := by rw [HO.out]; simp [h10]
      have HZ := Lib.hid hz
      clear hz h10
      go_enter Try.func12, Try.ntmps12
      go_wp2_with (go_at_call 18; refine (newlines_any l _ cap _ hl HB.out).mono ?_; rintro e w' ⟨rfl, rfl⟩)
      all_goals
        go_ret
        exact ⟨ret_int (by rw [HL.out, HZ.out]; simp), rfl⟩
end Go.Proofs.Ytcieikibfmelkaa
