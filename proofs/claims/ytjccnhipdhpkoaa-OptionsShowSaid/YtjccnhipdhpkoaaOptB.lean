/- Options: the reference's In, Show, Bits. -/
import Derived.Test.YtjccnhipdhpkoaaOptA3
import Derived.Test.YtjccnhipdhpkoaaOptA5
namespace Go.Proofs.Ytjccnhipdhpkoaa.Opt
open Go.RowKit
set_option maxRecDepth 100000

theorem u8_eq (a b : UInt8) : ((a.toNat : Int) == (b.toNat : Int)) = decide (a = b) := by
  rw [Bool.eq_iff_iff]; simp only [beq_iff_eq, decide_eq_true_eq]
  constructor
  · intro h; apply UInt8.toNat_inj.1; omega
  · rintro rfl; rfl
/-- Is a byte one of a text? -/
def has (l : Tx) (c : UInt8) : Bool := l.contains c
theorem has_snoc (a : Tx) (d c : UInt8) : has (a ++ [d]) c = (has a c || decide (d = c)) := by
  unfold has
  rw [Bool.eq_iff_iff]
  simp only [List.contains_iff_mem, List.mem_append, List.mem_singleton, Bool.or_eq_true, decide_eq_true_eq]
  exact or_congr Iff.rfl eq_comm
theorem has_take (l : Tx) (k : Nat) (c : UInt8) (h : k < l.length) : has (l.take (k + 1)) c = (has (l.take k) c || decide (l[k] = c)) := by
  rw [take_snoc l k h, has_snoc]
theorem has_get (l : Tx) (k : Nat) (c : UInt8) (h : k < l.length) (hc : l[k] = c) : has l c = true := by
  unfold has
  rw [List.contains_iff_mem, ← hc]; exact List.getElem_mem h

set_option maxHeartbeats 1000000 in
theorem rin_any (l : Tx) (c : UInt8) (w : World) (hl : l.length ≤ 1000000000) :
    Calls Try.prog 21 #[.string (str l), .int .u8 (c.toNat : Int)] w fun e w' => e = .returned (.bool (has l c)) ∧ w' = w := by
  have hz := str_size l
  go_enter Try.func21, Try.ntmps21
  go_wp2
  go_loop [5] (fun i => ∃ k : Nat, k ≤ l.length ∧ i = .int .i64 k ∧ has (l.take k) c = false) (fun i => l.length - (intOf i).toNat)
  case atStart => exact ⟨0, Nat.zero_le _, rfl, rfl⟩
  case round =>
    obtain ⟨k, hk, rfl, hn⟩ := hrel
    have HN := Lib.hid hn
    clear hn
    by_cases hlt : k < l.length
    · have hix := str_at l k hlt
      have HS := Lib.hid (has_take l k c hlt)
      by_cases hc : l[k] = c
      · have ht : ((l[k].toNat : Int) == (c.toNat : Int)) = true := by rw [u8_eq]; exact decide_eq_true hc
        have HA := Lib.hid (has_get l k c hlt hc)
        clear hc
        go_wp2
        go_ret
        rw [HA.out]
        exact ⟨rfl, rfl⟩
      · have ht : ((l[k].toNat : Int) == (c.toNat : Int)) = false := by rw [u8_eq]; exact decide_eq_false hc
        have HC := Lib.hid hc
        clear hc
        go_wp2
        go_round
        case rel => exact ⟨k + 1, by omega, by go_num, by rw [HS.out, HN.out, decide_eq_false HC.out]; rfl⟩
        case measure => simp [intOf]; omega
    · go_wp2
      go_ret
      have e : l.take k = l := List.take_of_length_le (by omega)
      have := HN.out
      rw [e] at this
      rw [this]
      exact ⟨rfl, rfl⟩

set_option maxHeartbeats 1000000 in
theorem rbits_any (x : Nat) (l : List Bool) (h7 : l.length = 7) (w : World) (hb : Bb w x l) :
    Calls Try.prog 15 #[.slice (some ⟨x, 0, none⟩) 7 7] w fun e w' => e = .returned (.int .i64 (bitsO l : Nat)) ∧ w' = w := by
  go_enter Try.func15, Try.ntmps15
  go_wp2
  go_loopg [3, 4, 5] 7 (fun gf s3 s4 s5 wx => ∃ k : Nat, k + gf = 7 ∧ s3 = .int .i64 (bitsO (l.take k) : Nat) ∧ s4 = .int .i64 ((2 ^ k : Nat) : Int) ∧ s5 = .int .i64 k ∧ wx = w)
  case atStart => exact ⟨0, rfl, rfl, rfl, rfl, rfl⟩
  case round =>
    obtain ⟨k, hk, rfl, rfl, rfl, rfl⟩ := hrel
    cases gk with
    | succ gf =>
      have hlt : k < 7 := by omega
      have hli : (k : Int) < 7 := by omega
      obtain ⟨b, hb1⟩ : ∃ b, l[k]? = some b := ⟨_, List.getElem?_eq_getElem (by omega)⟩
      have hcl := hb.cell hb1
      have HBT := Lib.hid (bitsO_take hb1)
      have hlt2 := bitsO_take_lt l k h7 (by omega)
      have hp6 : 2 ^ k ≤ 64 := Nat.le_trans (Nat.pow_le_pow_right (by decide) (show k ≤ 6 by omega)) (by decide)
      obtain ⟨P, hP⟩ : ∃ P, 2 ^ k = P := ⟨_, rfl⟩
      have HP := Lib.hid (show 2 ^ (k + 1) = P * 2 by rw [Nat.pow_succ, hP])
      rw [hP] at hlt2 hp6 HBT ⊢
      obtain ⟨M, hM⟩ : ∃ M, bitsO (l.take k) = M := ⟨_, rfl⟩
      rw [hM] at hlt2 HBT ⊢
      clear hM hP hb1
      have HPP := Lib.hid hp6
      cases b
      · go_wp2
        go_roundg gf
        case rel => exact ⟨k + 1, by omega, by rw [HBT.out]; simp, by rw [HP.out]; simp, by go_num, rfl⟩
        case measure => omega
      · go_wp2
        go_roundg gf
        case rel => exact ⟨k + 1, by omega, by rw [HBT.out]; simp, by rw [HP.out]; simp, by go_num, rfl⟩
        case measure => omega
    | zero =>
      obtain rfl : k = 7 := by omega
      rw [List.take_of_length_le (by omega)]
      go_wp2
      go_ret
      exact ⟨rfl, rfl⟩
/-- The letters that are asked for, of the first k. -/
def textTo (l : List Bool) (k : Nat) : Tx := (List.range k).filterMap fun j => if l.getD j false then letters[j]? else none
theorem textTo_next {l : List Bool} {k : Nat} {b : Bool} {c : UInt8} (h : l[k]? = some b) (hc : letters[k]? = some c) : textTo l (k + 1) = textTo l k ++ (if b then [c] else []) := by
  unfold textTo
  rw [List.range_succ, List.filterMap_append]
  congr 1
  have : l.getD k false = b := by simp [List.getD, h]
  cases b <;> simp only [List.filterMap_cons, List.filterMap_nil, this, hc] <;> rfl
theorem textTo_len (l : List Bool) (k : Nat) : (textTo l k).length ≤ k := by
  have := List.length_filterMap_le (fun j => if l.getD j false then letters[j]? else none) (List.range k)
  rw [List.length_range] at this
  exact this
theorem text_show : ∀ a b c d e f g : Bool, showO [a, b, c, d, e, f, g] = if textTo [a, b, c, d, e, f, g] 7 = [] then [] else 45 :: textTo [a, b, c, d, e, f, g] 7 := by decide +kernel
theorem str_add (a b : Tx) : str a ++ str b = str (a ++ b) := by
  apply ByteArray.ext
  simp [str]
theorem str_empty (l : Tx) : (str l).toList.isEmpty = l.isEmpty := by rw [str_list]

theorem slice_one (s : Tx) (k : Nat) (c : UInt8) (h : s[k]? = some c) (w : World) : (Instr.slice 9 (.string (str s)) (some (.int .i64 (k : Int))) (some (.int .i64 ((k : Int) + 1))) none).run Try.prog w = .ok (.string (str [c])) w := by
  have hlt := (List.getElem?_eq_some_iff.1 h).1
  have hz := str_size s
  rw [run_slice_string (P := Try.prog) w 9 (str s) .i64 .i64 (k : Int) ((k : Int) + 1) und9 (by omega) (by omega) (by rw [hz]; omega)]
  congr 2
  rw [show ((k : Int) + 1).toNat = k + 1 by omega, Int.toNat_natCast, str_extract, List.take_add_one, h, List.drop_append]
  rw [show (s.take k).length = k by rw [List.length_take]; omega]
  simp

set_option maxHeartbeats 1000000 in
theorem rshow_any (x : Nat) (a b c d e f g : Bool) (w : World) (hb : Bb w x [a, b, c, d, e, f, g]) :
    Calls Try.prog 13 #[.slice (some ⟨x, 0, none⟩) 7 7] w fun r w' => r = .returned (.string (str (showO [a, b, c, d, e, f, g]))) ∧ w' = w := by
  have HT := Lib.hid (text_show a b c d e f g)
  obtain ⟨l, hl⟩ : ∃ l, l = [a, b, c, d, e, f, g] := ⟨_, rfl⟩
  have h7 : l.length = 7 := by rw [hl]; rfl
  rw [← hl] at HT hb ⊢
  clear hl
  go_enter Try.func13, Try.ntmps13
  go_wp2
  go_loopg [4, 5] 7 (fun gf s4 s5 wx => ∃ k : Nat, k + gf = 7 ∧ s4 = .string (str (textTo l k)) ∧ s5 = .int .i64 k ∧ wx = w)
  case atStart => exact ⟨0, rfl, rfl, rfl, rfl⟩
  case round =>
    obtain ⟨k, hk, rfl, rfl, rfl⟩ := hrel
    cases gk with
    | succ gf =>
      have hlt : k < 7 := by omega
      have hli : (k : Int) < 7 := by omega
      obtain ⟨b1, hb1⟩ : ∃ b1, l[k]? = some b1 := ⟨_, List.getElem?_eq_getElem (by omega)⟩
      obtain ⟨c1, hc1⟩ : ∃ c1, letters[k]? = some c1 := ⟨_, List.getElem?_eq_getElem hlt⟩
      have hcl := hb.cell hb1
      have HTN := Lib.hid (textTo_next hb1 hc1)
      have hz := str_size (textTo l k)
      have hz2 := textTo_len l k
      have hsl : ∀ W, (Instr.slice 9 (.string LIT) (some (.int .i64 (k : Int))) (some (.int .i64 ((k : Int) + 1))) none).run Try.prog W = .ok (.string (str [c1])) W := fun W => slice_one letters k c1 hc1 W
      have hz1 : (str [c1]).size = 1 := str_size _
      have HA := Lib.hid (str_add (textTo l k) [c1])
      clear hb1 hc1
      cases b1
      · go_wp2
        go_roundg gf
        case rel => exact ⟨k + 1, by omega, by rw [HTN.out]; simp, by go_num, rfl⟩
        case measure => omega
      · go_wp2
        go_roundg gf
        case rel => exact ⟨k + 1, by omega, by rw [HTN.out]; exact congrArg Value.string HA.out, by go_num, rfl⟩
        case measure => omega
    | zero =>
      obtain rfl : k = 7 := by omega
      have he := str_empty (textTo l 7)
      have hz := str_size (textTo l 7)
      have hz2 := textTo_len l 7
      have HA := Lib.hid (str_add [45] (textTo l 7))
      cases ht : textTo l 7 with
      | nil =>
        rw [ht] at he HT
        go_wp2
        go_ret
        exact ⟨by rw [HT.out]; rfl, rfl⟩
      | cons d r =>
        rw [ht] at he hz hz2 HT HA
        have he2 : (str (d :: r)).toList.isEmpty = false := by rw [he]; rfl
        clear he ht
        simp only [List.length_cons] at hz2
        go_wp2
        go_ret
        refine ⟨?_, rfl⟩
        rw [HT.out, if_neg (by simp)]
        exact congrArg (fun b => Ending.returned (.string b)) HA.out
end Go.Proofs.Ytjccnhipdhpkoaa.Opt
