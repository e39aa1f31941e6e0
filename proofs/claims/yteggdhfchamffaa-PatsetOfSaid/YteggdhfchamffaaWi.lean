/- The contract of the reference's Split. -/
import Derived.Test.YteggdhfchamffaaBase
import Derived.Test.YteggdhfchamffaaText
import Derived.Maps.AppendAt
namespace Go.Proofs.Yteggdhfchamffaa
open Go.RowKit

def rcells (x : Ln) : List Value := [.int .i64 (x.off : Int), .string (str x.text), .bool x.ends]
def GivesRef (w : World) (ls : List Ln) (e : Ending) (w' : World) : Prop :=
  ∃ v, e = .returned v ∧ w'.ownsRow w.heap.size 54 3 v ls.length (ls.flatMap rcells) ∧ Below w.heap.size w w'
theorem info33 : (Try.prog.info? 54).map (fun i => (i.zero, i.size, i.bytes)) = some (some (.agg #[.int .i64 0, .string ByteArray.empty, .bool false]), 3, 32) := by kernel_rfl

/-- The bytes between two places. -/
def mid (t : List UInt8) (i j : Nat) : List UInt8 := (t.take j).drop i
theorem mid_len (t : List UInt8) (i j : Nat) (h : j ≤ t.length) : (mid t i j).length = j - i := by simp [mid]; omega
theorem mid_self (t : List UInt8) (i : Nat) : mid t i i = [] := by
  unfold mid
  exact List.drop_of_length_le (by simp; omega)
theorem mid_snoc (t : List UInt8) (i k : Nat) (hi : i ≤ k) (h : k < t.length) : mid t i (k + 1) = mid t i k ++ [t[k]] := by
  unfold mid
  rw [List.take_succ_eq_append_getElem h, List.drop_append_of_le_length (by simp; omega)]
theorem goes_step10 (t : List UInt8) (i k : Nat) (hi : i ≤ k) (h : k < t.length) (h10 : t[k] = 10) :
    goes i (mid t i k) (t.drop k) = ⟨i, mid t i k, true⟩ :: goes (k + 1) (mid t (k + 1) (k + 1)) (t.drop (k + 1)) := by
  rw [List.drop_eq_getElem_cons h, h10, goes_newline, mid_len t i k (by omega), mid_self]
  have e : i + (k - i) + 1 = k + 1 := by omega
  rw [e]
theorem goes_step (t : List UInt8) (i k : Nat) (hi : i ≤ k) (h : k < t.length) (h10 : t[k] ≠ 10) :
    goes i (mid t i k) (t.drop k) = goes i (mid t i (k + 1)) (t.drop (k + 1)) := by
  rw [List.drop_eq_getElem_cons h, goes_byte _ _ _ _ h10, mid_snoc t i k hi h]
theorem extract_mid (t : List UInt8) (i j : Nat) : (str t).extract i j = str (mid t i j) := by
  apply ByteArray.ext
  simp [str, mid, List.drop_take]

set_option maxRecDepth 100000 in
set_option maxHeartbeats 4000000 in
theorem rsplit_any (t : List UInt8) (w : World) (ht : t.length ≤ 1000000000) :
    Calls Try.prog 24 #[.string (str t)] w (GivesRef w (linesOf t)) := by
  obtain ⟨i0, hi, hz0, hz1, hz2⟩ := info_parts info33
  have hz := str_size t
  go_enter Try.func24, Try.ntmps24
  go_wp2
  go_loopw [3, 4, 5] (fun v f i wr => ∃ (k from_ : Nat) (ls : List Ln), k ≤ t.length ∧ from_ ≤ k ∧ i = .int .i64 k ∧ f = .int .i64 from_ ∧ ls.length ≤ k ∧ linesOf t = ls ++ goes from_ (mid t from_ k) (t.drop k) ∧
      wr.ownsRow w.heap.size 54 3 v ls.length (ls.flatMap rcells) ∧ Below w.heap.size w wr)
    (fun _ _ i _ => t.length - (intOf i).toNat)
  case atStart => exact ⟨0, 0, [], Nat.zero_le _, Nat.le_refl _, rfl, rfl, Nat.le_refl _, by simp [linesOf, mid], World.ownsRow_nil _ _ _ _, Below.refl _ _⟩
  case round =>
    obtain ⟨k, f, ls, hk, hf, rfl, rfl, hls, hlin, hown, hbel⟩ := hrel
    have HLIN := Lib.hid hlin
    clear hlin
    have hsz := hbel.size
    by_cases hlt : k < t.length
    · have hix := str_at t k hlt
      by_cases h10 : t[k] = 10
      · have htt : ((t[k].toNat : Int) == 10) = true := by rw [u8_ten]; simp [h10]
        have HST := Lib.hid (goes_step10 t f k hf hlt h10)
        have H10 := Lib.hid h10
        clear h10
        have hem := extract_mid t f k
        have ht10 : f ≤ k := hf
        go_wp2_with (at_builtin; refine wpList_append_own _ rfl (.tmp 16) (.tmp 23) 51 rfl w.heap.size 54 i0 (.agg #[.int .i64 0, .string ByteArray.empty, .bool false]) 3 32 Try.underlying51 hi hz0 hz1 hz2 rfl (by decide) _ ls.length (ls.flatMap rcells) rfl (hown.alloc _) ⟨wr.heap.size, 0, none⟩ 1 1 (rcells ⟨f, mid t f k, true⟩) rfl rfl (cells_new3 _ _ _ _ _) (by simp [rcells, Value.oneCell']) (by unfold maxLen; omega) (by omega) (by simp; omega) ?_; intro v2 w2 hown2 hg2 _)
        go_roundw
        case rel =>
          refine ⟨k + 1, k + 1, ls ++ [⟨f, mid t f k, true⟩], by omega, Nat.le_refl _, by go_num, by go_num, by simp; omega, ?_, ?_, ?_⟩
          · rw [HLIN.out, HST.out]; simp
          · have e1 : (ls ++ [(⟨f, mid t f k, true⟩ : Ln)]).flatMap rcells = ls.flatMap rcells ++ rcells ⟨f, mid t f k, true⟩ := by simp
            have e2 : (ls ++ [(⟨f, mid t f k, true⟩ : Ln)]).length = ls.length + 1 := by simp
            rw [e1, e2]; exact hown2
          · exact (hbel.alloc hsz _).grown hg2 (by simp; omega) (fun q hq => (own_block_lt hown hq).1)
        case measure => simp [intOf]; omega
      · have htt : ((t[k].toNat : Int) == 10) = false := by rw [u8_ten]; simp [h10]
        have HST := Lib.hid (goes_step t f k hf hlt h10)
        clear h10
        go_wp2
        go_roundw
        case rel => exact ⟨k + 1, f, ls, by omega, by omega, by go_num, rfl, by omega, by rw [HLIN.out, HST.out], hown, hbel⟩
        case measure => simp [intOf]; omega
    · have hkt : k = t.length := by omega
      have hdr : goes f (mid t f k) (t.drop k) = goes f (mid t f t.length) [] := by rw [List.drop_of_length_le (by omega), hkt]
      have HDR := Lib.hid hdr
      have hml := mid_len t f t.length (Nat.le_refl _)
      have HML := Lib.hid hml
      clear hdr hml hkt
      by_cases hft : f < t.length
      · have HO : Hid (goes f (mid t f t.length) [] = [⟨f, mid t f t.length, false⟩]) := Lib.hid (goes_open _ _ (fun e => by have h := HML.out; rw [e] at h; simp at h; omega))
        have hem := extract_mid t f t.length
        go_wp2_with (at_builtin; refine wpList_append_own _ rfl (.tmp 31) (.tmp 37) 51 rfl w.heap.size 54 i0 (.agg #[.int .i64 0, .string ByteArray.empty, .bool false]) 3 32 Try.underlying51 hi hz0 hz1 hz2 rfl (by decide) _ ls.length (ls.flatMap rcells) rfl (hown.alloc _) ⟨wr.heap.size, 0, none⟩ 1 1 (rcells ⟨f, mid t f t.length, false⟩) rfl rfl (cells_new3 _ _ _ _ _) (by simp [rcells, Value.oneCell']) (by unfold maxLen; omega) (by omega) (by simp; omega) ?_; intro v2 w2 hown2 hg2 _)
        go_ret
        refine ⟨v2, rfl, ?_, (hbel.alloc hsz _).grown hg2 (by simp; omega) (fun q hq => (own_block_lt hown hq).1)⟩
        have e1 : linesOf t = ls ++ [(⟨f, mid t f t.length, false⟩ : Ln)] := by rw [HLIN.out, HDR.out, HO.out]
        have e2 : (ls ++ [(⟨f, mid t f t.length, false⟩ : Ln)]).flatMap rcells = ls.flatMap rcells ++ rcells ⟨f, mid t f t.length, false⟩ := by simp
        have e3 : (ls ++ [(⟨f, mid t f t.length, false⟩ : Ln)]).length = ls.length + 1 := by simp
        rw [e1, e2, e3]; exact hown2
      · go_wp2
        go_ret
        have e0 : mid t f t.length = [] := List.eq_nil_of_length_eq_zero (by rw [HML.out]; omega)
        have e1 : linesOf t = ls := by rw [HLIN.out, HDR.out, e0, goes_end, List.append_nil]
        rw [e1]
        exact ⟨_, rfl, hown, hbel⟩
end Go.Proofs.Yteggdhfchamffaa
