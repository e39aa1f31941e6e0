/- Contracts of the reference's Kids, and of the statements' own 'texts'. -/
import Derived.Test.YtcknipokplomcaaTg
namespace Go.Proofs.Ytcknipokplomcaa.Tri
open Go.RowKit Go.Maps

theorem conv_one (w : World) (c : UInt8) : (convert 44 9 (.slice (some ⟨w.heap.size, 0, none⟩) 1 1)).run Try.prog (w.alloc (.cells #[.int .u8 (c.toNat : Int)] 5)) = .ok (.string (str [c])) (w.alloc (.cells #[.int .u8 (c.toNat : Int)] 5)) :=
  str_of_bs (l := [c]) 1 (bs_lit w [c] (0, 0) #[.int .u8 (c.toNat : Int)] rfl)
theorem str_append (x y : Tx) : str x ++ str y = str (x ++ y) := by
  unfold str
  apply ByteArray.ext
  simp
/-- The bytes that lead on from a beginning, as the document tells them. -/
def rkids (ps : List Tx) (s : Tx) : List UInt8 := kidsTo (fun c => decide (0 ≤ place ps (s ++ [c]))) 256
set_option maxRecDepth 20000 in
set_option maxHeartbeats 1000000 in
theorem rkids_any (w : World) (ps : List Tx) (a : Option Addr) (cap : Nat) (hs : Ss w a ps) (hl : ps.length ≤ 1000000000) (s : Tx) (hsl : s.length ≤ 1000000) :
    Calls Try.prog 34 #[.slice a ps.length cap, .string (str s)] w fun e w' => e = .returned (.string (str (rkids ps s))) ∧ Below w.heap.size w w' := by
  have HS := Lib.hid hs
  unfold rkids
  obtain ⟨f, hf⟩ : ∃ f : UInt8 → Bool, f = fun c => decide (0 ≤ place ps (s ++ [c])) := ⟨_, rfl⟩
  rw [← hf]
  have HF : Hid (∀ c, f c = decide (0 ≤ place ps (s ++ [c]))) := Lib.hid (fun c => by rw [hf])
  clear hs hf
  obtain ⟨y, hy⟩ : ∃ y, y = kidsTo f 256 := ⟨_, rfl⟩
  rw [← hy]
  have HY := Lib.hid hy
  clear hy
  have hz0 := str_size s
  go_enter Try.func34, Try.ntmps34
  go_wp2
  go_loopw [5, 6] (fun v i wr => ∃ k : Nat, k ≤ 256 ∧ i = .int .i64 (k : Int) ∧ v = .string (str (kidsTo f k)) ∧ Below w.heap.size w wr) (fun _ i _ => 256 - (intOf i).toNat)
  case atStart => exact ⟨0, by omega, rfl, rfl, Below.refl _ _⟩
  case round =>
    obtain ⟨k, hk, rfl, rfl, hbel⟩ := hrel
    have hkl := kidsTo_len f k
    have hz1 := str_size (kidsTo f k)
    by_cases hlt : k < 256
    · have HE := Lib.hid (kidsTo_succ f k)
      have HFk := Lib.hid (HF.out (UInt8.ofNat k))
      have hcv := conv_one wr (UInt8.ofNat k)
      rw [ofNat_u8 k hlt] at hcv
      have hq : IntKind.u8.wrap (k : Int) = (k : Int) := by simp [IntKind.wrap, IntKind.bits, IntKind.signed]; omega
      have hap := str_append s [UInt8.ofNat k]
      have hz2 : (str [UInt8.ofNat k]).size = 1 := str_size _
      have hap2 := str_append (kidsTo f k) [UInt8.ofNat k]
      have hcv2 := conv_one (wr.alloc (.cells #[.int .u8 ((UInt8.ofNat k).toNat : Int)] 5)) (UInt8.ofNat k)
      rw [World.size_alloc, ofNat_u8 k hlt] at hcv2
      have hb1 : Below w.heap.size w (wr.alloc (.cells #[.int .u8 (k : Int)] 5)) := hbel.alloc hbel.size _
      have HPL := Lib.hid (place_any _ ps a cap (HS.out.keep hb1) hl (s ++ [UInt8.ofNat k]))
      have HB1 := Lib.hid hb1
      clear hb1 hbel
      by_cases hx : 0 ≤ place ps (s ++ [UInt8.ofNat k])
      · have HX := Lib.hid hx
        clear hx
        have hx2 := HX.out
        generalize hy : place ps (s ++ [UInt8.ofNat k]) = y at hx2 HPL
        clear hy
        go_wp2_with (go_at_call 31; (with_reducible refine HPL.out.mono ?_); rintro e w2 ⟨rfl, rfl⟩)
        go_roundw
        case rel => exact ⟨k + 1, by omega, by go_num, by rw [HE.out, HFk.out, if_pos (decide_eq_true HX.out)], HB1.out.alloc HB1.out.size _⟩
        case measure => simp [intOf]; omega
      · have HX := Lib.hid hx
        clear hx
        have hx2 := HX.out
        generalize hy : place ps (s ++ [UInt8.ofNat k]) = y at hx2 HPL
        clear hy
        go_wp2_with (go_at_call 31; (with_reducible refine HPL.out.mono ?_); rintro e w2 ⟨rfl, rfl⟩)
        go_roundw
        case rel => exact ⟨k + 1, by omega, by go_num, by rw [HE.out, HFk.out, if_neg (fun e => by have h1 := of_decide_eq_true e; have h2 : place ps (s ++ [UInt8.ofNat k]) < 0 := HX.out; omega)], HB1.out⟩
        case measure => simp [intOf]; omega
    · have hke : k = 256 := by omega
      have HK : Hid (kidsTo f k = y) := Lib.hid (by rw [hke]; exact HY.out.symm)
      have hk2 : ¬ (k : Int) < 256 := by omega
      rw [HK.out]
      rw [HK.out] at hz1 hkl
      clear hke
      have HB := Lib.hid hbel
      clear hbel
      go_wp2
      go_ret
      exact ⟨rfl, HB.out⟩
def GivesL (w : World) (xs : List TxV) (e : Ending) (w' : World) : Prop :=
  Below w.heap.size w w' ∧ ((¬ ∀ x ∈ xs, x.text.length ≤ 40) ∧ e = .returned (.tuple #[.slice none 0 0, .bool false]) ∨
    (∀ x ∈ xs, x.text.length ≤ 40) ∧ ∃ a' cap', e = .returned (.tuple #[.slice a' xs.length cap', .bool (decide (xs.length ≤ 12))]) ∧ Ss w' a' (xs.map TxV.text))
theorem takes_snoc {α : Type} (l : List α) (k : Nat) (h : k < l.length) : l.take (k + 1) = l.take k ++ [l[k]] := List.take_succ_eq_append_getElem h
theorem map_at (xs : List TxV) (k : Nat) (h : k < xs.length) : (xs.map TxV.text)[k]'(by simpa using h) = xs[k].text := by simp
end Go.Proofs.Ytcknipokplomcaa.Tri
