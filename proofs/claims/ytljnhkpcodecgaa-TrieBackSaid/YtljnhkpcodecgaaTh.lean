/- Contracts of the reference's Kids, and of the statements' own 'texts'. -/
import Derived.Test.YtljnhkpcodecgaaTg
namespace Go.Proofs.Ytljnhkpcodecgaa.Tri
open Go.RowKit Go.Maps

theorem conv_one (w : World) (c : UInt8) : (convert 32 9 (.slice (some ⟨w.heap.size, 0, none⟩) 1 1)).run Try.prog (w.alloc (.cells #[.int .u8 (c.toNat : Int)] 5)) = .ok (.string (str [c])) (w.alloc (.cells #[.int .u8 (c.toNat : Int)] 5)) :=
  str_of_bs (l := [c]) 1 (bs_lit w [c] (0, 0) #[.int .u8 (c.toNat : Int)] rfl)
theorem str_append (x y : Tx) : str x ++ str y = str (x ++ y) := by
  unfold str
  apply ByteArray.ext
  simp
/-- The bytes that lead on from a beginning, as the document tells them. -/
def rkids (ps : List Tx) (s : Tx) : List UInt8 := kidsTo (fun c => decide (0 ≤ place ps (s ++ [c]))) 256
set_option maxRecDepth 20000 in
set_option maxHeartbeats 1000000 in
theorem rkids_any (w : World) (ps : List Tx) (a : Option Addr) (cap : Nat) (hs : Ss w a ps) (hl : ps.length ≤ 1000000000) (s : Tx) (hsl : s.length ≤ 1000000) :
    Calls Try.prog 20 #[.slice a ps.length cap, .string (str s)] w fun e w' => e = .returned (.string (str (rkids ps s))) ∧ Below w.heap.size w w' := by
  have HS := Lib.hid hs
  unfold rkids
  obtain ⟨f, hf⟩ : ∃ f : UInt8 → Bool, f = fun c => decide (0 ≤ place ps (s ++ [c])) := ⟨_, rfl⟩
  rw [← hf]
  have HF : Hid (∀ c, f c = decide (0 ≤ place ps (s ++ [c]))) := Lib.hid (fun c => by rw [hf])
  clear hs hf
  obtain ⟨y, hy⟩ : ∃ y, y = kidsTo f 256 := ⟨_, rfl⟩
  rw [← hy]
  have HY := Lib.hid hy
  clear hy
  have hz0 := str_size s
  go_enter Try.func20, Try.ntmps20
  go_wp2
  go_loopw [5, 6] (fun v i wr => ∃ k : Nat, k ≤ 256 ∧ i = .int .i64 (k : Int) ∧ v = .string (str (kidsTo f k)) ∧ Below w.heap.size w wr) (fun _ i _ => 256 - (intOf i).toNat)
  case atStart => exact ⟨0, by omega, rfl, rfl, Below.refl _ _⟩
  case round =>
    obtain ⟨k, hk, rfl, rfl, hbel⟩ := hrel
    have hkl := kidsTo_len f k
    have hz1 := str_size (kidsTo f k)
    by_cases hlt : k < 256
    · have HE := Lib.hid (kidsTo_succ f k)
      have HFk := Lib.hid (HF.out (UInt8.ofNat k))
      have hcv := conv_one wr (UInt8.ofNat k)
      rw [ofNat_u8 k hlt] at hcv
      have hq : IntKind.u8.wrap (k : Int) = (k : Int) := by simp [IntKind.wrap, IntKind.bits, IntKind.signed]; omega
      have hap := str_append s [UInt8.ofNat k]
      have hz2 : (str [UInt8.ofNat k]).size = 1 := str_size _
      have hap2 := str_append (kidsTo f k) [UInt8.ofNat k]
      have hcv2 := conv_one (wr.alloc (.cells #[.int .u8 ((UInt8.ofNat k).toNat : Int)] 5)) (UInt8.ofNat k)
      rw [World.size_alloc, ofNat_u8 k hlt] at hcv2
      have hb1 : Below w.heap.size w (wr.alloc (.cells #[.int .u8 (k : Int)] 5)) := hbel.alloc hbel.size _
      have HPL := Lib.hid (place_any _ ps a cap (HS.out.keep hb1) hl (s ++ [UInt8.ofNat k]))
      have HB1 := Lib.hid hb1
      clear hb1 hbel
      by_cases hx : 0 ≤ place ps (s ++ [UInt8.ofNat k])
      · have HX := Lib.hid hx
        clear hx
        have hx2 := HX.out
        generalize hy : place ps (s ++ [UInt8.ofNat k]) = y at hx2 HPL
        clear hy
        go_wp2_with (go_at_call 14; (with_reducible refine HPL.out.mono ?_); rintro e w2 ⟨rfl, rfl⟩)
        go_roundw
        case rel => exact ⟨k + 1, by omega, by go_num, by rw [HE.out, HFk.out, if_pos (decide_eq_true HX.out)], HB1.out.alloc HB1.out.size _⟩
        case measure => simp [intOf]; omega
      · have HX := Lib.hid hx
        clear hx
        have hx2 := HX.out
        generalize hy : place ps (s ++ [UInt8.ofNat k]) = y at hx2 HPL
        clear hy
        go_wp2_with (go_at_call 14; (with_reducible refine HPL.out.mono ?_); rintro e w2 ⟨rfl, rfl⟩)
        go_roundw
        case rel => exact ⟨k + 1, by omega, by go_num, by rw [HE.out, HFk.out, if_neg (fun e => by have h1 := of_decide_eq_true e; have h2 : place ps (s ++ [UInt8.ofNat k]) < 0 := HX.out; omega)], HB1.out⟩
        case measure => simp [intOf]; omega
    · have hke : k = 256 := by omega
      have HK : Hid (kidsTo f k = y) := Lib.hid (by rw [hke]; exact HY.out.symm)
      have hk2 : ¬ (k : Int) < 256 := by omega
      rw [HK.out]
      rw [HK.out] at hz1 hkl
      clear hke
      have HB := Lib.hid hbel
      clear hbel
      go_wp2
      go_ret
      exact ⟨rfl, HB.out⟩
def GivesL (w : World) (xs : List TxV) (e : Ending) (w' : World) : Prop :=
  Below w.heap.size w w' ∧ ((¬ ∀ x ∈ xs, x.text.length ≤ 40) ∧ e = .returned (.tuple #[.slice none 0 0, .bool false]) ∨
    (∀ x ∈ xs, x.text.length ≤ 40) ∧ ∃ a' cap', e = .returned (.tuple #[.slice a' xs.length cap', .bool (decide (xs.length ≤ 12))]) ∧ Ss w' a' (xs.map TxV.text))
theorem takes_snoc {α : Type} (l : List α) (k : Nat) (h : k < l.length) : l.take (k + 1) = l.take k ++ [l[k]] := List.take_succ_eq_append_getElem h
theorem map_at (xs : List TxV) (k : Nat) (h : k < xs.length) : (xs.map TxV.text)[k]'(by simpa using h) = xs[k].text := by simp
set_option maxHeartbeats 4000000 in
theorem ltexts_any (xs : List TxV) (a : Option Addr) (cap : Nat) (w : World) (hts : Ts w a xs) (hl : xs.length ≤ 6000000000000) (hm : ∀ x ∈ xs, x.text.length ≤ maxLen) :
    Calls Try.prog 10 #[.slice a xs.length cap] w (GivesL w xs) := by
  unfold maxLen at hm
  have HT := Lib.hid hts
  have HM := Lib.hid hm
  clear hts hm
  go_enter Try.func10, Try.ntmps10
  go_wp2
  go_loopw [4, 5] (fun v i wr => ∃ k : Nat, k ≤ xs.length ∧ i = .int .i64 k ∧ wr.ownsRow w.heap.size 9 1 v k (svals ((xs.map TxV.text).take k)) ∧ (∀ x ∈ xs.take k, x.text.length ≤ 40) ∧ Below w.heap.size w wr)
    (fun _ i _ => xs.length - (intOf i).toNat)
  case atStart => exact ⟨0, Nat.zero_le _, rfl, World.ownsRow_nil _ _ _ _, (fun x hx => by cases hx), Below.refl _ _⟩
  case round =>
    obtain ⟨k, hk, rfl, hown, hall, hbel⟩ := hrel
    have HA := Lib.hid hall
    clear hall
    by_cases hlt : k < xs.length
    · obtain ⟨⟨b, off, rfl, hbl, hc⟩, hbs⟩ : (∃ b off, a = some ⟨b, off, none⟩ ∧ b < w.heap.size ∧ ∀ i (h : i < xs.length), w.cell? ⟨b, off + i, none⟩ = some (.slice xs[i].a xs[i].text.length xs[i].cap)) ∧ Bs w w.heap.size xs[k].a xs[k].text :=
        ⟨HT.out.1 (by omega), HT.out.2 _ (List.getElem_mem hlt)⟩
      have hck : wr.cell? ⟨b, off + k, none⟩ = some (.slice xs[k].a xs[k].text.length xs[k].cap) := (hbel.cell (p := ⟨b, off + k, none⟩) hbl).trans (hc k hlt)
      have hcv := str_of_bs xs[k].cap (hbs.keep hbel)
      have hxm : xs[k].text.length ≤ 9223372036854775807 := HM.out _ (List.getElem_mem hlt)
      have HS := Lib.hid (takes_snoc (xs.map TxV.text) k (by simpa using hlt))
      have HS2 := Lib.hid (takes_snoc xs k hlt)
      rw [map_at xs k hlt] at HS
      have hsr := hbel.size
      clear hc hbs
      by_cases h3 : 40 < xs[k].text.length
      · go_wp2
        refine bodyPost_ret (v := .tuple #[.slice none 0 0, .bool false]) (by simp [results, Try.results10, go_sem]) rfl ?_
        refine ⟨hbel, .inl ⟨fun h => ?_, rfl⟩⟩
        have := h _ (List.getElem_mem hlt)
        omega
      · go_wp2_with (at_builtin; refine app_ss rfl _ _ rfl w.heap.size _ _ _ xs[k].text rfl (hown.alloc _) ⟨wr.heap.size, 0, none⟩ rfl (cell_new1 _ _ _) (by omega) (by simp; omega) ?_; intro v2 w2 hown2 hg2)
        go_roundw
        case rel =>
          refine ⟨k + 1, by omega, by go_num, ?_, ?_, ?_⟩
          · rw [HS.out]; exact hown2
          · rw [HS2.out]
            intro x hx
            rcases List.mem_append.1 hx with hx | hx
            · exact HA.out x hx
            · rw [List.mem_singleton] at hx; subst hx; omega
          · exact (hbel.alloc hsr _).grown hg2 (by simp; omega) (fun q hq => own_ge hown hq)
        case measure => simp [intOf]; omega
    · have et : (xs.map TxV.text).take k = xs.map TxV.text := List.take_of_length_le (by simp; omega)
      have et2 : xs.take k = xs := List.take_of_length_le (by omega)
      rw [et] at hown
      rw [et2] at HA
      obtain ⟨a2, cap2, rfl, hss, _⟩ := own_ss hown
      have HSS := Lib.hid hss
      clear hss et et2
      have e : (xs.map TxV.text).length = xs.length := by simp
      rw [e] at hown ⊢
      clear e
      go_wp2
      have e2 : decide ((xs.length : Int) ≤ 12) = decide (xs.length ≤ 12) := decide_eq_decide.2 (by omega)
      refine bodyPost_ret (v := .tuple #[.slice a2 xs.length cap2, .bool (decide ((xs.length : Int) ≤ 12))]) (by simp [results, Try.results10, go_sem]) rfl ?_
      rw [e2]
      exact ⟨hbel, .inr ⟨HA.out, a2, cap2, rfl, HSS.out⟩⟩
end Go.Proofs.Ytljnhkpcodecgaa.Tri
