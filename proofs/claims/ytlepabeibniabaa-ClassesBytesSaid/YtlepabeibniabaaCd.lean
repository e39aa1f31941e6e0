/- The contract of Of. -/
import Derived.Test.YtlepabeibniabaaCc
import Derived.Laws.CopyOwn
namespace Go.Proofs.Ytlepabeibniabaa.Cls
open Go.RowKit Go.Maps Go.Proofs.Ytlepabeibniabaa.Reg
set_option maxRecDepth 100000

theorem not_byte (l : List Int) (i : Nat) (c : Int) : (icells l)[i]? ≠ some (.int .u8 c) := by
  intro h
  by_cases hi : i < l.length
  · rw [icells_at l i hi] at h
    injection h with h
    injection h with h1 h2
    cases h1
  · rw [Array.getElem?_eq_none (by rw [icells_size]; omega)] at h
    cases h
theorem zero_pt (f : UInt8 → Bool) : icells (pt f 0) = cc (fun _ => false) := by
  rw [pt_zero, cc, tab_none]
theorem up_lt (f : UInt8 → Bool) : (upTo f 256).length ≤ 256 := upTo_len f 256
set_option maxHeartbeats 4000000 in
theorem of_any9 (xs : List TxV) (a : Option Addr) (cap : Nat) (w : World) (hts : Ts w a xs) (hl : xs.length ≤ 6000000000000) (hm : ∀ x ∈ xs, x.text.length ≤ 1000000000000) :
    Calls Try.prog 9 #[.slice a xs.length cap] w fun e w' => e = .returned (.agg (cc (stands (xs.map TxV.text)))) ∧ Below w.heap.size w w' := by
  obtain ⟨f, hf⟩ : ∃ f, f = stands (xs.map TxV.text) := ⟨_, rfl⟩
  have hz := zero29
  have HZF := Lib.hid (zero_pt f)
  have HZS := Lib.hid (cc_size (fun _ => false))
  generalize cc (fun _ => false) = z at *
  have B0 : Hid (Below w.heap.size w ((w.alloc (.cells z 29)).alloc (.cells z 29))) := Lib.hid (((Below.refl _ _).alloc (Nat.le_refl _) _).alloc (by simp) _)
  have HST := Lib.hid (standing_any xs a cap _ (hts.keep B0.out) hl hm)
  have HG1 := Lib.hid (heap_alloc2_old w (.cells z 29) (.cells z 29))
  have HG2 := Lib.hid (heap_alloc2_new w (.cells z 29) (.cells z 29))
  have hs0 : ((w.alloc (.cells z 29)).alloc (.cells z 29)).heap.size = w.heap.size + 1 + 1 := by simp
  have HLU := Lib.hid (list_up (xs.map TxV.text))
  rw [← hf] at HLU ⊢
  clear hts
  go_enter Try.func9, Try.ntmps9
  go_wp2_with (first
    | (go_at_call 17; (with_reducible refine HST.out.mono ?_); rintro e w1 ⟨rfl, hb1⟩)
    | (go_at_call 18; (with_reducible refine (list_any _ w1).mono ?_); rintro e w2 ⟨al, cl, rfl, hbs, hb2⟩))
  rw [HLU.out] at hbs ⊢
  have hul := up_lt f
  have hx1 : w2.heap[w.heap.size]? = some (.cells z 29 (0, 0)) := (hb2.block _ (by have := hb1.size; omega)).trans ((hb1.block _ (by omega)).trans HG1.out)
  have hx2 : w2.heap[w.heap.size + 1]? = some (.cells z 29 (0, 0)) := (hb2.block _ (by have := hb1.size; omega)).trans ((hb1.block _ (by omega)).trans HG2.out)
  have hx3 : Below w.heap.size w w2 := (B0.out.trans (hb1.mono (by omega))).trans (hb2.mono (by have := hb1.size; omega))
  rw [← HZF.out] at hx2
  have X1 := Lib.hid hx1
  have X2 := Lib.hid hx2
  have X3 := Lib.hid hx3
  have HBS := Lib.hid hbs
  have HCN : Hid (cnt f = (upTo f 256).length) := Lib.hid rfl
  have HTK := Lib.hid (pt_set f)
  clear hx1 hx2 hx3 hbs hb1 hb2 HST HG1 HG2 hs0 B0 hz hf
  generalize upTo f 256 = ls at *
  go_loopw [10] (fun i wr => ∃ k : Nat, k ≤ ls.length ∧ i = .int .i64 (k : Int) ∧ wr.heap[w.heap.size]? = some (.cells z 29 (0, 0)) ∧ wr.heap[w.heap.size + 1]? = some (.cells (icells (pt f k)) 29 (0, 0)) ∧ (∀ g, g ≠ w.heap.size + 1 → wr.heap[g]? = w2.heap[g]?) ∧ Below w.heap.size w wr)
    (fun i _ => ls.length - (intOf i).toNat)
  case atStart => exact ⟨0, Nat.zero_le _, rfl, X1.out, X2.out, fun _ _ => rfl, X3.out⟩
  case round =>
    obtain ⟨k, hk, rfl, y1, y2, y3, y4⟩ := hrel
    have Y1 := Lib.hid y1
    have Y2 := Lib.hid y2
    have Y3 := Lib.hid y3
    have Y4 := Lib.hid y4
    clear y1 y2 y3 y4
    by_cases hlt : k < ls.length
    · obtain ⟨b, off, rfl, hbl, hc⟩ := HBS.out (by omega)
      have hne : b ≠ w.heap.size + 1 := by
        rintro rfl
        have h := hc k hlt
        rw [cell_of_row w2 _ _ _ 29 (0, 0) X2.out] at h
        exact not_byte _ _ _ h
      have hcell : wr.cell? ⟨b, off + k, none⟩ = some (.int .u8 (ls[k].toNat : Int)) := (World.cell?_of_block (w := w2) (w' := wr) (a := ⟨b, off + k, none⟩) (Y3.out b hne)).trans (hc k hlt)
      have hkl : (k : Int) < (ls.length : Int) := by omega
      have hcl : (ls[k].toNat : Int) < 256 := by have := ls[k].toNat_lt; omega
      have hold : wr.cell? ⟨w.heap.size + 1, ls[k].toNat, none⟩ = some (.int .i64 ((pt f k)[ls[k].toNat]'(by rw [pt_length]; exact ls[k].toNat_lt))) := (cell_of_row wr _ _ _ 29 (0, 0) Y2.out).trans (icells_at _ _ _)
      have hfz : wr.frozen? ⟨w.heap.size + 1, ls[k].toNat, none⟩ = false := by simp [World.frozen?, Y2.out]
      have HS := Lib.hid (heap_set_same (i := ls[k].toNat) (u := .int .i64 ((k : Int) + 1)) Y2.out)
      have HP := Lib.hid (HTK.out k hlt)
      have HN := Lib.hid hne
      clear hc hne
      generalize ls[k] = x at *
      generalize (pt f k)[x.toNat]'_ = old at *
      go_wp2
      have hk0 : ∀ g, g ≠ w.heap.size + 1 → (wr.setCell ⟨w.heap.size + 1, x.toNat, none⟩ (.int .i64 ((k : Int) + 1))).heap[g]? = wr.heap[g]? := fun g hg => Below.heap_setCell wr _ _ g hg
      refine ⟨⟨k + 1, by omega, by go_num, (hk0 _ (by omega)).trans Y1.out, ?_, fun g hg => (hk0 g hg).trans (Y3.out g hg), Y4.out.setCell (p := ⟨w.heap.size + 1, x.toNat, none⟩) (Nat.le_succ _) _⟩, by simp [intOf]; omega⟩
      rw [HS.out, icells_set, HP.out]
    · obtain rfl : k = ls.length := by omega
      rw [← HCN.out, pt_all] at Y2
      change Hid (wr.heap[w.heap.size + 1]? = some (.cells (cc f) 29 (0, 0))) at Y2
      have HCS := Lib.hid (cc_size f)
      have HCO := Lib.hid (cc_one f)
      obtain ⟨cs, hcs⟩ : ∃ cs, cs = cc f := ⟨_, rfl⟩
      rw [← hcs] at Y2 HCS HCO
      have HCC := Lib.hid hcs
      clear hcs
      obtain ⟨fs, hd1⟩ := some29
      have HD1 := Lib.hid hd1
      clear hd1
      go_wp2_with (first
        | (with_reducible refine wpList_load_row rfl 29 (.tmp 3) rfl (w.heap.size + 1) rfl 29 cs (0, 0) _ Y2.out HD1.out rfl (by rw [HCS.out]; exact size29) ?_)
        | (with_reducible refine wpList_store_row rfl 29 (.tmp 2) (.tmp 21) rfl w.heap.size cs rfl rfl 29 z Y1.out (by rw [HCS.out]; exact size29) (by rw [HCS.out, HZS.out]) HCO.out ?_))
      refine bodyPost_ret (v := .agg cs) ?_ rfl ⟨by rw [HCC.out], below_setRow Y4.out (Nat.le_refl _) cs⟩
      exact results_cell_row (p := 2) (ty := 29) Try.results9 _ _ w.heap.size 29 cs (0, 0) _ rfl (setRow_heap wr _ z cs 29 (0, 0) Y1.out) HD1.out rfl (by rw [HCS.out]; exact size29)
end Go.Proofs.Ytlepabeibniabaa.Cls
