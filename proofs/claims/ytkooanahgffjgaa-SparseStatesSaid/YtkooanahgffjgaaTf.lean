/- The contract of Build. -/
import Derived.Test.YtkooanahgffjgaaTe
namespace Go.Proofs.Ytkooanahgffjgaa.Tri
open Go.RowKit Go.Maps
set_option maxRecDepth 100000

theorem make_map (w : World) : (Instr.makeMap 78 none).run Try.prog w = .ok (.map (some w.heap.size)) (w.alloc (.map #[] 0)) := by
  simp [Instr.makeMap, go_sem]
theorem step_root (n : Int) (c : UInt8) : stepOf [[]] n c = -1 := by
  unfold stepOf
  split
  · apply place_not; simp
  · rfl
abbrev ncs : Array Value := #[.int .i64 (-1), .int .u8 0, .int .i64 0, .int .i64 (-1)]
theorem tree_new (w : World) : Tr ((((w.alloc (.cells ncs 75)).alloc (.cells ncs 75)).alloc (.map #[] 0)).alloc (.cells #[.slice (some ⟨w.heap.size + 1, 0, none⟩) 1 1, .map (some (w.heap.size + 1 + 1))] 80)) w.heap.size (w.heap.size + 1 + 1 + 1) [[]] [] ∧
    Below w.heap.size w ((((w.alloc (.cells ncs 75)).alloc (.cells ncs 75)).alloc (.map #[] 0)).alloc (.cells #[.slice (some ⟨w.heap.size + 1, 0, none⟩) 1 1, .map (some (w.heap.size + 1 + 1))] 80)) := by
  constructor
  · refine ⟨by omega, wf_root, (fun x hx => by cases hx), by simp, w.heap.size + 1, 1, w.heap.size + 1 + 1, 0, ?_, ?_, ?_, by omega, by simp⟩
    · have := Blk2.new (((w.alloc (.cells ncs 75)).alloc (.cells ncs 75)).alloc (.map #[] 0)) 80 (.slice (some ⟨w.heap.size + 1, 0, none⟩) 1 1) (.map (some (w.heap.size + 1 + 1)))
      simpa using this
    · have h1 := World.ownsRow_lit (base := w.heap.size) (e := 75) (size := 4) (w.alloc (.cells ncs 75)) ncs 1 (by simp) (by unfold maxLen; omega) rfl
      rw [World.size_alloc] at h1
      rw [nds_root]
      exact (h1.alloc _).alloc _
    · have h1 := mapT_made ((w.alloc (.cells ncs 75)).alloc (.cells ncs 75))
      rw [World.size_alloc, World.size_alloc] at h1
      exact (h1.alloc _).cong fun n c => (step_root n c).symm
  · exact ((((Below.refl _ _).alloc (Nat.le_refl _) _).alloc (by simp) _).alloc (by simp; omega) _).alloc (by simp; omega) _
set_option maxHeartbeats 1000000 in
theorem build_any (w : World) (xs : List TxV) (a : Option Addr) (cap : Nat) (hts : Ts w a xs) (hl : xs.length ≤ 1000000) (hz : tot (xs.map TxV.text) ≤ 100000000) :
    Calls Try.prog 26 #[.slice a xs.length cap] w (GivesTr w (paths (xs.map TxV.text)) (xs.map TxV.text)) := by
  have hmm := make_map
  have HT := Lib.hid hts
  clear hts
  obtain ⟨l, hll⟩ : ∃ l, l = xs.map TxV.text := ⟨_, rfl⟩
  rw [← hll] at hz ⊢
  have hlen : xs.length = l.length := by rw [hll]; simp
  have HLT : Hid (∀ i (h : i < xs.length) (h' : i < l.length), xs[i].text = l[i]) := Lib.hid (by subst hll; intro i h h'; simp)
  have HLN := Lib.hid hlen
  clear hll hlen
  go_enter Try.func26, Try.ntmps26
  go_wp2_with (go_at_call 38; (with_reducible refine (none_any _).mono ?_); rintro e w1 ⟨rfl, rfl⟩)
  obtain ⟨ht0, hb0⟩ := tree_new w
  have HT0 := Lib.hid ht0
  have HB0 := Lib.hid hb0
  clear ht0 hb0 hmm
  generalize w.heap.size + 1 + 1 + 1 = t at *
  generalize (((w.alloc (.cells ncs 75)).alloc (.cells ncs 75)).alloc (.map #[] 0)).alloc (.cells #[.slice (some ⟨w.heap.size + 1, 0, none⟩) 1 1, .map (some (w.heap.size + 1 + 1))] 80) = w0 at *
  go_loopw [14] (fun i wr => ∃ k : Nat, k ≤ xs.length ∧ i = .int .i64 k ∧ Tr wr w.heap.size t (paths (l.take k)) (l.take k) ∧ Below w.heap.size w wr) (fun i _ => xs.length - (intOf i).toNat)
  case atStart => exact ⟨0, Nat.zero_le _, rfl, HT0.out, HB0.out⟩
  case round =>
    obtain ⟨k, hk, rfl, htr, hbel⟩ := hrel
    by_cases hlt : k < xs.length
    · have hlt2 : k < l.length := by rw [← HLN.out]; exact hlt
      obtain ⟨⟨b, off, rfl, hbl, hc⟩, hbs⟩ : (∃ b off, a = some ⟨b, off, none⟩ ∧ b < w.heap.size ∧ ∀ i (h : i < xs.length), w.cell? ⟨b, off + i, none⟩ = some (.slice xs[i].a xs[i].text.length xs[i].cap)) ∧ Bs w w.heap.size xs[k].a xs[k].text :=
        ⟨HT.out.1 (by omega), HT.out.2 _ (List.getElem_mem hlt)⟩
      have hck : wr.cell? ⟨b, off + k, none⟩ = some (.slice xs[k].a xs[k].text.length xs[k].cap) := (hbel.cell (p := ⟨b, off + k, none⟩) hbl).trans (hc k hlt)
      have hplen := paths_len (l.take k)
      have htt := tot_take l k hlt2
      have htl := tot_take_le l (k + 1)
      have hbs2 := hbs.keep hbel
      rw [HLT.out k hlt hlt2] at hck hbs2
      have HP := Lib.hid (paths_take l k hlt2)
      have HTK : Hid (l.take (k + 1) = l.take k ++ [l[k]]) := Lib.hid (List.take_succ_eq_append_getElem hlt2)
      have HKL : Hid ((l.take k).length = k) := Lib.hid (by rw [List.length_take]; omega)
      have HG := Lib.hid (grow_any wr w.heap.size t _ _ htr l[k] xs[k].a xs[k].cap hbs2 (by omega))
      have HX := Lib.hid (grow_mem _ htr.2.1 l[k])
      have hkl : (k : Int) < (xs.length : Int) := by omega
      have HB := Lib.hid hbel
      clear hc hbs hbs2 htr hbel hplen htt htl
      generalize l[k] = x at *
      generalize xs[k].a = ax at *
      generalize xs[k].cap = cx at *
      have hbz : b < wr.heap.size := cell_lt0 hck
      generalize hzz : place (l.take k) x = z at *
      have HZ := Lib.hid hzz
      clear hlt2
      by_cases hin : x ∈ l.take k
      · have hz0 : ¬ z < 0 := by rw [← hzz]; have := (place_nonneg (l.take k) x).2 hin; omega
        have HIN := Lib.hid hin
        clear hin hzz
        go_wp2_with (go_at_call 39; (with_reducible refine HG.out.mono ?_); rintro e w1 ⟨rfl, ht1, hb1⟩; obtain ⟨i, hi, ei, ei2, _⟩ := place_mem HX.out; obtain ⟨g, cap1, m, hk1, hsg, hgz, hcw, hfz, hold, hnew⟩ := ht1.words hi; obtain ⟨c0, c1⟩ := hk1.cells; rw [ei]; rw [ei2] at hcw hold hnew; rw [HZ.out] at hcw; have hlen1 := ht1.2.2.2.1; have HB1 := Lib.hid hb1; have HOLD := Lib.hid hold; have HNEW := Lib.hid hnew; have hin : (i : Int) < ((grow (paths (l.take k)) x).length : Int) := (by omega); clear hold hnew hb1 hk1 ei ht1)
        go_roundw
        case rel => exact ⟨k + 1, by omega, by go_num, by rw [HP.out, HTK.out]; exact HOLD.out HIN.out, HB.out.trans HB1.out⟩
        case measure => simp [intOf]; omega
      · have hz0 : z < 0 := by rw [← hzz, place_not hin]; omega
        have HIN := Lib.hid hin
        clear hin hzz
        go_wp2_with (go_at_call 39; (with_reducible refine HG.out.mono ?_); rintro e w1 ⟨rfl, ht1, hb1⟩; obtain ⟨i, hi, ei, ei2, _⟩ := place_mem HX.out; obtain ⟨g, cap1, m, hk1, hsg, hgz, hcw, hfz, hold, hnew⟩ := ht1.words hi; obtain ⟨c0, c1⟩ := hk1.cells; rw [ei]; rw [ei2] at hcw hold hnew; rw [HZ.out] at hcw; have hlen1 := ht1.2.2.2.1; have HB1 := Lib.hid hb1; have HOLD := Lib.hid hold; have HNEW := Lib.hid hnew; have hin : (i : Int) < ((grow (paths (l.take k)) x).length : Int) := (by omega); clear hold hnew hb1 hk1 ei ht1)
        go_roundw
        case rel =>
          have hn := HNEW.out HIN.out
          rw [HKL.out] at hn
          exact ⟨k + 1, by omega, by go_num, by rw [HP.out, HTK.out]; exact hn, (HB.out.trans HB1.out).setCell (p := ⟨g, i * 4 + 3, none⟩) hsg _⟩
        case measure => simp [intOf]; omega
    · obtain rfl : k = xs.length := by omega
      have et : l.take xs.length = l := List.take_of_length_le (by rw [HLN.out]; exact Nat.le_refl _)
      rw [et] at htr
      have HTR := Lib.hid htr
      have HB := Lib.hid hbel
      clear htr hbel et
      go_wp2
      go_ret
      exact ⟨t, rfl, HTR.out, HB.out⟩
end Go.Proofs.Ytkooanahgffjgaa.Tri
