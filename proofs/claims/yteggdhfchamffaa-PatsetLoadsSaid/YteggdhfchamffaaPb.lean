/- Contracts of patset.Of and Patterns. -/
import Derived.Test.YteggdhfchamffaaPv
namespace Go.Proofs.Yteggdhfchamffaa
open Go.RowKit

theorem str_none (l : List UInt8) : (str l).toList.isEmpty = decide (l = []) := by
  rw [ByteArray.toList_eq]; show l.isEmpty = _; cases l <;> simp
theorem map_at (xs : List TxV) (k : Nat) (h : k < xs.length) : (xs.map TxV.text)[k]'(by simpa using h) = xs[k].text := by simp

set_option maxHeartbeats 4000000 in
theorem of_from (xs : List TxV) (a : Option Addr) (cap : Nat) (w : World) (hts : Ts w a xs) (hl : xs.length ≤ 100000000) (hx : ∀ x ∈ xs, x.text.length ≤ 1000000000) :
    Calls Try.prog 16 #[.slice a xs.length cap] w (GivesSetF w (xs.map TxV.text)) := by
  have hmm := @run_makeMap Try.prog
  have HT := Lib.hid hts
  have HX := Lib.hid hx
  clear hts hx
  go_enter Try.func16, Try.ntmps16
  go_wp2
  go_loopw [11] (fun i wr => ∃ k v, k ≤ xs.length ∧ i = .int .i64 k ∧ MapOf wr (w.heap.size + 1) k ((xs.map TxV.text).take k) ∧ Blk2 wr (w.heap.size + 1 + 1) 27 (.map (some (w.heap.size + 1))) v ∧
      wr.ownsRow (w.heap.size + 3) 9 1 v (pats ((xs.map TxV.text).take k)).length (svals (pats ((xs.map TxV.text).take k))) ∧ Blk2 wr w.heap.size 27 (.map none) (.slice none 0 0) ∧ Below w.heap.size w wr ∧ w.heap.size + 3 ≤ wr.heap.size)
    (fun i _ => xs.length - (intOf i).toNat)
  case atStart =>
    have h1 := (map_made (w.alloc (.cells #[.map none, .slice none 0 0] 27))).alloc (.cells #[.map (some (w.heap.size + 1)), .slice none 0 0] 27)
    rw [World.size_alloc] at h1
    have h2 := Blk2.new ((w.alloc (.cells #[.map none, .slice none 0 0] 27)).alloc (.map #[] 0)) 27 (.map (some (w.heap.size + 1))) (.slice none 0 0)
    rw [World.size_alloc, World.size_alloc] at h2
    exact ⟨0, _, Nat.zero_le _, rfl, h1, h2, World.ownsRow_nil _ _ _ _, ((Blk2.new w 27 (.map none) (.slice none 0 0)).alloc _).alloc _,
      (((Below.refl _ _).alloc (Nat.le_refl _) _).alloc (by simp) _).alloc (by simp; omega) _, by simp⟩
  case round =>
    obtain ⟨k, v, hk, rfl, hm, hbk, hown, hb0, hbel, hsz⟩ := hrel
    have hpl : (pats ((xs.map TxV.text).take k)).length ≤ k := by
      have h1 := pats_len ((xs.map TxV.text).take k)
      have h2 : ((xs.map TxV.text).take k).length ≤ k := List.length_take_le _ _
      omega
    obtain ⟨c0, c1⟩ := hbk.cells
    obtain ⟨f0, f1⟩ := hbk.free
    by_cases hlt : k < xs.length
    · obtain ⟨⟨b, off, rfl, hbl, hc⟩, hbs⟩ : (∃ b off, a = some ⟨b, off, none⟩ ∧ b < w.heap.size ∧ ∀ i (h : i < xs.length), w.cell? ⟨b, off + i, none⟩ = some (.slice xs[i].a xs[i].text.length xs[i].cap)) ∧ Bs w w.heap.size xs[k].a xs[k].text :=
        ⟨HT.out.1 (by omega), HT.out.2 _ (List.getElem_mem hlt)⟩
      have hck : wr.cell? ⟨b, off + k, none⟩ = some (.slice xs[k].a xs[k].text.length xs[k].cap) := (hbel.cell (p := ⟨b, off + k, none⟩) hbl).trans (hc k hlt)
      have hcv := str_of_bs xs[k].cap (hbs.keep hbel)
      have hxl : xs[k].text.length ≤ 1000000000 := HX.out _ (List.getElem_mem hlt)
      have HM := Lib.hid hm
      have HP := Lib.hid (pats_take (xs.map TxV.text) k (by simpa using hlt))
      have HA := Lib.hid (map_at xs k hlt)
      have HS := Lib.hid (takes_snoc (xs.map TxV.text) k (by simpa using hlt))
      rw [map_at xs k hlt] at HP HS
      clear hm hc hbs
      by_cases hin : xs[k].text ∈ (xs.map TxV.text).take k
      · have hd : decide (xs[k].text ∈ (xs.map TxV.text).take k) = true := by simpa using hin
        have HI := Lib.hid hin
        clear hin
        go_wp2_with (at_lookup; refine look_map rfl _ _ rfl (w.heap.size + 1) k _ rfl HM.out xs[k].text rfl (by unfold maxLen; omega) ?_)
        go_roundw
        case rel =>
          refine ⟨k + 1, v, by omega, by go_num, ?_, hbk, ?_, hb0, hbel, hsz⟩
          · refine (HM.out.more (Nat.le_succ _)).cong fun x => ?_
            rw [HS.out, List.mem_append, List.mem_singleton]
            exact ⟨.inl, fun h => h.elim id (fun e => e ▸ HI.out)⟩
          · rw [HP.out, add_in _ _ HI.out]; exact hown
        case measure => simp [intOf]; omega
      · have hd : decide (xs[k].text ∈ (xs.map TxV.text).take k) = false := by simpa using hin
        have HI := Lib.hid hin
        clear hin
        by_cases hnil : xs[k].text = []
        · have hdn : (!(str xs[k].text).toList.isEmpty) = false := by rw [str_none]; simp [hnil]
          have HN := Lib.hid hnil
          clear hnil
          go_wp2_with (first | (at_lookup; refine look_map rfl _ _ rfl (w.heap.size + 1) k _ rfl HM.out xs[k].text rfl (by unfold maxLen; omega) ?_) | (at_mapUpdate; refine put_map rfl _ _ _ rfl (w.heap.size + 1) k _ rfl HM.out xs[k].text rfl rfl (by unfold maxLen; omega) (by unfold maxLen; omega) ?_; intro w1 hm1 hg1; have hbk1 := hbk.grown hg1 (by simp); have hb01 := hb0.grown hg1 (by simp); obtain ⟨d0, d1⟩ := hbk1.cells; obtain ⟨e0, e1⟩ := hbk1.free; have hown1 := hown.kept hg1 (.inr (own_not_map hown HM.out).symm); have hbel1 := hbel.grown hg1 hbel.size (by intro q hq; cases hq; omega); have hsz1 := hg1.size))
          go_roundw
          case rel =>
            refine ⟨k + 1, v, by omega, by go_num, ?_, hbk1, ?_, hb01, hbel1, by omega⟩
            · rw [HS.out]; exact hm1
            · rw [HP.out, HN.out, add_nil]; exact hown1
          case measure => simp [intOf]; omega
        · have hdn : (!(str xs[k].text).toList.isEmpty) = true := by rw [str_none]; simp [hnil]
          have HN := Lib.hid hnil
          clear hnil
          go_wp2_with (first | (at_lookup; refine look_map rfl _ _ rfl (w.heap.size + 1) k _ rfl HM.out xs[k].text rfl (by unfold maxLen; omega) ?_) | (at_mapUpdate; refine put_map rfl _ _ _ rfl (w.heap.size + 1) k _ rfl HM.out xs[k].text rfl rfl (by unfold maxLen; omega) (by unfold maxLen; omega) ?_; intro w1 hm1 hg1; have hbk1 := hbk.grown hg1 (by simp); have hb01 := hb0.grown hg1 (by simp); obtain ⟨d0, d1⟩ := hbk1.cells; obtain ⟨e0, e1⟩ := hbk1.free; have hown1 := hown.kept hg1 (.inr (own_not_map hown HM.out).symm); have hbel1 := hbel.grown hg1 hbel.size (by intro q hq; cases hq; omega); have hsz1 := hg1.size) | (at_builtin; refine app_ss rfl _ _ rfl (w.heap.size + 3) v _ _ xs[k].text rfl (hown1.alloc _) ⟨w1.heap.size, 0, none⟩ rfl (cell_new1 _ _ _) (by omega) (by simp; omega) ?_; intro v2 w2 hown2 hg2; have hne2 := own_far hown1; have hbk2 := (hbk1.alloc _).grown hg2 (hne2 _ (by omega)); obtain ⟨c20, c21⟩ := hbk2.cells; obtain ⟨f20, f21⟩ := hbk2.free; obtain ⟨g2, cap2, rfl⟩ := own_succ hown2))
          go_roundw
          case rel =>
            have hz2 := hg2.size
            rw [World.size_alloc] at hz2
            refine ⟨k + 1, _, by omega, by go_num, ?_, hbk2.put1 _, ?_, ?_, ?_, ?_⟩
            · rw [HS.out]
              exact ((hm1.alloc _).grown hg2 (hne2 _ (by omega))).set (by omega) _
            · rw [HP.out, add_new _ _ HI.out HN.out, List.length_append]
              exact hown2.kept (grown_set w2 _ _ _) (.inr (fun e => by have := own_ge hown2 e; omega))
            · exact ((hb01.alloc _).grown hg2 (hne2 _ (by omega))).far (by omega) _
            · exact ((hbel1.alloc (by omega) _).grown hg2 (by simp; omega) (fun q hq => by have := own_ge hown1 hq; omega)).setCell (p := ⟨w.heap.size + 1 + 1, 1, none⟩) (by simp; omega) _
            · simp; omega
          case measure => simp [intOf]; omega
    · obtain ⟨z0, z1⟩ := hb0.cells
      obtain ⟨y0, y1⟩ := hb0.free
      have hkx : k = xs.length := by omega
      have HK := Lib.hid hkx
      clear hkx
      obtain ⟨av, cv, rfl, hss, _⟩ := own_ss hown
      go_wp2
      have hset : IsSet ((wr.setCell ⟨w.heap.size, 0, none⟩ (.map (some (w.heap.size + 1)))).setCell ⟨w.heap.size, 1, none⟩ (.slice av (pats ((xs.map TxV.text).take k)).length cv)) (some (w.heap.size + 1)) av ((xs.map TxV.text).take k) := by
        refine ⟨.inr ⟨_, k, rfl, (hm.set (by omega) _).set (by omega) _⟩, ?_⟩
        have h2 := hown.kept (grown_set wr w.heap.size 0 (.map (some (w.heap.size + 1)))) (.inr (fun e => by have := own_ge hown e; omega))
        have h3 := h2.kept (grown_set _ w.heap.size 1 (.slice av (pats ((xs.map TxV.text).take k)).length cv)) (.inr (fun e => by have := own_ge h2 e; omega))
        obtain ⟨a', c', e, h4, _⟩ := own_ss h3
        injection e with e1 _ e2
        subst e1
        exact h4
      obtain ⟨e0, e1⟩ := ((hb0.put0 (.map (some (w.heap.size + 1)))).put1 (.slice av (pats ((xs.map TxV.text).take k)).length cv)).cells
      refine bodyPost_ret (v := .agg #[.map (some (w.heap.size + 1)), .slice av (pats ((xs.map TxV.text).take k)).length cv]) ?_ rfl ?_
      · simp [results, Try.results16, go_sem, e0, e1]
      · have et : (xs.map TxV.text).take k = xs.map TxV.text := List.take_of_length_le (by rw [HK.out]; simp)
        rw [et] at hset ⊢
        exact ⟨_, av, cv, rfl, hset, (hbel.setCell (p := ⟨w.heap.size, 0, none⟩) (Nat.le_refl _) _).setCell (p := ⟨w.heap.size, 1, none⟩) (Nat.le_refl _) _, (fun g e => by cases e; omega), fun ad e => Nat.le_trans (by omega) (own_from hown ad e)⟩

theorem of_any (xs : List TxV) (a : Option Addr) (cap : Nat) (w : World) (hts : Ts w a xs) (hl : xs.length ≤ 100000000) (hx : ∀ x ∈ xs, x.text.length ≤ 1000000000) :
    Calls Try.prog 16 #[.slice a xs.length cap] w (GivesSet w (xs.map TxV.text)) :=
  (of_from xs a cap w hts hl hx).mono fun _ _ ⟨m, a', c, h1, h2, h3, _⟩ => ⟨m, a', c, h1, h2, h3⟩
set_option maxHeartbeats 4000000 in
theorem patterns_any (mv : Value) (a : Option Addr) (cap : Nat) (xs : List (List UInt8)) (w : World) (hs : Ss w a xs) (hl : xs.length ≤ 100000000) (hx : ∀ x ∈ xs, x.length ≤ 1000000000) :
    Calls Try.prog 18 #[.agg #[mv, .slice a xs.length cap]] w (GivesTexts w xs) := by
  obtain ⟨i0, hi, hz0, hz1, hz2⟩ := info_parts info22
  have hbel : Below w.heap.size w (w.alloc (.cells #[mv, .slice a xs.length cap] 27)) := (Below.refl _ _).alloc (Nat.le_refl _) _
  have hs' := hs.keep hbel
  obtain ⟨c0, c1⟩ := (Blk2.new w 27 mv (.slice a xs.length cap)).cells
  have HS := Lib.hid hs'
  have HX := Lib.hid hx
  clear hs hs' hx
  go_enter Try.func18, Try.ntmps18
  go_wp2
  go_loopw [3, 9] (fun v i wr => ∃ (k : Nat) (ys : List TxV), k ≤ xs.length ∧ i = .int .i64 k ∧ ys.map TxV.text = xs.take k ∧ wr.ownsRow (w.heap.size + 1) 22 1 v k (tvals ys) ∧ (∀ y ∈ ys, Txf wr (w.heap.size + 1) y.a y.text) ∧
      Below (w.heap.size + 1) (w.alloc (.cells #[mv, .slice a xs.length cap] 27)) wr)
    (fun _ i _ => xs.length - (intOf i).toNat)
  case atStart => exact ⟨0, [], Nat.zero_le _, rfl, rfl, World.ownsRow_nil _ _ _ _, (fun y hy => by cases hy), Below.refl _ _⟩
  case round =>
    obtain ⟨k, ys, hk, rfl, hys, hown, hty, hbl⟩ := hrel
    by_cases hlt : k < xs.length
    · obtain ⟨b, off, rfl, hbb, hc⟩ := HS.out (by omega)
      have hck := (hbl.cell (p := ⟨b, off + k, none⟩) (by simpa using hbb)).trans (hc k hlt)
      have hz := str_size xs[k]
      have hxl := HX.out xs[k] (List.getElem_mem hlt)
      have HY := Lib.hid hys
      have HTY := Lib.hid hty
      clear hc hys hty
      obtain ⟨c, w1, hcv, htx, hb1⟩ := conv_text wr xs[k]
      have HTX := Lib.hid htx
      clear htx
      have hz1 := hb1.size
      have hwr := hbl.size
      rw [World.size_alloc] at hwr
      have hown1 := own_keep hown hb1
      go_wp2_with (at_builtin; refine app_ts rfl _ _ rfl (w.heap.size + 1) _ _ _ ⟨xs[k], some ⟨wr.heap.size, 0, none⟩, c, fun e => by cases e⟩ rfl (hown1.alloc _) ⟨w1.heap.size, 0, none⟩ rfl (cell_new1 _ _ _) (by omega) (by simp; omega) ?_; intro v2 w2 hown2 hg2)
      go_roundw
      case rel =>
        have hrow : ∀ r cs fr, u3.ownBlock = some r → (w1.alloc (.cells #[.slice (some ⟨wr.heap.size, 0, none⟩) xs[k].length c] 22)).heap[r]? ≠ some (.cells cs 5 fr) := fun r cs fr e he => by
          obtain ⟨_, _, cs', hh⟩ := own_block_lt (hown1.alloc _) e
          rw [he] at hh; cases hh
        have hgw := World.grownBy_alloc w1 (.cells #[.slice (some ⟨wr.heap.size, 0, none⟩) xs[k].length c] 22) none
        refine ⟨k + 1, ys ++ [⟨xs[k], some ⟨wr.heap.size, 0, none⟩, c, fun e => by cases e⟩], by omega, by go_num, ?_, hown2, ?_, ?_⟩
        · rw [takes_snoc xs k hlt, List.map_append, HY.out]; rfl
        · intro y hy
          refine txf_grown (txf_grown ?_ hgw (fun _ _ _ e => by cases e)) hg2 hrow
          rcases List.mem_append.1 hy with hy | hy
          · exact (HTY.out y hy).keep hb1
          · rw [List.mem_singleton] at hy
            subst hy
            exact HTX.out.less (by omega)
        · exact (((hbl.trans (hb1.mono (by omega))).alloc (by omega) _).grown hg2 (by simp; omega) (fun q hq => by have := own_ge hown1 hq; omega))
      case measure => simp [intOf]; omega
    · have hkx : k = xs.length := by omega
      have HK := Lib.hid hkx
      clear hkx
      obtain ⟨av, cv, rfl, hts, _⟩ := own_ts hown (fun y hy => (hty y hy).bs)
      go_wp2
      go_ret
      have e1 : ys.map TxV.text = xs := by rw [hys, List.take_of_length_le (by rw [HK.out]; omega)]
      have e2 : ys.length = xs.length := by rw [← e1]; simp
      refine ⟨av, cv, ys, ?_, e1, hts, hbel.trans (hbl.mono (by omega))⟩
      rw [← e2]; rfl
end Go.Proofs.Yteggdhfchamffaa
