/- A Back in memory; Build. -/
import Derived.Test.YtgdpelpepgpegaaB1
namespace Go.Proofs.Ytgdpelpepgpegaa.Bck
open Go.RowKit Go.Maps Go.Proofs.Ytgdpelpepgpegaa.Tri Go.Proofs.Ytgdpelpepgpegaa.Cwl Go.Proofs.Ytgdpelpepgpegaa.Reg
set_option maxRecDepth 100000
set_option linter.unusedVariables false

/-- A Back of some texts, at a block; all that is its own lies at s or above. -/
def Bk (w : World) (s x : Nat) (l : List Tx) : Prop := s ≤ x ∧ ∃ t, w.heap[x]? = some (.cells #[.pointer (some ⟨t, 0, none⟩)] 42 (0, 0)) ∧ Tr w s t (paths (turned l)) (turned l) ∧ ∀ x ∈ l, x.length ≤ 1000
theorem Bk.keep {w w' : World} {s x : Nat} {l : List Tx} (h : Bk w s x l) (hb : Below w.heap.size w w') : Bk w' s x l := by
  obtain ⟨hs, t, h1, h2, h3⟩ := h
  exact ⟨hs, t, (hb.block x (txt_lt h1)).trans h1, h2.keep hb, h3⟩
theorem Bk.tree {w : World} {s x : Nat} {l : List Tx} (h : Bk w s x l) : ∃ t, w.cell? ⟨x, 0, none⟩ = some (.pointer (some ⟨t, 0, none⟩)) ∧ Tr w s t (paths (turned l)) (turned l) := by
  obtain ⟨_, t, h1, h2, _⟩ := h
  exact ⟨t, by rw [cell_of_row w x 0 _ 42 (0, 0) h1]; rfl, h2⟩
/-- Bytes as they are handed in. -/
def Ln (w : World) (al : Option Addr) (line : Tx) (cl : Nat) : Prop := Bs w w.heap.size al line ∧ line.length ≤ cl ∧ (al = none → cl = 0)
theorem Ln.keep {w w' : World} {al : Option Addr} {line : Tx} {cl : Nat} (h : Ln w al line cl) (hb : Below w.heap.size w w') : Ln w' al line cl := ⟨(h.1.keep hb).more hb.size, h.2⟩
theorem ln_own {w : World} {base n : Nat} {v : Value} {l : Tx} (h : w.ownsRow base 5 1 v n (vals l)) : ∃ a c, v = .slice a l.length c ∧ Ln w a l c := by
  obtain ⟨a, c, e, ht, hc, hn⟩ := own_txt h
  exact ⟨a, c, e, ht.bs, hc, hn⟩
theorem ln_txt {w : World} {s : Nat} {a : Option Addr} {l : Tx} {c : Nat} (h : Txt w s a l) (hc : l.length ≤ c) (hn : a = none → c = 0) : Ln w a l c := ⟨h.bs, hc, hn⟩
def GivesBk (w : World) (l : List Tx) (e : Ending) (w' : World) : Prop := ∃ x, e = .returned (.pointer (some ⟨x, 0, none⟩)) ∧ Bk w' w.heap.size x l ∧ Below w.heap.size w w'
set_option maxHeartbeats 1000000 in
theorem bbuild_any (w : World) (xs : List TxV) (a : Option Addr) (cap : Nat) (hts : Ts w a xs) (hl : xs.length ≤ 1000) (hx : ∀ x ∈ xs, x.text.length ≤ 1000) :
    Calls Try.prog 11 #[.slice a xs.length cap] w (GivesBk w (xs.map TxV.text)) := by
  have HT := Lib.hid hts
  have HX := Lib.hid hx
  clear hts hx
  go_enter Try.func11, Try.ntmps11
  go_wp2
  go_loopw [3, 8] (fun v i wr => ∃ (k : Nat) (zs : List TxV), k ≤ xs.length ∧ i = .int .i64 k ∧ zs.map TxV.text = turned ((xs.map TxV.text).take k) ∧ zs.length ≤ k ∧ wr.ownsRow w.heap.size 44 1 v zs.length (tvals zs) ∧ (∀ z ∈ zs, Txt wr w.heap.size z.a z.text) ∧ Below w.heap.size w wr) (fun _ i _ => xs.length - (intOf i).toNat)
  case atStart => exact ⟨0, [], Nat.zero_le _, rfl, by simp [turned], Nat.le_refl _, World.ownsRow_nil _ _ _ _, by simp, Below.refl _ _⟩
  case round =>
    obtain ⟨k, zs, hk, rfl, hzs, hzk, hown, hbs, hbel⟩ := hrel
    by_cases hlt : k < xs.length
    · obtain ⟨⟨b, off, rfl, hbl, hc⟩, hbx⟩ : (∃ b off, a = some ⟨b, off, none⟩ ∧ b < w.heap.size ∧ ∀ i (h : i < xs.length), w.cell? ⟨b, off + i, none⟩ = some (.slice xs[i].a xs[i].text.length xs[i].cap)) ∧ Bs w w.heap.size xs[k].a xs[k].text :=
        ⟨HT.out.1 (by omega), HT.out.2 _ (List.getElem_mem hlt)⟩
      have hck : wr.cell? ⟨b, off + k, none⟩ = some (.slice xs[k].a xs[k].text.length xs[k].cap) := (hbel.cell (p := ⟨b, off + k, none⟩) hbl).trans (hc k hlt)
      have hxl : xs[k].text.length ≤ 1000 := HX.out _ (List.getElem_mem hlt)
      have hsn : turned ((xs.map TxV.text).take (k + 1)) = if xs[k].text = [] then turned ((xs.map TxV.text).take k) else turned ((xs.map TxV.text).take k) ++ [xs[k].text.reverse] := by
        rw [← turned_snoc, List.take_succ_eq_append_getElem (by simpa using hlt), List.getElem_map]
      have HBX := Lib.hid ((hbx.keep hbel).more hbel.size)
      have HS := Lib.hid hsn
      have HZ := Lib.hid (show zs.map TxV.text = turned ((xs.map TxV.text).take k) ∧ (∀ z ∈ zs, Txt wr w.heap.size z.a z.text) ∧ Below w.heap.size w wr from ⟨hzs, hbs, hbel⟩)
      have HO := Lib.hid hown
      have hsz := hbel.size
      clear hsn hc hbx hzs hbs hbel hown
      generalize xs[k] = X at *
      by_cases he : X.text = []
      · have hd : X.text.length = 0 := by rw [he]; rfl
        have HE := Lib.hid he
        clear he
        have hd1 : ¬ (0 < (X.text.length : Int)) := by omega
        go_wp2
        go_roundw
        case rel => exact ⟨k + 1, zs, by omega, by go_num, by rw [HS.out, if_pos HE.out]; exact HZ.out.1, by omega, HO.out, HZ.out.2.1, HZ.out.2.2⟩
        case measure => simp [intOf]; omega
      · have hd : 0 < X.text.length := List.length_pos_iff.2 he
        have HE := Lib.hid he
        have htu := turn_any wr X.text X.a X.cap HBX.out (by omega)
        obtain ⟨R, hR⟩ : ∃ R, R = X.text.reverse := ⟨_, rfl⟩
        rw [← hR] at htu
        have HTU := Lib.hid htu
        have HR := Lib.hid hR
        clear he htu hR
        go_wp2_with (first
          | (go_at_call 31; (with_reducible refine HTU.out.mono ?_); rintro e w1 ⟨a1, c1, rfl, ht1, hlc1, hnc1, hb1⟩; have HB1 := Lib.hid (show Txt w1 wr.heap.size a1 R ∧ R.length ≤ c1 ∧ (a1 = none → c1 = 0) ∧ Below wr.heap.size wr w1 from ⟨ht1, hlc1, hnc1, hb1⟩); have hs1 := hb1.size; clear ht1 hlc1 hnc1 hb1)
          | (at_builtin; refine app_ts rfl _ _ rfl w.heap.size _ _ zs ⟨R, a1, c1, HB1.out.2.2.1⟩ rfl ((own_keep HO.out HB1.out.2.2.2).alloc _) ⟨w1.heap.size, 0, none⟩ rfl (cell_new1 _ _ _) (by omega) (by simp; omega) ?_; intro v2 w2 hown2 hg2))
        have h1 := HB1.out
        have hz := HZ.out
        have ho1 := own_keep HO.out h1.2.2.2
        have hb3 := ((hz.2.2.trans (h1.2.2.2.mono hsz)).alloc (by omega) (.cells #[Value.slice a1 R.length c1] 44)).grown hg2 (by simp; omega) (fun j hj => own_ge HO.out hj)
        have hrow : ∀ r cs fr, u3.ownBlock = some r → (w1.alloc (.cells #[Value.slice a1 R.length c1] 44)).heap[r]? ≠ some (.cells cs 5 fr) := fun r cs fr hr e => by
          obtain ⟨_, _, cs', h⟩ := own_block_lt (ho1.alloc (.cells #[Value.slice a1 R.length c1] 44)) hr
          rw [h] at e
          cases e
        go_roundw
        case rel =>
          refine ⟨k + 1, zs ++ [⟨R, a1, c1, h1.2.2.1⟩], by omega, by go_num, ?_, by simp; omega, by rw [List.length_append]; exact hown2, ?_, hb3⟩
          · rw [HS.out, if_neg HE.out, List.map_append, hz.1, ← HR.out]; rfl
          · intro z hzm
            rcases List.mem_append.1 hzm with hzm | hzm
            · exact txt_grown (((hz.2.1 z hzm).keep h1.2.2.2).keep ((Below.refl _ _).alloc (Nat.le_refl _) _)) hg2 hrow
            · obtain rfl := List.mem_singleton.1 hzm
              exact txt_grown ((h1.1.keep ((Below.refl _ _).alloc (Nat.le_refl _) _)).less hsz) hg2 hrow
        case measure => simp [intOf]; omega
    · have hke : k = xs.length := by omega
      subst hke
      rw [List.take_of_length_le (by simp)] at hzs
      obtain ⟨a0, c0, rfl, hts0, _, _⟩ := own_ts hown (fun z hz => (hbs z hz).bs)
      have hlz : zs.length ≤ 1000 := by omega
      have hti : ∀ x ∈ zs.map TxV.text, x.length ≤ 1000 := fun x hx => by
        rw [hzs] at hx
        obtain ⟨_, h2⟩ := (mem_turned _ x).1 hx
        obtain ⟨y, hy, e⟩ := List.mem_map.1 h2
        have := HX.out y hy
        rw [e, List.length_reverse] at this
        exact this
      have htot : tot (zs.map TxV.text) ≤ 100000000 := by
        have h1 := tot_le _ 1000 hti
        rw [List.length_map] at h1
        have h2 : zs.length * 1000 ≤ 1000 * 1000 := Nat.mul_le_mul_right _ hlz
        omega
      have HB := Lib.hid (build_any wr zs a0 c0 hts0 (by omega) htot)
      have HZ := Lib.hid hzs
      have HE := Lib.hid hbel
      clear hzs hbs hown hbel hts0 hti htot
      go_wp2_with (go_at_call 32; (with_reducible refine HB.out.mono ?_); rintro e w1 ⟨t, rfl, ht, hb1⟩; have HT1 := Lib.hid ht; have HB1 := Lib.hid hb1; clear ht hb1)
      go_ret
      have hs1 := HB1.out.size
      have hsw := HE.out.size
      have hb2 : Below w.heap.size w (w1.alloc (.cells #[.pointer (some ⟨t, 0, none⟩)] 42)) := (HE.out.trans (HB1.out.mono hsw)).alloc (by omega) _
      refine ⟨w1.heap.size, rfl, ⟨by omega, t, heap_alloc_new w1 _, ?_, fun x hx => ?_⟩, hb2⟩
      case refine_2 => obtain ⟨y, hy, rfl⟩ := List.mem_map.1 hx; exact HX.out y hy
      rw [← HZ.out]
      exact (HT1.out.less hsw).keep ((Below.refl _ _).alloc (Nat.le_refl _) _)
end Go.Proofs.Ytgdpelpepgpegaa.Bck
