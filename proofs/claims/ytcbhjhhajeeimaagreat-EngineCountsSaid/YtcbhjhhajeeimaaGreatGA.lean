/- Package by package: B1 B2 B3 Ba Bb. -/
import Derived.Test.YtcbhjhhajeeimaaGreatGM
import Derived.Test.YtcbhjhhajeeimaaGreatGR
import Derived.Test.YtcbhjhhajeeimaaGreatGT
/- slices.Clone and slices.Reverse of bytes; Turn. -/
namespace Go.Proofs.YtcbhjhhajeeimaaGreat.Bck
open Go.RowKit Go.Maps Go.Proofs.YtcbhjhhajeeimaaGreat.Tri Go.Proofs.YtcbhjhhajeeimaaGreat.Cwl
set_option maxRecDepth 100000
set_option linter.unusedVariables false

set_option maxHeartbeats 2000000 in
theorem sclone_some (l : Tx) (ad : Addr) (cap : Nat) (w : World) (hl : l.length ≤ 1000000000000) (hb : Bs w w.heap.size (some ad) l) :
    Calls Tryz.prog 53 #[.slice (some ad) l.length cap] w (GivesText w l) := by
  obtain ⟨i0, hi, hz0, hz1, hz2⟩ := info_parts info5
  have q22 := Met.eql_nil22
  have HB := Lib.hid hb
  clear hb
  go_enter Tryz.func53, Tryz.ntmps53
  go_wp2_with (at_builtin; refine wpList_append_own _ rfl _ _ 23 rfl w.heap.size 5 i0 (.int .u8 0) 1 1 und22 hi hz0 hz1 hz2 rfl (by decide) _ _ _ rfl (World.ownsRow_made w #[] 0 (Nat.le_refl _) (Nat.zero_le _) rfl) ad l.length cap (vals l) rfl ?qc1 ?qc2 ?qc3 ?qc4 ?qc5 ?qc6 ?_)
  case qc1 => simp [vals]
  case qc2 =>
    intro j u hj
    have hjn : j < l.length := by have := (List.getElem?_eq_some_iff.1 hj).1; simpa [vals] using this
    obtain ⟨b, off, e, hlt, hc⟩ := HB.out (by omega)
    cases e
    have ea : (⟨b, off, none⟩ : Addr).add j = ⟨b, off + j, none⟩ := by unfold Addr.add; split <;> simp_all
    rw [ea]
    have hcc := hc j hjn
    refine Lib.cell?_alloc_some _ ?_
    rw [hcc]
    simpa [vals, hjn] using hj
  case qc3 => intro u hu; obtain ⟨x, _, rfl⟩ := List.mem_map.1 hu; rfl
  case qc4 => unfold maxLen; omega
  case qc5 => omega
  case qc6 => simp
  intro v' w1 hown hgrow hnil
  go_wp2
  go_ret
  obtain ⟨a, c, rfl, ht, hlc, hnc⟩ := own_txt (l := l) (by simpa using hown)
  exact ⟨a, c, rfl, ht, hlc, hnc, ((Below.refl _ w).alloc (Nat.le_refl _) _).grown hgrow (by simp) (by intro k hk; simp [Value.ownBlock] at hk; omega)⟩
set_option maxHeartbeats 1000000 in
theorem sclone_none (n cap : Nat) (w : World) : Calls Tryz.prog 53 #[.slice none n cap] w (GivesText w []) := by
  have q22 := Met.eql_nil22
  go_enter Tryz.func53, Tryz.ntmps53
  go_wp2
  go_ret
  exact ⟨none, 0, rfl, (fun h => absurd h (by simp)), Nat.le_refl _, fun _ => rfl, Below.refl _ _⟩
theorem sclone_any (l : Tx) (a : Option Addr) (cap : Nat) (w : World) (hl : l.length ≤ 1000000000000) (hb : Bs w w.heap.size a l) :
    Calls Tryz.prog 53 #[.slice a l.length cap] w (GivesText w l) := by
  cases a with
  | some ad => exact sclone_some l ad cap w hl hb
  | none =>
    rcases Nat.eq_zero_or_pos l.length with h0 | h0
    · obtain rfl := List.eq_nil_of_length_eq_zero h0
      exact sclone_none _ cap w
    · obtain ⟨b, off, e, _⟩ := hb h0
      cases e
/-- The first k bytes and the last k ones have changed places. -/
def Swp (l : Tx) (k : Nat) (m : Tx) : Prop := m.length = l.length ∧ ∀ p, p < l.length → m[p]? = if p < k ∨ l.length - k ≤ p then l[l.length - 1 - p]? else l[p]?
theorem swp_zero (l : Tx) : Swp l 0 l := ⟨rfl, fun p hp => by rw [if_neg (by omega)]⟩
theorem swp_done {l m : Tx} {k : Nat} (h : Swp l k m) (hk : l.length ≤ 2 * k + 1) : m = l.reverse := by
  refine List.ext_getElem? fun p => ?_
  rcases Nat.lt_or_ge p l.length with hp | hp
  · rw [h.2 p hp, List.getElem?_reverse hp]
    split
    · rfl
    · rename_i hn
      congr 1
      omega
  · rw [List.getElem?_eq_none (by rw [h.1]; exact hp), List.getElem?_eq_none (by simpa using hp)]
theorem swp_next {l m : Tx} {k : Nat} (h : Swp l k m) (hk : 2 * k + 1 < l.length) {x y : UInt8} (hx : m[k]? = some x) (hy : m[l.length - 1 - k]? = some y) : Swp l (k + 1) ((m.set k y).set (l.length - 1 - k) x) := by
  obtain ⟨h1, h2⟩ := h
  refine ⟨by simp [h1], fun p hp => ?_⟩
  have ex : l[k]? = some x := by have := h2 k (by omega); rw [if_neg (by omega), hx] at this; exact this.symm
  have ey : l[l.length - 1 - k]? = some y := by have := h2 (l.length - 1 - k) (by omega); rw [if_neg (by omega), hy] at this; exact this.symm
  by_cases e1 : p = l.length - 1 - k
  · subst e1
    rw [List.getElem?_set_self (by simp [h1]; omega), if_pos (.inr (by omega)), ← ex]
    congr 1
    omega
  · rw [List.getElem?_set_ne (fun e => e1 e.symm)]
    by_cases e2 : p = k
    · subst e2
      rw [List.getElem?_set_self (by omega), if_pos (.inl (by omega)), ey]
    · rw [List.getElem?_set_ne (fun e => e2 e.symm), h2 p hp]
      split
      · rw [if_pos (by omega)]
      · rw [if_neg (by omega)]
theorem txt_put {w : World} {base g i : Nat} {l : List UInt8} (h : Txt w base (some ⟨g, 0, none⟩) l) (x : UInt8) : Txt (w.setCell ⟨g, i, none⟩ (.int .u8 (x.toNat : Int))) base (some ⟨g, 0, none⟩) (l.set i x) := Met.Txt.set h x
theorem txt_there {w : World} {s : Nat} {a : Option Addr} {l : Tx} (h : Txt w s a l) (h0 : 0 < l.length) : ∃ g, a = some ⟨g, 0, none⟩ ∧ s ≤ g ∧ g < w.heap.size ∧ (∀ i, w.frozen? ⟨g, i, none⟩ = false) ∧ ∀ (i : Nat) x, l[i]? = some x → w.cell? ⟨g, i, none⟩ = some (.int .u8 (x.toNat : Int)) := by
  obtain ⟨b, cs, rfl, hs, hh, hc⟩ := h h0
  refine ⟨b, rfl, hs, txt_lt hh, fun i => by simp [World.frozen?, hh], fun i x hx => ?_⟩
  obtain ⟨hi, rfl⟩ := List.getElem?_eq_some_iff.1 hx
  rw [cell_of_row w b _ _ 5 (0, 0) hh]
  exact hc i hi
set_option maxHeartbeats 1000000 in
/-- A text of the call's own is turned round in its place. -/
theorem reverse_any (w : World) (s : Nat) (l : Tx) (a : Option Addr) (c : Nat) (ht : Txt w s a l) (hl : l.length ≤ 1000000) (hs : s ≤ w.heap.size) :
    Calls Tryz.prog 94 #[.slice a l.length c] w fun e w' => e = .returned (.tuple #[]) ∧ Txt w' s a l.reverse ∧ Below s w w' := by
  have HT := Lib.hid ht
  clear ht
  go_enter Tryz.func94, Tryz.ntmps94
  go_wp2
  go_loopw [2, 3] (fun x y wr => ∃ (k : Nat) (m : Tx), 2 * k ≤ l.length + 1 ∧ x = .int .i64 (k : Int) ∧ y = .int .i64 ((l.length : Int) - 1 - k) ∧ Swp l k m ∧ Txt wr s a m ∧ Below s w wr) (fun x y _ => (intOf y + 2 - intOf x).toNat)
  case atStart => exact ⟨0, l, by omega, rfl, by simp, swp_zero l, HT.out, Below.refl _ _⟩
  case round =>
    obtain ⟨k, m, hk, rfl, rfl, hsw, htx, hbel⟩ := hrel
    by_cases hlt : 2 * k + 1 < l.length
    · have hml := hsw.1
      obtain ⟨g, rfl, hg, hgl, hfz, hc⟩ := txt_there htx (by omega)
      obtain ⟨x, hx⟩ : ∃ x, m[k]? = some x := ⟨_, List.getElem?_eq_getElem (by omega)⟩
      obtain ⟨y, hy⟩ : ∃ y, m[l.length - 1 - k]? = some y := ⟨_, List.getElem?_eq_getElem (by omega)⟩
      have c1 := hc k x hx
      have c2 := hc (l.length - 1 - k) y hy
      have f1 := hfz k
      have f2 := hfz (l.length - 1 - k)
      have hlt1 : (k : Int) < (l.length : Int) - 1 - k := by omega
      obtain ⟨q, hq⟩ : ∃ q, q = l.length - 1 - k := ⟨_, rfl⟩
      have hqi : (l.length : Int) - 1 - k = (q : Int) := by omega
      rw [hqi] at hlt1 ⊢
      rw [← hq] at c2 f2
      have HH := Lib.hid (show Swp l k m ∧ Txt wr s (some ⟨g, 0, none⟩) m ∧ Below s w wr from ⟨hsw, htx, hbel⟩)
      have HQ := Lib.hid (show q = l.length - 1 - k ∧ m[k]? = some x ∧ m[q]? = some y ∧ 2 * k + 1 < l.length ∧ s ≤ g from ⟨hq, hx, by rw [hq]; exact hy, hlt, hg⟩)
      have hk1 : k < l.length := by omega
      have hq1 : q < l.length := by omega
      clear hsw htx hbel hc hfz hx hy hq hqi hml hlt hg
      go_wp2
      go_region
      go_wp2
      have hq := HQ.out
      have hh := HH.out
      refine ⟨⟨k + 1, (m.set k y).set q x, by omega, by go_num, ?_, ?_, ?_, ?_⟩, ?_⟩
      · have : (q : Int) - 1 = (l.length : Int) - 1 - ((k + 1 : Nat) : Int) := by have := hq.1; omega
        rw [← this]
      · have := swp_next hh.1 hq.2.2.2.1 hq.2.1 (by rw [← hq.1]; exact hq.2.2.1)
        rw [← hq.1] at this
        exact this
      · exact (txt_put (txt_put hh.2.1 y) x).keep (below_drews (Below.refl _ _) 1)
      · exact below_drews ((hh.2.2.setCell (p := ⟨g, k, none⟩) hq.2.2.2.2 _).setCell (p := ⟨g, q, none⟩) hq.2.2.2.2 _) 1
      · simp [intOf]; omega
    · have hlt1 : ¬ ((k : Int) < (l.length : Int) - 1 - k) := by omega
      have HH := Lib.hid (show m = l.reverse ∧ Txt wr s a m ∧ Below s w wr from ⟨swp_done hsw (by omega), htx, hbel⟩)
      clear hsw htx hbel hlt
      go_wp2
      go_end0
      obtain ⟨rfl, h1, h2⟩ := HH.out
      exact ⟨rfl, h1, h2⟩
theorem turn_any (w : World) (b : Tx) (a : Option Addr) (c : Nat) (hb : Bs w w.heap.size a b) (hl : b.length ≤ 1000000) :
    Calls Tryz.prog 77 #[.slice a b.length c] w (GivesText w b.reverse) := by
  have HC := Lib.hid (sclone_any b a c w (by omega) hb)
  clear hb
  go_enter Tryz.func77, Tryz.ntmps77
  go_wp2_with fail
  refine HC.out.mono ?_
  rintro e w1 ⟨a1, c1, rfl, ht, hlc, hnc, hb1⟩
  have HR := Lib.hid (reverse_any w1 w.heap.size b a1 c1 ht hl hb1.size)
  have HB := Lib.hid (show b.length ≤ c1 ∧ (a1 = none → c1 = 0) ∧ Below w.heap.size w w1 from ⟨hlc, hnc, hb1⟩)
  clear ht hlc hnc hb1
  go_wp2_with fail
  refine HR.out.mono ?_
  rintro e w2 ⟨rfl, ht2, hb2⟩
  have HT := Lib.hid ht2
  have HB2 := Lib.hid hb2
  clear ht2 hb2
  go_wp2
  go_ret
  refine ⟨a1, c1, by rw [List.length_reverse]; rfl, HT.out, by rw [List.length_reverse]; exact HB.out.1, HB.out.2.1, HB.out.2.2.trans HB2.out⟩
end Go.Proofs.YtcbhjhhajeeimaaGreat.Bck
/- A Back in memory; Build. -/
namespace Go.Proofs.YtcbhjhhajeeimaaGreat.Bck
open Go.RowKit Go.Maps Go.Proofs.YtcbhjhhajeeimaaGreat.Tri Go.Proofs.YtcbhjhhajeeimaaGreat.Cwl Go.Proofs.YtcbhjhhajeeimaaGreat.Reg
set_option maxRecDepth 100000
set_option linter.unusedVariables false

/-- A Back of some texts, at a block; all that is its own lies at s or above. -/
def Bk (w : World) (s x : Nat) (l : List Tx) : Prop := s ≤ x ∧ ∃ t, w.heap[x]? = some (.cells #[.pointer (some ⟨t, 0, none⟩)] 163 (0, 0)) ∧ Tr w s t (paths (turned l)) (turned l) ∧ ∀ x ∈ l, x.length ≤ 1000
theorem Bk.keep {w w' : World} {s x : Nat} {l : List Tx} (h : Bk w s x l) (hb : Below w.heap.size w w') : Bk w' s x l := by
  obtain ⟨hs, t, h1, h2, h3⟩ := h
  exact ⟨hs, t, (hb.block x (txt_lt h1)).trans h1, h2.keep hb, h3⟩
theorem Bk.tree {w : World} {s x : Nat} {l : List Tx} (h : Bk w s x l) : ∃ t, w.cell? ⟨x, 0, none⟩ = some (.pointer (some ⟨t, 0, none⟩)) ∧ Tr w s t (paths (turned l)) (turned l) := by
  obtain ⟨_, t, h1, h2, _⟩ := h
  exact ⟨t, by rw [cell_of_row w x 0 _ 163 (0, 0) h1]; rfl, h2⟩
/-- Bytes as they are handed in. -/
def Ln (w : World) (al : Option Addr) (line : Tx) (cl : Nat) : Prop := Bs w w.heap.size al line ∧ line.length ≤ cl ∧ (al = none → cl = 0)
theorem Ln.keep {w w' : World} {al : Option Addr} {line : Tx} {cl : Nat} (h : Ln w al line cl) (hb : Below w.heap.size w w') : Ln w' al line cl := ⟨(h.1.keep hb).more hb.size, h.2⟩
theorem ln_own {w : World} {base n : Nat} {v : Value} {l : Tx} (h : w.ownsRow base 5 1 v n (vals l)) : ∃ a c, v = .slice a l.length c ∧ Ln w a l c := by
  obtain ⟨a, c, e, ht, hc, hn⟩ := own_txt h
  exact ⟨a, c, e, ht.bs, hc, hn⟩
theorem ln_txt {w : World} {s : Nat} {a : Option Addr} {l : Tx} {c : Nat} (h : Txt w s a l) (hc : l.length ≤ c) (hn : a = none → c = 0) : Ln w a l c := ⟨h.bs, hc, hn⟩
def GivesBk (w : World) (l : List Tx) (e : Ending) (w' : World) : Prop := ∃ x, e = .returned (.pointer (some ⟨x, 0, none⟩)) ∧ Bk w' w.heap.size x l ∧ Below w.heap.size w w'
set_option maxHeartbeats 1000000 in
theorem bbuild_any (w : World) (xs : List TxV) (a : Option Addr) (cap : Nat) (hts : Ts w a xs) (hl : xs.length ≤ 1000) (hx : ∀ x ∈ xs, x.text.length ≤ 1000) :
    Calls Tryz.prog 57 #[.slice a xs.length cap] w (GivesBk w (xs.map TxV.text)) := by
  have HT := Lib.hid hts
  have HX := Lib.hid hx
  clear hts hx
  go_enter Tryz.func57, Tryz.ntmps57
  go_wp2
  go_loopw [3, 8] (fun v i wr => ∃ (k : Nat) (zs : List TxV), k ≤ xs.length ∧ i = .int .i64 k ∧ zs.map TxV.text = turned ((xs.map TxV.text).take k) ∧ zs.length ≤ k ∧ wr.ownsRow w.heap.size 23 1 v zs.length (tvals zs) ∧ (∀ z ∈ zs, Txt wr w.heap.size z.a z.text) ∧ Below w.heap.size w wr) (fun _ i _ => xs.length - (intOf i).toNat)
  case atStart => exact ⟨0, [], Nat.zero_le _, rfl, by simp [turned], Nat.le_refl _, World.ownsRow_nil _ _ _ _, by simp, Below.refl _ _⟩
  case round =>
    obtain ⟨k, zs, hk, rfl, hzs, hzk, hown, hbs, hbel⟩ := hrel
    by_cases hlt : k < xs.length
    · obtain ⟨⟨b, off, rfl, hbl, hc⟩, hbx⟩ : (∃ b off, a = some ⟨b, off, none⟩ ∧ b < w.heap.size ∧ ∀ i (h : i < xs.length), w.cell? ⟨b, off + i, none⟩ = some (.slice xs[i].a xs[i].text.length xs[i].cap)) ∧ Bs w w.heap.size xs[k].a xs[k].text :=
        ⟨HT.out.1 (by omega), HT.out.2 _ (List.getElem_mem hlt)⟩
      have hck : wr.cell? ⟨b, off + k, none⟩ = some (.slice xs[k].a xs[k].text.length xs[k].cap) := (hbel.cell (p := ⟨b, off + k, none⟩) hbl).trans (hc k hlt)
      have hxl : xs[k].text.length ≤ 1000 := HX.out _ (List.getElem_mem hlt)
      have hsn : turned ((xs.map TxV.text).take (k + 1)) = if xs[k].text = [] then turned ((xs.map TxV.text).take k) else turned ((xs.map TxV.text).take k) ++ [xs[k].text.reverse] := by
        rw [← turned_snoc, List.take_succ_eq_append_getElem (by simpa using hlt), List.getElem_map]
      have HBX := Lib.hid ((hbx.keep hbel).more hbel.size)
      have HS := Lib.hid hsn
      have HZ := Lib.hid (show zs.map TxV.text = turned ((xs.map TxV.text).take k) ∧ (∀ z ∈ zs, Txt wr w.heap.size z.a z.text) ∧ Below w.heap.size w wr from ⟨hzs, hbs, hbel⟩)
      have HO := Lib.hid hown
      have hsz := hbel.size
      clear hsn hc hbx hzs hbs hbel hown
      generalize xs[k] = X at *
      by_cases he : X.text = []
      · have hd : X.text.length = 0 := by rw [he]; rfl
        have HE := Lib.hid he
        clear he
        have hd1 : ¬ (0 < (X.text.length : Int)) := by omega
        go_wp2
        go_roundw
        case rel => exact ⟨k + 1, zs, by omega, by go_num, by rw [HS.out, if_pos HE.out]; exact HZ.out.1, by omega, HO.out, HZ.out.2.1, HZ.out.2.2⟩
        case measure => simp [intOf]; omega
      · have hd : 0 < X.text.length := List.length_pos_iff.2 he
        have HE := Lib.hid he
        have htu := turn_any wr X.text X.a X.cap HBX.out (by omega)
        obtain ⟨R, hR⟩ : ∃ R, R = X.text.reverse := ⟨_, rfl⟩
        rw [← hR] at htu
        have HTU := Lib.hid htu
        have HR := Lib.hid hR
        clear he htu hR
        go_wp2_with (first
          | (go_at_call 77; (with_reducible refine HTU.out.mono ?_); rintro e w1 ⟨a1, c1, rfl, ht1, hlc1, hnc1, hb1⟩; have HB1 := Lib.hid (show Txt w1 wr.heap.size a1 R ∧ R.length ≤ c1 ∧ (a1 = none → c1 = 0) ∧ Below wr.heap.size wr w1 from ⟨ht1, hlc1, hnc1, hb1⟩); have hs1 := hb1.size; clear ht1 hlc1 hnc1 hb1)
          | (at_builtin; refine app_ts rfl _ _ rfl w.heap.size _ _ zs ⟨R, a1, c1, HB1.out.2.2.1⟩ rfl ((own_keep HO.out HB1.out.2.2.2).alloc _) ⟨w1.heap.size, 0, none⟩ rfl (cell_new1 _ _ _) (by omega) (by simp; omega) ?_; intro v2 w2 hown2 hg2))
        have h1 := HB1.out
        have hz := HZ.out
        have ho1 := own_keep HO.out h1.2.2.2
        have hb3 := ((hz.2.2.trans (h1.2.2.2.mono hsz)).alloc (by omega) (.cells #[Value.slice a1 R.length c1] 23)).grown hg2 (by simp; omega) (fun j hj => own_ge HO.out hj)
        have hrow : ∀ r cs fr, u3.ownBlock = some r → (w1.alloc (.cells #[Value.slice a1 R.length c1] 23)).heap[r]? ≠ some (.cells cs 5 fr) := fun r cs fr hr e => by
          obtain ⟨_, _, cs', h⟩ := own_block_lt (ho1.alloc (.cells #[Value.slice a1 R.length c1] 23)) hr
          rw [h] at e
          cases e
        go_roundw
        case rel =>
          refine ⟨k + 1, zs ++ [⟨R, a1, c1, h1.2.2.1⟩], by omega, by go_num, ?_, by simp; omega, by rw [List.length_append]; exact hown2, ?_, hb3⟩
          · rw [HS.out, if_neg HE.out, List.map_append, hz.1, ← HR.out]; rfl
          · intro z hzm
            rcases List.mem_append.1 hzm with hzm | hzm
            · exact txt_grown (((hz.2.1 z hzm).keep h1.2.2.2).keep ((Below.refl _ _).alloc (Nat.le_refl _) _)) hg2 hrow
            · obtain rfl := List.mem_singleton.1 hzm
              exact txt_grown ((h1.1.keep ((Below.refl _ _).alloc (Nat.le_refl _) _)).less hsz) hg2 hrow
        case measure => simp [intOf]; omega
    · have hke : k = xs.length := by omega
      subst hke
      rw [List.take_of_length_le (by simp)] at hzs
      obtain ⟨a0, c0, rfl, hts0, _, _⟩ := own_ts hown (fun z hz => (hbs z hz).bs)
      have hlz : zs.length ≤ 1000 := by omega
      have hti : ∀ x ∈ zs.map TxV.text, x.length ≤ 1000 := fun x hx => by
        rw [hzs] at hx
        obtain ⟨_, h2⟩ := (mem_turned _ x).1 hx
        obtain ⟨y, hy, e⟩ := List.mem_map.1 h2
        have := HX.out y hy
        rw [e, List.length_reverse] at this
        exact this
      have htot : tot (zs.map TxV.text) ≤ 100000000 := by
        have h1 := tot_le _ 1000 hti
        rw [List.length_map] at h1
        have h2 : zs.length * 1000 ≤ 1000 * 1000 := Nat.mul_le_mul_right _ hlz
        omega
      have HB := Lib.hid (build_any wr zs a0 c0 hts0 (by omega) htot)
      have HZ := Lib.hid hzs
      have HE := Lib.hid hbel
      clear hzs hbs hown hbel hts0 hti htot
      go_wp2_with (go_at_call 44; (with_reducible refine HB.out.mono ?_); rintro e w1 ⟨t, rfl, ht, hb1⟩; have HT1 := Lib.hid ht; have HB1 := Lib.hid hb1; clear ht hb1)
      go_ret
      have hs1 := HB1.out.size
      have hsw := HE.out.size
      have hb2 : Below w.heap.size w (w1.alloc (.cells #[.pointer (some ⟨t, 0, none⟩)] 163)) := (HE.out.trans (HB1.out.mono hsw)).alloc (by omega) _
      refine ⟨w1.heap.size, rfl, ⟨by omega, t, heap_alloc_new w1 _, ?_, fun x hx => ?_⟩, hb2⟩
      case refine_2 => obtain ⟨y, hy, rfl⟩ := List.mem_map.1 hx; exact HX.out y hy
      rw [← HZ.out]
      exact (HT1.out.less hsw).keep ((Below.refl _ _).alloc (Nat.le_refl _) _)
end Go.Proofs.YtcbhjhhajeeimaaGreat.Bck
/- What a Back tells: Whole, End, Least, Near. -/
namespace Go.Proofs.YtcbhjhhajeeimaaGreat.Bck
open Go.RowKit Go.Maps Go.Proofs.YtcbhjhhajeeimaaGreat.Tri Go.Proofs.YtcbhjhhajeeimaaGreat.Cwl Go.Proofs.YtcbhjhhajeeimaaGreat.Reg
set_option maxRecDepth 100000
set_option linter.unusedVariables false

/-- The least depth of the nodes behind the root that are asked for, as the loop finds it: of the first k. -/
def nstep (a d : Nat) (b : Bool) : Nat := if (a = 0 ∨ d < a) ∧ b = true then d else a
def nestTo (ps : List Tx) (P : Nat → Bool) : Nat → Nat
  | 0 => 0
  | k + 1 => if k = 0 then 0 else nstep (nestTo ps P k) (ps.getD k []).length (P k)
theorem nest_succ (ps : List Tx) (P : Nat → Bool) {k : Nat} (hk : 0 < k) (hl : k < ps.length) : nestTo ps P (k + 1) = nstep (nestTo ps P k) ps[k].length (P k) := by
  rw [nestTo, if_neg (by omega), List.getD_eq_getElem?_getD, List.getElem?_eq_getElem hl]; rfl
theorem nest_one (ps : List Tx) (P : Nat → Bool) : nestTo ps P 1 = 0 := rfl
/-- What it finds: nothing, or the least one. -/
def NestIs (ps : List Tx) (P : Nat → Bool) (k n : Nat) : Prop :=
  (n = 0 ∧ ∀ j, 0 < j → j < k → P j = false) ∨ (0 < n ∧ (∃ j, ∃ h : j < ps.length, 0 < j ∧ j < k ∧ P j = true ∧ ps[j].length = n) ∧ ∀ j (h : j < ps.length), 0 < j → j < k → P j = true → n ≤ ps[j].length)
theorem nest_is {ps : List Tx} (hw : Wf ps) (P : Nat → Bool) : ∀ k, k ≤ ps.length → NestIs ps P k (nestTo ps P k)
  | 0, _ => .inl ⟨rfl, fun j h1 h2 => by omega⟩
  | k + 1, hk => by
    by_cases h0 : k = 0
    · subst h0
      exact .inl ⟨rfl, fun j h1 h2 => by omega⟩
    have ih := nest_is hw P k (by omega)
    have hpos : 0 < ps[k].length := List.length_pos_iff.2 fun e => h0 ((hw.nil_iff (by omega)).1 e)
    rw [nest_succ ps P (by omega) (by omega)]
    unfold nstep
    split
    · rename_i hc
      refine .inr ⟨hpos, ⟨k, by omega, by omega, by omega, hc.2, rfl⟩, fun j hj h1 h2 h3 => ?_⟩
      by_cases e : j = k
      · subst e; exact Nat.le_refl _
      · rcases ih with ⟨_, h⟩ | ⟨_, _, h⟩
        · have := h j h1 (by omega); rw [this] at h3; cases h3
        · have := h j hj h1 (by omega) h3; omega
    · rename_i hc
      rcases ih with ⟨e0, h⟩ | ⟨e0, ⟨j, hj, h1, h2, h3, h4⟩, h⟩
      · refine .inl ⟨e0, fun j h1 h2 => ?_⟩
        by_cases e : j = k
        · subst e
          cases hp : P j
          · rfl
          · exact absurd ⟨.inl e0, hp⟩ hc
        · exact h j h1 (by omega)
      · refine .inr ⟨e0, ⟨j, hj, h1, by omega, h3, h4⟩, fun i hi h1 h2 h3 => ?_⟩
        by_cases e : i = k
        · subst e
          refine Nat.le_of_not_lt fun hlt => hc ⟨.inr hlt, h3⟩
        · exact h i hi h1 (by omega) h3
theorem nest_le {ps : List Tx} (P : Nat → Bool) (B : Nat) (hB : ∀ p ∈ ps, p.length ≤ B) : ∀ k, k ≤ ps.length → nestTo ps P k ≤ B
  | 0, _ => Nat.zero_le _
  | k + 1, hk => by
    by_cases h0 : k = 0
    · subst h0; exact Nat.zero_le _
    rw [nest_succ ps P (by omega) (by omega)]
    unfold nstep
    split
    · exact hB _ (List.getElem_mem (by omega))
    · exact nest_le P B hB k (by omega)
/-- Of the texts' nodes the least is the shortest text. -/
theorem nest_least {l : List Tx} (hl : ∀ x ∈ l, 0 < x.length) {P : Nat → Bool} (hP : ∀ j (h : j < (paths l).length), P j = decide ((paths l)[j] ∈ l)) : nestTo (paths l) P (paths l).length = Cwl.leastOf l := by
  have hw := paths_wf l
  by_cases h0 : l = []
  · subst h0; rfl
  obtain ⟨x, hx, ex⟩ := Cwl.least_is h0
  obtain ⟨j, hj, e⟩ := List.getElem_of_mem (paths_sub l x hx)
  have hj0 : 0 < j := Nat.pos_of_ne_zero fun e0 => by
    have h1 := (hw.nil_iff hj).2 e0
    have h2 := hl x hx
    rw [← e, h1] at h2
    simp at h2
  have hpj : P j = true := by rw [hP j hj, e]; exact decide_eq_true hx
  rcases nest_is hw P _ (Nat.le_refl _) with ⟨_, h⟩ | ⟨_, ⟨i, hi, h1, h2, h3, h4⟩, h⟩
  · rw [h j hj0 hj] at hpj; cases hpj
  · have g1 := h j hj hj0 hj hpj
    rw [hP i hi] at h3
    have g2 := Cwl.least_le hl (of_decide_eq_true h3)
    rw [e] at g1
    omega
/-- A byte leads to a node from its parent: it is the last one of its path. -/
theorem near_step {ps : List Tx} (hw : Wf ps) {j : Nat} (hj : j < ps.length) (h0 : 0 < j) (c : UInt8) : (stepOf ps (upOf ps (j : Int)) c == (j : Int)) = decide (ps[j][ps[j].length - 1]? = some c) := by
  have hne : ps[j] ≠ [] := fun e => by have := (hw.nil_iff hj).1 e; omega
  have hm := hw.closed_drop (List.getElem_mem hj) hne
  obtain ⟨i, hi, e1, e2, _⟩ := place_mem hm
  have hlast : ps[j] = ps[j].dropLast ++ [ps[j].getLast hne] := (List.dropLast_concat_getLast hne).symm
  have hg : ps[j][ps[j].length - 1]? = some (ps[j].getLast hne) := by rw [← List.getLast?_eq_getElem?, List.getLast?_eq_some_getLast hne]
  rw [upOf_at hj, if_neg hne, e1, stepOf_at hi, e2, Bool.eq_iff_iff, beq_iff_eq, decide_eq_true_iff, hg]
  constructor
  · intro h
    have hin : ps[j].dropLast ++ [c] ∈ ps := (place_nonneg ps _).1 (by omega)
    obtain ⟨k, hk, e3, e4, _⟩ := place_mem hin
    have : k = j := by omega
    subst this
    rw [hlast] at e4
    have := (List.append_inj' e4 rfl).2
    simpa using this
  · intro h
    obtain h := Option.some.inj h
    rw [← h, ← hlast]
    exact place_at hw.nodup hj
theorem nest_near {l : List Tx} {P : Nat → Bool} {c : UInt8} (hP : ∀ j (h : j < (paths l).length), 0 < j → P j = decide ((paths l)[j][(paths l)[j].length - 1]? = some c)) : nestTo (paths l) P (paths l).length = nearOf l c := by
  have hw := paths_wf l
  have key : ∀ x ∈ l, ∀ i : Nat, x[i]? = some c → ∃ j, ∃ h : j < (paths l).length, 0 < j ∧ P j = true ∧ (paths l)[j].length = i + 1 := fun x hx i hi => by
    have hlt := (List.getElem?_eq_some_iff.1 hi).1
    have hm : x.take (i + 1) ∈ paths l := (paths_mem l _).2 (.inr ⟨x, hx, x.drop (i + 1), List.take_append_drop _ _⟩)
    obtain ⟨j, hj, e⟩ := List.getElem_of_mem hm
    have hlen : (paths l)[j].length = i + 1 := by rw [e, List.length_take]; omega
    have hj0 : 0 < j := Nat.pos_of_ne_zero fun e0 => by
      have h1 := (hw.nil_iff hj).2 e0
      rw [h1] at hlen
      simp at hlen
    refine ⟨j, hj, hj0, ?_, hlen⟩
    rw [hP j hj hj0, hlen, e]
    refine decide_eq_true ?_
    rw [List.getElem?_take_of_lt (by omega)]
    exact hi
  have hpos : ∀ j (h : j < (paths l).length), 0 < j → 0 < (paths l)[j].length := fun j hj h0 => List.length_pos_iff.2 fun e => by have := (hw.nil_iff hj).1 e; omega
  refine (nearOf_is ?_).symm
  rcases nest_is hw P _ (Nat.le_refl _) with ⟨e0, h⟩ | ⟨e0, ⟨j, hj, h1, h2, h3, h4⟩, h⟩
  · refine .inl ⟨e0, fun x hx i hi => ?_⟩
    obtain ⟨j, hj, hj0, hp, _⟩ := key x hx i hi
    rw [h j hj0 hj] at hp; cases hp
  · refine .inr ⟨e0, ?_, fun x hx i hi => ?_⟩
    · rw [hP j hj h1] at h3
      have hc := of_decide_eq_true h3
      have hp := hpos j hj h1
      rcases (paths_mem l _).1 (List.getElem_mem hj) with e | ⟨x, hx, q, e⟩
      · rw [e] at hp; simp at hp
      · refine ⟨x, hx, ?_⟩
        rw [← h4, ← e, List.getElem?_append_left (by omega)]
        exact hc
    · obtain ⟨i2, hi2, g1, g2, g3⟩ := key x hx i hi
      have := h i2 hi2 g1 hi2 g2
      omega
theorem whole_eq {l : List Tx} (n : Int) (h0 : ∀ x ∈ l, 0 < x.length) : decide (0 ≤ wordOf (paths l) l n) = decide (pathD (paths l) n ∈ l) := by
  rw [Bool.eq_iff_iff, decide_eq_true_iff, decide_eq_true_iff]
  unfold wordOf pathD
  cases hp : pathOf (paths l) n with
  | none =>
    constructor
    · intro h; exact absurd h (show ¬ (0 : Int) ≤ -1 by decide)
    · intro h; have := h0 _ h; simp at this
  | some p => exact place_nonneg l p
theorem wf_deep {ps : List Tx} (hw : Wf ps) : ∀ i (h : i < ps.length), ps[i].length ≤ i := by
  intro i
  induction i using Nat.strongRecOn with
  | ind i ih =>
    intro h
    by_cases hn : ps[i] = []
    · rw [hn]; exact Nat.zero_le _
    · obtain ⟨j, hj, e⟩ := hw.up i h hn
      have h1 := ih j hj (by omega)
      have h2 := List.length_pos_iff.2 hn
      rw [e, List.length_dropLast] at h1
      omega
/-- A call of what is asked: for each node, in whatever comes of the world. -/
def Asks (W : World) (fn : FuncId) (pre caps : Array Value) (m : Nat) (P : Nat → Bool) : Prop :=
  (∀ (args : Array Value) (w : World), (callFunc fn args).run Tryz.prog w = .ok (.enter fn args) w) ∧
  ∀ X, Below W.heap.size W X → ∀ n : Nat, n < m → Calls Tryz.prog fn (pre.push (.int .i64 (n : Int)) ++ caps) X fun e w' => e = .returned (.bool (P n)) ∧ Below X.heap.size X w'
set_option maxHeartbeats 1000000 in
theorem nearest_any (w : World) {s : Nat} (x : Nat) (l : List Tx) (h : Bk w s x l) (fn : FuncId) (pre caps : Array Value) (P : Nat → Bool) (hA : Asks w fn pre caps (paths (turned l)).length P) :
    Calls Tryz.prog 82 #[.pointer (some ⟨x, 0, none⟩), .func (.func fn) pre caps] w fun e w' => e = .returned (.int .i64 (nestTo (paths (turned l)) P (paths (turned l)).length : Int)) ∧ Below w.heap.size w w' := by
  obtain ⟨t, hx, htr⟩ := h.tree
  have HH := Lib.hid (show Bk w s x l ∧ Tr w s t (paths (turned l)) (turned l) ∧ w.cell? ⟨x, 0, none⟩ = some (.pointer (some ⟨t, 0, none⟩)) from ⟨h, htr, hx⟩)
  have HA := Lib.hid hA
  have HP := Lib.hid (paths_wf (turned l))
  have HLEN := Lib.hid (show ∀ p ∈ paths (turned l), p.length ≤ 1000000000 from fun p hp => by
    obtain ⟨i, hi, rfl⟩ := List.getElem_of_mem hp
    have := wf_deep (paths_wf (turned l)) i hi
    have := htr.2.2.2.1
    omega)
  have hps : (paths (turned l)).length ≤ 1000000000 := htr.2.2.2.1
  have hxl := cell_lt0 hx
  clear h htr hA
  generalize paths (turned l) = ps at *
  go_enter Tryz.func82, Tryz.ntmps82
  go_wp2
  go_loopw [5, 6] (fun a i wr => ∃ k : Nat, 0 < k ∧ k ≤ ps.length ∧ i = .int .i64 k ∧ a = .int .i64 (nestTo ps P k : Int) ∧ Below w.heap.size w wr) (fun _ i _ => ps.length - (intOf i).toNat)
  case atStart => exact ⟨1, by omega, HP.out.pos, rfl, rfl, Below.refl _ _⟩
  case round =>
    obtain ⟨k, hk0, hk, rfl, rfl, hbel⟩ := hrel
    have hxw : wr.cell? ⟨x, 0, none⟩ = some (.pointer (some ⟨t, 0, none⟩)) := (hbel.cell (p := ⟨x, 0, none⟩) hxl).trans HH.out.2.2
    have HT := Lib.hid (HH.out.2.1.keep hbel)
    have HB := Lib.hid hbel
    have HN := Lib.hid (nodes_any wr s t ps (turned l) HT.out)
    have HD := Lib.hid (fun X (hX : Below wr.heap.size wr X) => depth_any X s t ps (turned l) (HT.out.keep hX) (k : Int))
    clear hbel hx
    by_cases hlt : k < ps.length
    · have HL := Lib.hid (show (pathD ps (k : Int)) = ps[k] from pathD_at hlt)
      have hdl : ps[k].length ≤ 1000000000 := HLEN.out _ (List.getElem_mem hlt)
      rw [HL.out] at HD
      have hns := nest_succ ps P hk0 hlt
      have HNS := Lib.hid hns
      have hnl := nest_le P 1000000000 HLEN.out k hk
      clear hns
      generalize ps[k] = p at *
      have HAS := Lib.hid (fun X (hX : Below wr.heap.size wr X) => HA.out.2 X (HB.out.trans (hX.mono HB.out.size)) k hlt)
      have hcf := HA.out.1
      generalize hA : nestTo ps P k = A at *
      clear hA
      go_wp2_with (first
        | (go_at_call 47; (with_reducible refine HN.out.mono ?_); rintro e w1 ⟨rfl, rfl⟩)
        | (go_at_call 78; (with_reducible refine (HD.out _ (Below.refl _ _)).mono ?_); rintro e w2 ⟨rfl, hb2⟩; have HB2 := Lib.hid hb2; clear hb2))
      · refine (HAS.out _ HB2.out).mono ?_
        rintro e w3 ⟨rfl, hb3⟩
        have HB3 := Lib.hid ((HB.out.trans (HB2.out.mono HB.out.size)).trans (hb3.mono (Nat.le_trans HB.out.size HB2.out.size)))
        clear hb3
        cases hP : P k
        all_goals go_wp2
        all_goals go_roundw
        case rel => exact ⟨k + 1, by omega, by omega, by go_num, by rw [HNS.out, nstep, if_neg (fun h => by rw [hP] at h; exact absurd h.2 (by simp)), show A = 0 by assumption]; rfl, HB3.out⟩
        case measure => simp [intOf]; omega
        case rel => exact ⟨k + 1, by omega, by omega, by go_num, by rw [HNS.out, nstep, if_pos ⟨by omega, hP⟩], HB3.out⟩
        case measure => simp [intOf]; omega
      · refine (HAS.out _ HB2.out).mono ?_
        rintro e w3 ⟨rfl, hb3⟩
        have HB3 := Lib.hid ((HB.out.trans (HB2.out.mono HB.out.size)).trans (hb3.mono (Nat.le_trans HB.out.size HB2.out.size)))
        clear hb3
        cases hP : P k
        all_goals go_wp2
        all_goals go_roundw
        case rel => exact ⟨k + 1, by omega, by omega, by go_num, by rw [HNS.out, nstep, if_neg (fun h => by rw [hP] at h; exact absurd h.2 (by simp))], HB3.out⟩
        case measure => simp [intOf]; omega
        case rel => exact ⟨k + 1, by omega, by omega, by go_num, by rw [HNS.out, nstep, if_pos ⟨by omega, hP⟩], HB3.out⟩
        case measure => simp [intOf]; omega
      · go_roundw
        case rel => exact ⟨k + 1, by omega, by omega, by go_num, by rw [HNS.out, nstep, if_neg (fun h => by omega)], HB.out.trans (HB2.out.mono HB.out.size)⟩
        case measure => simp [intOf]; omega
    · have hlt' : ¬ (k : Int) < (ps.length : Int) := by omega
      obtain rfl : k = ps.length := by omega
      go_wp2_with (go_at_call 47; (with_reducible refine HN.out.mono ?_); rintro e w1 ⟨rfl, rfl⟩)
      go_ret
      exact ⟨rfl, HB.out⟩
theorem call19 (args : Array Value) (w : World) : (callFunc 83 args).run Tryz.prog w = .ok (.enter 83 args) w := by simp [go_sem]
theorem call30 (args : Array Value) (w : World) : (callFunc 100 args).run Tryz.prog w = .ok (.enter 100 args) w := by simp [go_sem]
theorem turned_pos {l : List Tx} : ∀ x ∈ turned l, 0 < x.length := fun _ h => turned_ne h
theorem bwhole_any (w : World) {s : Nat} (x : Nat) (l : List Tx) (h : Bk w s x l) (n : Int) (hn : (Lit.int .i64 n).wf = true) :
    Calls Tryz.prog 83 #[.pointer (some ⟨x, 0, none⟩), .int .i64 n] w fun e w' => e = .returned (.bool (decide (pathD (paths (turned l)) n ∈ turned l))) ∧ Below w.heap.size w w' := by
  obtain ⟨t, hx, htr⟩ := h.tree
  have HW := Lib.hid (word_any w s t _ _ htr n)
  have HE := Lib.hid (whole_eq (l := turned l) n turned_pos)
  clear h htr hn
  generalize wordOf (paths (turned l)) (turned l) n = z at *
  generalize decide (pathD (paths (turned l)) n ∈ turned l) = d at *
  go_enter Tryz.func83, Tryz.ntmps83
  go_wp2_with (go_at_call 101; (with_reducible refine HW.out.mono ?_); rintro e w1 ⟨rfl, hb1⟩)
  go_ret
  exact ⟨ret_bool HE.out, hb1⟩
theorem bwhole_none (w : World) (n : Int) : Calls Tryz.prog 83 #[.pointer none, .int .i64 n] w fun e w' => e = .returned (.bool false) ∧ Below w.heap.size w w' := by
  go_enter Tryz.func83, Tryz.ntmps83
  go_wp2
  go_ret
  exact ⟨rfl, Below.refl _ _⟩
theorem Bk.deep {w : World} {s x : Nat} {l : List Tx} (h : Bk w s x l) (n : Int) : (pathD (paths (turned l)) n).length ≤ 1000 := by
  obtain ⟨_, t, _, _, h3⟩ := h
  unfold pathD
  cases hp : pathOf (paths (turned l)) n with
  | none => exact Nat.zero_le _
  | some p =>
    obtain ⟨i, hi, _, rfl⟩ := pathOf_some hp
    show (paths (turned l))[i].length ≤ _
    rcases end_path (List.getElem_mem hi) with e | ⟨y, hy, _, hl, _⟩
    · rw [e]; exact Nat.zero_le _
    · have := h3 y hy; omega
theorem nearest_none (w : World) (fn : FuncId) (pre caps : Array Value) :
    Calls Tryz.prog 82 #[.pointer none, .func (.func fn) pre caps] w fun e w' => e = .returned (.int .i64 0) ∧ w = w' := by
  go_enter Tryz.func82, Tryz.ntmps82
  go_wp2
  go_ret
  exact ⟨rfl, rfl⟩
theorem bleast_any (w : World) {s : Nat} (x : Nat) (l : List Tx) (h : Bk w s x l) :
    Calls Tryz.prog 59 #[.pointer (some ⟨x, 0, none⟩)] w fun e w' => e = .returned (.int .i64 (Cwl.leastOf (turned l) : Int)) ∧ Below w.heap.size w w' := by
  have hmf : ∀ (fn : Fn) (first cap : Array Value) (w : World), (Instr.makeFunc fn first cap).run Tryz.prog w = .ok (.func fn first cap) w := fun _ _ _ _ => rfl
  have hN := nearest_any w x l h 83 #[.pointer (some ⟨x, 0, none⟩)] #[] (fun n => decide (pathD (paths (turned l)) (n : Int) ∈ turned l)) ⟨call19, fun X hX n hn => bwhole_any X x l (h.keep hX) n (wf_nat (by omega) (by have := h.tree; obtain ⟨_, _, ht⟩ := this; have := ht.2.2.2.1; omega))⟩
  rw [nest_least turned_pos (fun j hj => by rw [pathD_at hj])] at hN
  have HN := Lib.hid hN
  clear hN h
  generalize Cwl.leastOf (turned l) = z at *
  go_enter Tryz.func59, Tryz.ntmps59
  go_wp2_with (go_at_call 82; (with_reducible refine HN.out.mono ?_); rintro e w1 ⟨rfl, hb1⟩)
  go_ret
  exact ⟨rfl, hb1⟩
theorem bleast_none (w : World) : Calls Tryz.prog 59 #[.pointer none] w fun e w' => e = .returned (.int .i64 0) ∧ Below w.heap.size w w' := by
  have hmf : ∀ (fn : Fn) (first cap : Array Value) (w : World), (Instr.makeFunc fn first cap).run Tryz.prog w = .ok (.func fn first cap) w := fun _ _ _ _ => rfl
  have HN := Lib.hid (nearest_none w 83 #[.pointer none] #[])
  go_enter Tryz.func59, Tryz.ntmps59
  go_wp2_with (go_at_call 82; (with_reducible refine HN.out.mono ?_); rintro e w1 ⟨rfl, rfl⟩)
  go_ret
  exact ⟨rfl, Below.refl _ _⟩
theorem up_wf {ps : List Tx} (hl : ps.length ≤ 1000000000) (n : Int) : (Lit.int .i64 (upOf ps n)).wf = true := by
  unfold upOf
  cases pathOf ps n with
  | none => exact wf_nat (n := -1) (by omega) (by omega)
  | some p =>
    show (Lit.int .i64 (if p = [] then -1 else place ps p.dropLast)).wf = true
    split
    · exact wf_nat (by omega) (by omega)
    · have h1 := place_ge ps p.dropLast
      have h2 := place_lt ps p.dropLast
      exact wf_nat h1 (by omega)
set_option maxHeartbeats 1000000 in
theorem bask_any (w : World) {s : Nat} (x : Nat) (l : List Tx) (h : Bk w s x l) (c : UInt8) (g1 g2 : Nat) (h1 : w.cell? ⟨g1, 0, none⟩ = some (.pointer (some ⟨x, 0, none⟩))) (h2 : w.cell? ⟨g2, 0, none⟩ = some (.int .u8 (c.toNat : Int))) (n : Nat) (hn : n < (paths (turned l)).length) :
    Calls Tryz.prog 100 #[.int .i64 (n : Int), .pointer (some ⟨g1, 0, none⟩), .pointer (some ⟨g2, 0, none⟩)] w fun e w' => e = .returned (.bool (stepOf (paths (turned l)) (upOf (paths (turned l)) (n : Int)) c == (n : Int))) ∧ Below w.heap.size w w' := by
  obtain ⟨t, hx, htr⟩ := h.tree
  have hps : (paths (turned l)).length ≤ 1000000000 := htr.2.2.2.1
  have HU := Lib.hid (fun X (hX : Below w.heap.size w X) => parent_any X s t _ _ (htr.keep hX) (n : Int))
  have HS := Lib.hid (fun X (hX : Below w.heap.size w X) => step_any X s t _ _ (htr.keep hX) _ (up_wf hps (n : Int)) c)
  have H1 : Hid (∀ X, Below w.heap.size w X → X.cell? ⟨g1, 0, none⟩ = some (.pointer (some ⟨x, 0, none⟩))) := Lib.hid fun X hX => (hX.cell (p := ⟨g1, 0, none⟩) (cell_lt0 h1)).trans h1
  have H2 : Hid (∀ X, Below w.heap.size w X → X.cell? ⟨g2, 0, none⟩ = some (.int .u8 (c.toNat : Int))) := Lib.hid fun X hX => (hX.cell (p := ⟨g2, 0, none⟩) (cell_lt0 h2)).trans h2
  have HX : Hid (∀ X, Below w.heap.size w X → X.cell? ⟨x, 0, none⟩ = some (.pointer (some ⟨t, 0, none⟩))) := Lib.hid fun X hX => (hX.cell (p := ⟨x, 0, none⟩) (cell_lt0 hx)).trans hx
  have HB0 := Lib.hid (Below.refl w.heap.size w)
  clear h htr h1 h2 hx hps
  generalize upOf (paths (turned l)) (n : Int) = u at *
  generalize stepOf (paths (turned l)) u c = z at *
  go_enter Tryz.func100, Tryz.ntmps100
  go_wp2
  refine wp_region_held_drew (S := fun w' => Below w.drew.heap.size w.drew w') (by kernel_rfl) (Below.refl _ _) (fun hH0 => ?_)
  have B0 := Lib.hid (below_drews HB0.out 1)
  change Hid (Below _ _ w.drew) at B0
  generalize w.drew = x0 at *
  refine held_take (i := 0) (d := 5) (oi := _) (v := ?_) rfl rfl (by kernel_rfl) (by kernel_rfl) (by kernel_rfl) (fun _ _ _ h => h) (Or.inl ⟨by rfl, ?_⟩) (by assumption) ?_
  rotate_left
  · (intro w hSw; have hld := H1.out w (B0.out.trans (hSw.mono B0.out.size)); clear hSw; go_simp; (try with_reducible rfl))
  simp only [Act.put, List.setIfInBounds_toArray, List.set_cons_zero, List.set_cons_succ]
  refine held_take (i := 1) (d := 6) (oi := _) (v := ?_) rfl rfl (by kernel_rfl) (by kernel_rfl) (by kernel_rfl) (fun _ _ _ h => h) (Or.inl ⟨by rfl, ?_⟩) (by assumption) ?_
  rotate_left
  · (intro w hSw; clear hSw; go_simp; (try with_reducible rfl))
  simp only [Act.put, List.setIfInBounds_toArray, List.set_cons_zero, List.set_cons_succ]
  refine held_take (i := 2) (d := 7) (oi := _) (v := ?_) rfl rfl (by kernel_rfl) (by kernel_rfl) (by kernel_rfl) (fun _ _ _ h => h) (Or.inl ⟨by rfl, ?_⟩) (by assumption) ?_
  rotate_left
  · (intro w hSw; clear hSw; go_simp; (try with_reducible rfl))
  simp only [Act.put, List.setIfInBounds_toArray, List.set_cons_zero, List.set_cons_succ]
  refine held_take (i := 3) (d := 8) (oi := _) (v := ?_) rfl rfl (by kernel_rfl) (by kernel_rfl) (by kernel_rfl) (fun _ _ _ h => h) (Or.inl ⟨by rfl, ?_⟩) (by assumption) ?_
  rotate_left
  · (intro w hSw; have hld := HX.out w (B0.out.trans (hSw.mono B0.out.size)); clear hSw; go_simp; (try with_reducible rfl))
  simp only [Act.put, List.setIfInBounds_toArray, List.set_cons_zero, List.set_cons_succ]
  refine held_take (i := 4) (d := 9) (oi := _) (v := ?_) rfl rfl (by kernel_rfl) (by kernel_rfl) (by kernel_rfl) (fun _ _ _ h => h) (Or.inl ⟨by rfl, ?_⟩) (by assumption) ?_
  rotate_left
  · (intro w hSw; have hld := H1.out w (B0.out.trans (hSw.mono B0.out.size)); clear hSw; go_simp; (try with_reducible rfl))
  simp only [Act.put, List.setIfInBounds_toArray, List.set_cons_zero, List.set_cons_succ]
  refine held_take (i := 5) (d := 10) (oi := _) (v := ?_) rfl rfl (by kernel_rfl) (by kernel_rfl) (by kernel_rfl) (fun _ _ _ h => h) (Or.inl ⟨by rfl, ?_⟩) (by assumption) ?_
  rotate_left
  · (intro w hSw; clear hSw; go_simp; (try with_reducible rfl))
  simp only [Act.put, List.setIfInBounds_toArray, List.set_cons_zero, List.set_cons_succ]
  refine held_take (i := 6) (d := 11) (oi := _) (v := ?_) rfl rfl (by kernel_rfl) (by kernel_rfl) (by kernel_rfl) (fun _ _ _ h => h) (Or.inl ⟨by rfl, ?_⟩) (by assumption) ?_
  rotate_left
  · (intro w hSw; clear hSw; go_simp; (try with_reducible rfl))
  simp only [Act.put, List.setIfInBounds_toArray, List.set_cons_zero, List.set_cons_succ]
  refine held_take (i := 7) (d := 12) (oi := _) (v := ?_) rfl rfl (by kernel_rfl) (by kernel_rfl) (by kernel_rfl) (fun _ _ _ h => h) (Or.inl ⟨by rfl, ?_⟩) (by assumption) ?_
  rotate_left
  · (intro w hSw; have hld := HX.out w (B0.out.trans (hSw.mono B0.out.size)); clear hSw; go_simp; (try with_reducible rfl))
  simp only [Act.put, List.setIfInBounds_toArray, List.set_cons_zero, List.set_cons_succ]
  refine held_take (i := 8) (d := 13) (oi := _) (v := ?_) rfl rfl (by kernel_rfl) (by kernel_rfl) (by kernel_rfl) (fun _ _ _ h => h) (Or.inl ⟨by rfl, ?_⟩) (by assumption) ?_
  rotate_left
  · (intro w hSw; clear hSw; go_simp; (try with_reducible rfl))
  simp only [Act.put, List.setIfInBounds_toArray, List.set_cons_zero, List.set_cons_succ]
  refine held_take (i := 10) (d := 15) (oi := _) (v := ?_) rfl rfl (by kernel_rfl) (by kernel_rfl) (by kernel_rfl) (fun _ _ _ h => h) (Or.inl ⟨by rfl, ?_⟩) (by assumption) ?_
  rotate_left
  · (intro w hSw; have hld := H2.out w (B0.out.trans (hSw.mono B0.out.size)); clear hSw; go_simp; (try with_reducible rfl))
  simp only [Act.put, List.setIfInBounds_toArray, List.set_cons_zero, List.set_cons_succ]
  refine held_take (i := 12) (d := 17) (oi := _) (v := ?_) rfl rfl (by kernel_rfl) (by kernel_rfl) (by kernel_rfl) (fun _ _ _ h => h) (Or.inl ⟨by rfl, ?_⟩) (by assumption) ?_
  rotate_left
  · (intro w hSw; clear hSw; go_simp; (try with_reducible rfl))
  simp only [Act.put, List.setIfInBounds_toArray, List.set_cons_zero, List.set_cons_succ]
  refine wpAnyH_ready (rs := [9]) (by kernel_rfl) (by simp) ?_
  refine AllReadyH.cons rfl (fun K hK => ?_) AllReadyH.nil
  go_simp
  go_wp2_with (go_at_call 98; (with_reducible refine (HU.out _ B0.out).mono ?_); rintro e x1 ⟨rfl, hb⟩)
  refine hK.out _ _ hb (fun _ => ?_)
  have B1 := Lib.hid (B0.out.trans (hb.mono B0.out.size))
  refine wpAnyH_more (S' := fun w' => Below x1.heap.size x1 w') (fun w' h => hb.trans (h.mono hb.size)) _ _ _ _ ?_
  have hH1 : Below x1.heap.size x1 x1 := Below.refl _ _
  clear hK K hH0 hb B0
  refine wpAnyH_ready (rs := [11]) (by kernel_rfl) (by simp) ?_
  refine AllReadyH.cons rfl (fun K hK => ?_) AllReadyH.nil
  go_simp
  go_wp2_with (go_at_call 66; (with_reducible refine (HS.out _ B1.out).mono ?_); rintro e x' ⟨rfl, rfl⟩)
  refine hK.out _ _ hH1 (fun _ => ?_)
  clear hK K
  refine held_take (i := 13) (d := 18) (oi := _) (v := ?_) rfl rfl (by kernel_rfl) (by kernel_rfl) (by kernel_rfl) (fun _ _ _ h => h) (Or.inl ⟨by rfl, ?_⟩) (by assumption) ?_
  rotate_left
  · (intro w hSw; clear hSw; go_simp; (try with_reducible rfl))
  simp only [Act.put, List.setIfInBounds_toArray, List.set_cons_zero, List.set_cons_succ]
  refine held_take (i := 14) (d := 4) (oi := _) (v := ?_) rfl rfl (by kernel_rfl) (by kernel_rfl) (by kernel_rfl) (fun _ _ _ h => h) (Or.inl ⟨by rfl, ?_⟩) (by assumption) ?_
  rotate_left
  · (intro w hSw; clear hSw; go_simp; (try with_reducible rfl))
  simp only [Act.put, List.setIfInBounds_toArray, List.set_cons_zero, List.set_cons_succ]
  refine wpAnyH_done (by kernel_rfl) ?_ _
  go_wp2
  go_ret
  exact ⟨rfl, B1.out⟩
theorem bnear_any (w : World) {s : Nat} (x : Nat) (l : List Tx) (h : Bk w s x l) (c : UInt8) :
    Calls Tryz.prog 81 #[.pointer (some ⟨x, 0, none⟩), .int .u8 (c.toNat : Int)] w fun e w' => e = .returned (.int .i64 (nearOf (turned l) c : Int)) ∧ Below w.heap.size w w' := by
  have hmf : ∀ (fn : Fn) (first cap : Array Value) (w : World), (Instr.makeFunc fn first cap).run Tryz.prog w = .ok (.func fn first cap) w := fun _ _ _ _ => rfl
  have HN : Hid (∀ W g1 g2, Below w.heap.size w W → W.cell? ⟨g1, 0, none⟩ = some (.pointer (some ⟨x, 0, none⟩)) → W.cell? ⟨g2, 0, none⟩ = some (.int .u8 (c.toNat : Int)) →
      Calls Tryz.prog 82 #[.pointer (some ⟨x, 0, none⟩), .func (.func 100) #[] #[.pointer (some ⟨g1, 0, none⟩), .pointer (some ⟨g2, 0, none⟩)]] W fun e w' => e = .returned (.int .i64 (nearOf (turned l) c : Int)) ∧ Below W.heap.size W w') := Lib.hid fun W g1 g2 hW h1 h2 => by
    have hk := h.keep hW
    have h0 := nearest_any W x l hk 100 #[] #[.pointer (some ⟨g1, 0, none⟩), .pointer (some ⟨g2, 0, none⟩)] (fun n => stepOf (paths (turned l)) (upOf (paths (turned l)) (n : Int)) c == (n : Int)) ⟨call30, fun X hX n hn => bask_any X x l (hk.keep hX) c g1 g2 ((hX.cell (p := ⟨g1, 0, none⟩) (cell_lt0 h1)).trans h1) ((hX.cell (p := ⟨g2, 0, none⟩) (cell_lt0 h2)).trans h2) n hn⟩
    rw [nest_near (l := turned l) (c := c) (fun j hj h0 => near_step (paths_wf _) hj h0 c)] at h0
    exact h0
  clear h
  generalize nearOf (turned l) c = z at *
  go_enter Tryz.func81, Tryz.ntmps81
  go_wp2_with fail
  have hb2 : Below w.heap.size w ((w.alloc (.cells #[.pointer (some ⟨x, 0, none⟩)] 123)).alloc (.cells #[.int .u8 (c.toNat : Int)] 5)) := ((Below.refl _ _).alloc (Nat.le_refl _) _).alloc (by simp) _
  refine (HN.out _ w.heap.size (w.heap.size + 1) hb2 ?_ ?_).mono ?_
  · exact Lib.cell?_alloc_some _ (by simp)
  · simp
  rintro e w1 ⟨rfl, hb1⟩
  go_wp2
  go_ret
  exact ⟨rfl, hb2.trans (hb1.mono hb2.size)⟩
theorem bnear_none (w : World) (c : UInt8) : Calls Tryz.prog 81 #[.pointer none, .int .u8 (c.toNat : Int)] w fun e w' => e = .returned (.int .i64 0) ∧ Below w.heap.size w w' := by
  have hmf : ∀ (fn : Fn) (first cap : Array Value) (w : World), (Instr.makeFunc fn first cap).run Tryz.prog w = .ok (.func fn first cap) w := fun _ _ _ _ => rfl
  go_enter Tryz.func81, Tryz.ntmps81
  go_wp2_with fail
  have hb2 : Below w.heap.size w ((w.alloc (.cells #[.pointer none] 123)).alloc (.cells #[.int .u8 (c.toNat : Int)] 5)) := ((Below.refl _ _).alloc (Nat.le_refl _) _).alloc (by simp) _
  refine (nearest_none _ 100 #[] _).mono ?_
  rintro e w1 ⟨rfl, rfl⟩
  go_wp2
  go_ret
  exact ⟨rfl, hb2⟩
end Go.Proofs.YtcbhjhhajeeimaaGreat.Bck
/- All that a Back tells. -/
/- The reference: Turn, Turned, Least, Near. -/
namespace Go.Proofs.YtcbhjhhajeeimaaGreat.Bck
open Go.Proofs.YtcbhjhhajeeimaaGreat.Tri Go.Proofs.YtcbhjhhajeeimaaGreat.Cwl Go.Proofs.YtcbhjhhajeeimaaGreat.Bck Go.Proofs.YtcbhjhhajeeimaaGreat.Reg Go.RowKit Go.Maps
set_option maxRecDepth 100000
set_option linter.unusedVariables false

theorem str_drop0 (x : Tx) (k : Nat) : (str x).extract k x.length = str (x.drop k) := by
  unfold str
  rw [ByteArray.extract_mk]
  congr 1
  show (List.take (x.length - k) (x.drop k)).toArray = _
  rw [List.take_of_length_le (by simp)]
theorem size_of5b : ∀ w, (Go.sizeOf 5).run Tryz.prog w = .ok 1 w := fun w => by
  have hsz : (Tryz.prog.info? 5).map (·.size) = some 1 := by kernel_rfl
  cases hq : Tryz.prog.info? 5 with
  | none => rw [hq] at hsz; cases hsz
  | some i =>
    rw [hq] at hsz
    have hz : i.size = 1 := Option.some.inj hsz
    simp [Go.sizeOf, typeInfo, hq, hz]
theorem cut_back0 (a : Option Addr) (l : Tx) (c d : Nat) (hd : d ≤ l.length) (hc : l.length ≤ c) :
    ∃ A, (∀ W, (Instr.slice 23 (.slice a l.length c) (some (.int .i64 (d : Int))) none none).run Tryz.prog W = .ok (.slice A (l.length - d) (c - d)) W) ∧ ∀ X B, Bs X B a l → Bs X B A (l.drop d) := by
  have ht : Tryz.prog.underlying 23 = some (.slice (Tryz.prog.elem 23)) := by simp [Program.elem, Tryz.underlying23]
  have he : Tryz.prog.elem 23 = 5 := by simp [Program.elem, Tryz.underlying23]
  refine ⟨if c = d then a else a.map (·.add d), fun W => ?_, fun X B hb h0 => ?_⟩
  · rw [run_slice_l W 23 _ _ _ ht .i64 _ (by omega) (by omega), he, size_of5b]
    simp [Result.andThen, sliced]
  · rw [List.length_drop] at h0
    obtain ⟨b', o', rfl, hb', hcs⟩ := hb (by omega)
    refine ⟨b', o' + d, by rw [if_neg (by omega)]; simp [Addr.add], hb', fun i hi => ?_⟩
    rw [List.length_drop] at hi
    rw [List.getElem_drop, Nat.add_assoc]
    exact hcs (d + i) (by omega)
theorem pathD_off {ps : List Tx} {n : Int} (h : ¬ (0 ≤ n ∧ n < ps.length)) : pathD ps n = [] := by
  have : pathOf ps n = none := by
    unfold pathOf
    split
    · rw [List.getElem?_eq_none_iff]; omega
    · rfl
  rw [pathD, this]; rfl
theorem path_short0 {l : List Tx} {m : Nat} (h : ∀ x ∈ l, x.length ≤ m) {p : Tx} (hp : p ∈ paths l) : p.length ≤ m := by
  rcases (paths_mem _ p).1 hp with h0 | ⟨x, hx, q, e⟩
  · rw [h0]; exact Nat.zero_le _
  · have := h x hx
    rw [← e, List.length_append] at this
    omega
theorem turned_tot (l : List Tx) : tot (turned l) ≤ tot l := by
  induction l with
  | nil => exact Nat.le_refl _
  | cons x l ih =>
    unfold turned at *
    by_cases h : x = []
    · simp [h, tot] at *; omega
    · simp [h, tot] at *; omega
theorem str_emp0 (l : Tx) : (str l).toList.isEmpty = decide (l = []) := by
  have e : (str l).toList = l := by simp [str]
  rw [e, Bool.eq_iff_iff]; simp
theorem turned_take (l : List Tx) (k : Nat) (h : k < l.length) : turned (l.take (k + 1)) = if l[k] = [] then turned (l.take k) else turned (l.take k) ++ [l[k].reverse] := by
  rw [List.take_succ_eq_append_getElem h, turned_snoc]
theorem u8_beq0 (x y : UInt8) : ((x.toNat : Int) == y.toNat) = (x == y) := by
  rw [Bool.eq_iff_iff]; simp only [beq_iff_eq]
  constructor
  · intro h; apply UInt8.toNat_inj.1; omega
  · rintro rfl; rfl
end Go.Proofs.YtcbhjhhajeeimaaGreat.Bck
