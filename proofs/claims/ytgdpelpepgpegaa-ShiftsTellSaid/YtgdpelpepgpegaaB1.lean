/- slices.Clone and slices.Reverse of bytes; Turn. -/
import Derived.Test.YtgdpelpepgpegaaGR
import Derived.Test.YtgdpelpepgpegaaGT
import Derived.Test.YtgdpelpepgpegaaGM
namespace Go.Proofs.Ytgdpelpepgpegaa.Bck
open Go.RowKit Go.Maps Go.Proofs.Ytgdpelpepgpegaa.Tri Go.Proofs.Ytgdpelpepgpegaa.Cwl
set_option maxRecDepth 100000
set_option linter.unusedVariables false

set_option maxHeartbeats 2000000 in
theorem sclone_some (l : Tx) (ad : Addr) (cap : Nat) (w : World) (hl : l.length ≤ 1000000000000) (hb : Bs w w.heap.size (some ad) l) :
    Calls Try.prog 47 #[.slice (some ad) l.length cap] w (GivesText w l) := by
  obtain ⟨i0, hi, hz0, hz1, hz2⟩ := info_parts info5
  have q22 := Met.eql_nil22
  have HB := Lib.hid hb
  clear hb
  go_enter Try.func47, Try.ntmps47
  go_wp2_with (at_builtin; refine wpList_append_own _ rfl _ _ 44 rfl w.heap.size 5 i0 (.int .u8 0) 1 1 und22 hi hz0 hz1 hz2 rfl (by decide) _ _ _ rfl (World.ownsRow_made w #[] 0 (Nat.le_refl _) (Nat.zero_le _) rfl) ad l.length cap (vals l) rfl ?qc1 ?qc2 ?qc3 ?qc4 ?qc5 ?qc6 ?_)
  case qc1 => simp [vals]
  case qc2 =>
    intro j u hj
    have hjn : j < l.length := by have := (List.getElem?_eq_some_iff.1 hj).1; simpa [vals] using this
    obtain ⟨b, off, e, hlt, hc⟩ := HB.out (by omega)
    cases e
    have ea : (⟨b, off, none⟩ : Addr).add j = ⟨b, off + j, none⟩ := by unfold Addr.add; split <;> simp_all
    rw [ea]
    have hcc := hc j hjn
    refine Lib.cell?_alloc_some _ ?_
    rw [hcc]
    simpa [vals, hjn] using hj
  case qc3 => intro u hu; obtain ⟨x, _, rfl⟩ := List.mem_map.1 hu; rfl
  case qc4 => unfold maxLen; omega
  case qc5 => omega
  case qc6 => simp
  intro v' w1 hown hgrow hnil
  go_wp2
  go_ret
  obtain ⟨a, c, rfl, ht, hlc, hnc⟩ := own_txt (l := l) (by simpa using hown)
  exact ⟨a, c, rfl, ht, hlc, hnc, ((Below.refl _ w).alloc (Nat.le_refl _) _).grown hgrow (by simp) (by intro k hk; simp [Value.ownBlock] at hk; omega)⟩
set_option maxHeartbeats 1000000 in
theorem sclone_none (n cap : Nat) (w : World) : Calls Try.prog 47 #[.slice none n cap] w (GivesText w []) := by
  have q22 := Met.eql_nil22
  go_enter Try.func47, Try.ntmps47
  go_wp2
  go_ret
  exact ⟨none, 0, rfl, (fun h => absurd h (by simp)), Nat.le_refl _, fun _ => rfl, Below.refl _ _⟩
theorem sclone_any (l : Tx) (a : Option Addr) (cap : Nat) (w : World) (hl : l.length ≤ 1000000000000) (hb : Bs w w.heap.size a l) :
    Calls Try.prog 47 #[.slice a l.length cap] w (GivesText w l) := by
  cases a with
  | some ad => exact sclone_some l ad cap w hl hb
  | none =>
    rcases Nat.eq_zero_or_pos l.length with h0 | h0
    · obtain rfl := List.eq_nil_of_length_eq_zero h0
      exact sclone_none _ cap w
    · obtain ⟨b, off, e, _⟩ := hb h0
      cases e
/-- The first k bytes and the last k ones have changed places. -/
def Swp (l : Tx) (k : Nat) (m : Tx) : Prop := m.length = l.length ∧ ∀ p, p < l.length → m[p]? = if p < k ∨ l.length - k ≤ p then l[l.length - 1 - p]? else l[p]?
theorem swp_zero (l : Tx) : Swp l 0 l := ⟨rfl, fun p hp => by rw [if_neg (by omega)]⟩
theorem swp_done {l m : Tx} {k : Nat} (h : Swp l k m) (hk : l.length ≤ 2 * k + 1) : m = l.reverse := by
  refine List.ext_getElem? fun p => ?_
  rcases Nat.lt_or_ge p l.length with hp | hp
  · rw [h.2 p hp, List.getElem?_reverse hp]
    split
    · rfl
    · rename_i hn
      congr 1
      omega
  · rw [List.getElem?_eq_none (by rw [h.1]; exact hp), List.getElem?_eq_none (by simpa using hp)]
theorem swp_next {l m : Tx} {k : Nat} (h : Swp l k m) (hk : 2 * k + 1 < l.length) {x y : UInt8} (hx : m[k]? = some x) (hy : m[l.length - 1 - k]? = some y) : Swp l (k + 1) ((m.set k y).set (l.length - 1 - k) x) := by
  obtain ⟨h1, h2⟩ := h
  refine ⟨by simp [h1], fun p hp => ?_⟩
  have ex : l[k]? = some x := by have := h2 k (by omega); rw [if_neg (by omega), hx] at this; exact this.symm
  have ey : l[l.length - 1 - k]? = some y := by have := h2 (l.length - 1 - k) (by omega); rw [if_neg (by omega), hy] at this; exact this.symm
  by_cases e1 : p = l.length - 1 - k
  · subst e1
    rw [List.getElem?_set_self (by simp [h1]; omega), if_pos (.inr (by omega)), ← ex]
    congr 1
    omega
  · rw [List.getElem?_set_ne (fun e => e1 e.symm)]
    by_cases e2 : p = k
    · subst e2
      rw [List.getElem?_set_self (by omega), if_pos (.inl (by omega)), ey]
    · rw [List.getElem?_set_ne (fun e => e2 e.symm), h2 p hp]
      split
      · rw [if_pos (by omega)]
      · rw [if_neg (by omega)]
theorem txt_put {w : World} {base g i : Nat} {l : List UInt8} (h : Txt w base (some ⟨g, 0, none⟩) l) (x : UInt8) : Txt (w.setCell ⟨g, i, none⟩ (.int .u8 (x.toNat : Int))) base (some ⟨g, 0, none⟩) (l.set i x) := Met.Txt.set h x
theorem txt_there {w : World} {s : Nat} {a : Option Addr} {l : Tx} (h : Txt w s a l) (h0 : 0 < l.length) : ∃ g, a = some ⟨g, 0, none⟩ ∧ s ≤ g ∧ g < w.heap.size ∧ (∀ i, w.frozen? ⟨g, i, none⟩ = false) ∧ ∀ (i : Nat) x, l[i]? = some x → w.cell? ⟨g, i, none⟩ = some (.int .u8 (x.toNat : Int)) := by
  obtain ⟨b, cs, rfl, hs, hh, hc⟩ := h h0
  refine ⟨b, rfl, hs, txt_lt hh, fun i => by simp [World.frozen?, hh], fun i x hx => ?_⟩
  obtain ⟨hi, rfl⟩ := List.getElem?_eq_some_iff.1 hx
  rw [cell_of_row w b _ _ 5 (0, 0) hh]
  exact hc i hi
set_option maxHeartbeats 1000000 in
/-- A text of the call's own is turned round in its place. -/
theorem reverse_any (w : World) (s : Nat) (l : Tx) (a : Option Addr) (c : Nat) (ht : Txt w s a l) (hl : l.length ≤ 1000000) (hs : s ≤ w.heap.size) :
    Calls Try.prog 48 #[.slice a l.length c] w fun e w' => e = .returned (.tuple #[]) ∧ Txt w' s a l.reverse ∧ Below s w w' := by
  have HT := Lib.hid ht
  clear ht
  go_enter Try.func48, Try.ntmps48
  go_wp2
  go_loopw [2, 3] (fun x y wr => ∃ (k : Nat) (m : Tx), 2 * k ≤ l.length + 1 ∧ x = .int .i64 (k : Int) ∧ y = .int .i64 ((l.length : Int) - 1 - k) ∧ Swp l k m ∧ Txt wr s a m ∧ Below s w wr) (fun x y _ => (intOf y + 2 - intOf x).toNat)
  case atStart => exact ⟨0, l, by omega, rfl, by simp, swp_zero l, HT.out, Below.refl _ _⟩
  case round =>
    obtain ⟨k, m, hk, rfl, rfl, hsw, htx, hbel⟩ := hrel
    by_cases hlt : 2 * k + 1 < l.length
    · have hml := hsw.1
      obtain ⟨g, rfl, hg, hgl, hfz, hc⟩ := txt_there htx (by omega)
      obtain ⟨x, hx⟩ : ∃ x, m[k]? = some x := ⟨_, List.getElem?_eq_getElem (by omega)⟩
      obtain ⟨y, hy⟩ : ∃ y, m[l.length - 1 - k]? = some y := ⟨_, List.getElem?_eq_getElem (by omega)⟩
      have c1 := hc k x hx
      have c2 := hc (l.length - 1 - k) y hy
      have f1 := hfz k
      have f2 := hfz (l.length - 1 - k)
      have hlt1 : (k : Int) < (l.length : Int) - 1 - k := by omega
      obtain ⟨q, hq⟩ : ∃ q, q = l.length - 1 - k := ⟨_, rfl⟩
      have hqi : (l.length : Int) - 1 - k = (q : Int) := by omega
      rw [hqi] at hlt1 ⊢
      rw [← hq] at c2 f2
      have HH := Lib.hid (show Swp l k m ∧ Txt wr s (some ⟨g, 0, none⟩) m ∧ Below s w wr from ⟨hsw, htx, hbel⟩)
      have HQ := Lib.hid (show q = l.length - 1 - k ∧ m[k]? = some x ∧ m[q]? = some y ∧ 2 * k + 1 < l.length ∧ s ≤ g from ⟨hq, hx, by rw [hq]; exact hy, hlt, hg⟩)
      have hk1 : k < l.length := by omega
      have hq1 : q < l.length := by omega
      clear hsw htx hbel hc hfz hx hy hq hqi hml hlt hg
      go_wp2
      go_region
      go_wp2
      have hq := HQ.out
      have hh := HH.out
      refine ⟨⟨k + 1, (m.set k y).set q x, by omega, by go_num, ?_, ?_, ?_, ?_⟩, ?_⟩
      · have : (q : Int) - 1 = (l.length : Int) - 1 - ((k + 1 : Nat) : Int) := by have := hq.1; omega
        rw [← this]
      · have := swp_next hh.1 hq.2.2.2.1 hq.2.1 (by rw [← hq.1]; exact hq.2.2.1)
        rw [← hq.1] at this
        exact this
      · exact (txt_put (txt_put hh.2.1 y) x).keep (below_drews (Below.refl _ _) 1)
      · exact below_drews ((hh.2.2.setCell (p := ⟨g, k, none⟩) hq.2.2.2.2 _).setCell (p := ⟨g, q, none⟩) hq.2.2.2.2 _) 1
      · simp [intOf]; omega
    · have hlt1 : ¬ ((k : Int) < (l.length : Int) - 1 - k) := by omega
      have HH := Lib.hid (show m = l.reverse ∧ Txt wr s a m ∧ Below s w wr from ⟨swp_done hsw (by omega), htx, hbel⟩)
      clear hsw htx hbel hlt
      go_wp2
      go_end0
      obtain ⟨rfl, h1, h2⟩ := HH.out
      exact ⟨rfl, h1, h2⟩
theorem turn_any (w : World) (b : Tx) (a : Option Addr) (c : Nat) (hb : Bs w w.heap.size a b) (hl : b.length ≤ 1000000) :
    Calls Try.prog 31 #[.slice a b.length c] w (GivesText w b.reverse) := by
  have HC := Lib.hid (sclone_any b a c w (by omega) hb)
  clear hb
  go_enter Try.func31, Try.ntmps31
  go_wp2_with fail
  refine HC.out.mono ?_
  rintro e w1 ⟨a1, c1, rfl, ht, hlc, hnc, hb1⟩
  have HR := Lib.hid (reverse_any w1 w.heap.size b a1 c1 ht hl hb1.size)
  have HB := Lib.hid (show b.length ≤ c1 ∧ (a1 = none → c1 = 0) ∧ Below w.heap.size w w1 from ⟨hlc, hnc, hb1⟩)
  clear ht hlc hnc hb1
  go_wp2_with fail
  refine HR.out.mono ?_
  rintro e w2 ⟨rfl, ht2, hb2⟩
  have HT := Lib.hid ht2
  have HB2 := Lib.hid hb2
  clear ht2 hb2
  go_wp2
  go_ret
  refine ⟨a1, c1, by rw [List.length_reverse]; rfl, HT.out, by rw [List.length_reverse]; exact HB.out.1, HB.out.2.1, HB.out.2.2.trans HB2.out⟩
end Go.Proofs.Ytgdpelpepgpegaa.Bck
