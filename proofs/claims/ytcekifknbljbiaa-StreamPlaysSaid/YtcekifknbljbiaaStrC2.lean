/- Chunks in memory; run. -/
import Derived.Test.YtcekifknbljbiaaStrC1
namespace Go.Proofs.Ytcekifknbljbiaa.Str
open Go.Proofs.Ytcekifknbljbiaa.Stm Go.Proofs.Ytcekifknbljbiaa.Reg Go.RowKit Go.Maps
set_option maxRecDepth 100000
set_option linter.unusedVariables false

/-- Chunks in memory, apart from a stream's own blocks. -/
structure Cks (W : World) (p g : Nat) (d : Option Nat) (mp a : Option Addr) (xs : List TxV) : Prop where
  kts : Ts W a xs
  krow : 0 < xs.length → ∀ ad : Addr, a = some ad → ¬ Own p g d mp ad.block
  kap : ∀ x ∈ xs, Ap p g d mp x.a x.text
  kcap : ∀ x ∈ xs, x.text.length ≤ x.cap
theorem Cks.ch {W W' : World} {p g : Nat} {d d' : Option Nat} {mp a : Option Addr} {xs : List TxV} (h : Cks W p g d mp a xs) (hc : Ch W W' (Own p g d mp)) (hd : Nd W d d') : Cks W' p g d' mp a xs := by
  refine ⟨⟨fun h0 => ?_, fun x hx => (hc.bs (h.kts.2 x hx) (Nat.le_refl _) (h.kap x hx)).more hc.csize⟩, fun h0 ad e ho => ?_, fun x hx h0 ad e ho => ?_, h.kcap⟩
  · obtain ⟨b, off, e, hlt, hcs⟩ := h.kts.1 h0
    have hh := hc.cblk b hlt (h.krow h0 _ e)
    exact ⟨b, off, e, Nat.lt_of_lt_of_le hlt hc.csize, fun i hi => (World.cell?_of_block hh).trans (hcs i hi)⟩
  · obtain ⟨b, off, e2, hlt, _⟩ := h.kts.1 h0
    rw [e2] at e; cases e
    exact h.krow h0 _ e2 (hd.own hlt ho)
  · exact h.kap x hx h0 ad e (hd.own (bs_at (h.kts.2 x hx) h0 e) ho)
theorem Cks.keep {W W' : World} {p g : Nat} {d : Option Nat} {mp a : Option Addr} {xs : List TxV} (h : Cks W p g d mp a xs) (hb : Below W.heap.size W W') : Cks W' p g d mp a xs := ⟨h.kts.keep hb, h.krow, h.kap, h.kcap⟩
theorem Cks.bx {W : World} {p g : Nat} {d : Option Nat} {mp a : Option Addr} {xs : List TxV} (h : Cks W p g d mp a xs) {x : TxV} (hx : x ∈ xs) : Bx W p g d mp x.a x.text := ⟨h.kts.2 x hx, h.kap x hx⟩
/-- Lines appended to a row of the call's own. -/
theorem app_sl {w : World} {ops : Array Oper} {rest : List Oper} {o : Oper} {a : Act} {Q : Exit → Act → World → Prop} (hgd : o.guard = none) (s x : Operand)
    (ho : o.op = .call { callee := .builtin .append, args := #[s, x], argTypes := #[35, 35] })
    (base : Nat) (v : Value) (n : Nat) (xs : List Value) (hs : a.eval s = v) (hown : w.ownsRow base 47 3 v n xs)
    (base2 : Nat) (v2 : Value) (ys : List SlV) (hx : a.eval x = v2) (h2 : w.ownsRow base2 47 3 v2 ys.length (ys.flatMap scells)) (hn : n + ys.length ≤ 1000000) (hbase : base ≤ w.heap.size)
    (h : ∀ v' w', w'.ownsRow base 47 3 v' (n + ys.length) (xs ++ ys.flatMap scells) → w.grownBy w' v.ownBlock → wpList Try.prog ops Q rest (a.put o.dst v') w') : wpList Try.prog ops Q (o :: rest) a w := by
  obtain ⟨i0, hi, hz0, hz1, hz2⟩ := info_parts infoL
  rcases h2.2 with ⟨rfl, h0⟩ | ⟨g, cap, cur, rfl, _, hh, hnc, _, hsz, htk⟩
  · have e : ys = [] := List.eq_nil_of_length_eq_zero h0
    subst e
    refine wpList_append_own_none hgd s x 35 ho base 47 i0 3 Try.underlying35 hi v n xs hs hown hx (h v w ?_ (World.grownBy.refl w _))
    simpa using hown
  · refine wpList_append_own w hgd s x 35 ho base 47 i0 (.agg #[.int .i64 0, .int .i64 0, .slice none 0 0]) 3 40 Try.underlying35 hi hz0 hz1 hz2 rfl (by decide) v n xs hs hown ⟨g, 0, none⟩ ys.length cap (ys.flatMap scells) hx h2.1 ?_ ?_ (by unfold maxLen; omega) (by omega) hbase (fun v' w' h1 h2 _ => h v' w' h1 h2)
    · intro j u hj
      have ea : (⟨g, 0, none⟩ : Addr).add j = ⟨g, j, none⟩ := by unfold Addr.add; split <;> simp_all
      have hjl := (List.getElem?_eq_some_iff.1 hj).1
      rw [ea, cell_of_row w g _ _ 47 (0, 0) hh, ← Array.getElem?_toList]
      rw [← htk, List.getElem?_take_of_lt (by rw [h2.1] at hjl; exact hjl)] at hj
      exact hj
    · intro u hu
      obtain ⟨y, _, hy⟩ := List.mem_flatMap.1 hu
      simp only [scells, List.mem_cons, List.not_mem_nil, or_false] at hy
      rcases hy with rfl | rfl | rfl <;> rfl
/-- How many lines are told. -/
theorem go_told_len : ∀ (t : Tx) (s : St) (part : Tx), (s.go part t).2.length ≤ t.length
  | [], s, part => Nat.le_refl _
  | c :: t, s, part => by
    rw [St.go, List.length_cons]
    by_cases h1 : c = 10
    · simp only [if_pos h1, List.length_cons]
      have := go_told_len t (({ s with hunt := s.hunt + 1 } : St).line part) []
      omega
    · simp only [if_neg h1]
      split
      · simp
      · have := go_told_len t ({ s with hunt := s.hunt + 1 } : St) (part ++ [c])
        omega
theorem feed_told_len (s : St) (t : Tx) : (s.feed t).2.length ≤ t.length := by
  rw [St.feed]
  split
  · exact Nat.zero_le _
  · exact go_told_len t s []
theorem feeds_told_len : ∀ (l : List Tx) (s : St), (s.feeds l).2.length ≤ l.flatten.length
  | [], s => Nat.le_refl _
  | x :: l, s => by
    have h1 := feed_told_len s x
    have h2 := feeds_told_len l (s.feed x).1
    rw [St.feeds, List.length_append, List.flatten_cons, List.length_append]
    omega
theorem feeds_snoc : ∀ (l : List Tx) (s : St) (x : Tx), s.feeds (l ++ [x]) = (((s.feeds l).1.feed x).1, (s.feeds l).2 ++ ((s.feeds l).1.feed x).2)
  | [], s, x => by simp [St.feeds]
  | y :: l, s, x => by
    rw [List.cons_append, St.feeds, feeds_snoc l (s.feed y).1 x, St.feeds]
    simp
theorem Bd.feeds {n : Nat} : ∀ (l : List Tx) {s : St} , Bd n s → Bd (n + l.flatten.length) (s.feeds l).1
  | [], s, h => h
  | x :: l, s, h => by
    have : ∀ m, Bd m (s.feed x).1 → Bd (m + l.flatten.length) ((s.feed x).1.feeds l).1 := fun m hm => Bd.feeds l hm
    have := this _ (h.feed x)
    rw [List.flatten_cons, List.length_append, ← Nat.add_assoc]
    exact this
theorem fin_told_len (s : St) : s.fin.2.length ≤ 1 := by
  unfold St.fin
  split
  · exact Nat.zero_le _
  · split
    · exact Nat.zero_le _
    · exact Nat.le_refl _
/-- All chunks, and the end. -/
def runs (s : St) (l : List Tx) : St × List Sl := ((s.feeds l).1.fin.1, (s.feeds l).2 ++ (s.feeds l).1.fin.2)
/-- While run goes. -/
structure Ru (W0 w W : World) (p : Nat) (mp : Option Addr) (g : Nat) (d0 d : Option Nat) (s : St) (v : Value) (ys : List SlV) : Prop where
  um : Sm W0 W p mp g d s
  uch : Ch w W (Own p g d0 mp)
  und : Nd w d0 d
  ur : W.ownsRow w.heap.size 47 3 v ys.length (ys.flatMap scells)
  ux : ∀ y ∈ ys, Txt W w.heap.size y.a y.sl.text ∧ Ap p g d mp y.a y.sl.text
  uw : W0.heap.size ≤ w.heap.size
theorem Ru.step {W0 w W W' : World} {p g : Nat} {mp : Option Addr} {d0 d d' : Option Nat} {s s' : St} {v : Value} {ys : List SlV} (h : Ru W0 w W p mp g d0 d s v ys) (hm : Sm W0 W' p mp g d' s') (hc : Ch W W' (Own p g d mp)) (hd : Nd W d d') : Ru W0 w W' p mp g d0 d' s' v ys := by
  refine ⟨hm, h.uch.trans hc (fun k hk e => h.und.own hk e), h.und.trans hd h.uch.csize, own_row h.ur (fun k cs _ hh => hc.cblk k (txt_lt hh) (not_own h.um hh (by decide) (by decide) (by decide) (by decide))), fun y hy => ?_, h.uw⟩
  obtain ⟨h1, h2⟩ := h.ux y hy
  refine ⟨fun h0 => ?_, h2.nd (W := W) hd h1⟩
  obtain ⟨k, cs, e, hk, hh, hcs⟩ := h1 h0
  exact ⟨k, cs, e, hk, (hc.cblk k (txt_lt hh) (h2 h0 _ e)).trans hh, hcs⟩
/-- More lines were appended. -/
theorem Ru.more {W0 w W W' : World} {p g : Nat} {mp : Option Addr} {d0 d : Option Nat} {s : St} {v v' : Value} {ys zs : List SlV} (h : Ru W0 w W p mp g d0 d s v ys) (hz : ∀ z ∈ zs, Txt W w.heap.size z.a z.sl.text ∧ Ap p g d mp z.a z.sl.text)
    (hown : W'.ownsRow w.heap.size 47 3 v' (ys.length + zs.length) (ys.flatMap scells ++ zs.flatMap scells)) (hg : W.grownBy W' v.ownBlock) : Ru W0 w W' p mp g d0 d s v' (ys ++ zs) ∧ Ch W W' (fun k => v.ownBlock = some k) := by
  have hc : Ch W W' (fun k => v.ownBlock = some k) := Ch.of_grown hg (fun k e _ => e)
  have hrow : ∀ k, v.ownBlock = some k → w.heap.size ≤ k ∧ ∃ cs, W.heap[k]? = some (.cells cs 47 (0, 0)) := fun k e => ⟨(own_block_lt h.ur e).1, (own_block_lt h.ur e).2.2⟩
  have ht : ∀ {s : Nat} {y : Option Addr} {t : Tx}, Txt W s y t → Txt W' s y t := fun ht => hc.txt ht (fun k e _ _ cs hh => by
    obtain ⟨_, cs', q⟩ := hrow k e
    rw [q] at hh
    injection hh with hh; injection hh with _ hh _
    exact absurd hh (by decide))
  have huw := h.uw
  refine ⟨⟨h.um.ch hc (fun k e => ?_), h.uch.trans hc (fun k hk e => by have := (hrow k e).1; omega), h.und, ?_, fun y hy => ?_, h.uw⟩, hc⟩
  · obtain ⟨q1, cs', q⟩ := hrow k e
    exact ⟨by omega, not_own h.um q (by decide) (by decide) (by decide) (by decide)⟩
  · rw [List.flatMap_append, List.length_append]; exact hown
  · rcases List.mem_append.1 hy with hy | hy
    · exact ⟨ht (h.ux y hy).1, (h.ux y hy).2⟩
    · exact ⟨ht (hz y hy).1, (hz y hy).2⟩
/-- What run gives. -/
def GivesRun (W0 w : World) (p : Nat) (mp : Option Addr) (g : Nat) (d : Option Nat) (s : St) (l : List Tx) (e : Ending) (w' : World) : Prop :=
  ∃ v ys d', e = .returned v ∧ ys.map SlV.sl = (runs s l).2 ∧ Gave w w' p g d' mp v ys ∧ Nd w d d' ∧ Sm W0 w' p mp g d' (runs s l).1 ∧ Ch w w' (Own p g d mp)
set_option maxHeartbeats 4000000 in
theorem run_any (W0 w : World) (p : Nat) (mp : Option Addr) (g : Nat) (d : Option Nat) (s : St) (h : Sm W0 w p mp g d s) (n : Nat) (hB : Bd n s) (hn : n ≤ 10000) (xs : List TxV) (a : Option Addr) (k0 c : Nat) (hk0 : xs.length = k0) (hx : Cks w p g d mp a xs) (hl : xs.length ≤ 1000) (ht : total xs ≤ 10000) :
    Calls Try.prog 22 #[.pointer (some ⟨p, 0, none⟩), .slice a k0 c] w (GivesRun W0 w p mp g d s (tx xs)) := by
  subst hk0
  have HX := Lib.hid hx
  have HB := Lib.hid hB
  have HU0 : Hid (Ru W0 w w p mp g d d s (.slice none 0 0) []) := Lib.hid ⟨h, Ch.of_below (Below.refl _ _), .inl rfl, World.ownsRow_nil _ _ _ _, (fun y hy => by cases hy), h.sbel.size⟩
  clear h hx hB
  go_enter Try.func22, Try.ntmps22
  go_wp2_with fail
  go_loopw [5, 6] (fun v i wr => ∃ (k : Nat) (d' : Option Nat) (s' : St) (ys : List SlV), k ≤ xs.length ∧ i = .int .i64 (k : Int) ∧ Hid (Ru W0 w wr p mp g d d' s' v ys) ∧ Hid (s' = (s.feeds (tx (xs.take k))).1) ∧ Hid (ys.map SlV.sl = (s.feeds (tx (xs.take k))).2)) (fun _ i _ => xs.length - (intOf i).toNat)
  case atStart => exact ⟨0, d, s, [], Nat.zero_le _, rfl, HU0, Lib.hid rfl, Lib.hid rfl⟩
  case round =>
    clear HU0
    obtain ⟨k, d1, s1, ys, hk, rfl, HU, HS1, HY⟩ := hrel
    have HB1 : Hid (Bd (n + total xs) s1) := Lib.hid (by
      rw [HS1.out]
      exact (Bd.feeds (tx (xs.take k)) HB.out).more (by have := total_le xs k; unfold total at this ⊢; omega))
    have hyl : ys.length ≤ total xs := by
      have h1 := congrArg List.length HY.out
      rw [List.length_map] at h1
      have h2 := feeds_told_len (tx (xs.take k)) s
      have h3 := total_le xs k
      unfold total at h3 ⊢
      omega
    by_cases hlt : k < xs.length
    · have hkl : (k : Int) < (xs.length : Int) := by omega
      have HC := Lib.hid (HX.out.ch HU.out.uch HU.out.und)
      obtain ⟨b, off, rfl, hbl, hc⟩ := HC.out.kts.1 (by omega)
      have c0 := hc k hlt
      have hmem := List.getElem_mem hlt
      have hxl : xs[k].text.length ≤ total xs := by
        have h1 := total_succ xs k hlt
        have h2 := total_le xs (k + 1)
        omega
      have HF := Lib.hid (sfeed_all W0 wr p mp g d1 s1 HU.out.um _ HB1.out (by omega) xs[k].text xs[k].a _ xs[k].cap rfl (HC.out.bx hmem) (by omega) (HC.out.kcap _ hmem) xs[k].nil0)
      have hfl := feed_told_len s1 xs[k].text
      clear hc hmem
      generalize u5 = v at *
      go_wp2_with (first
        | (go_at_call 15; (with_reducible refine HF.out.mono ?_); rintro e w1 ⟨v1, zs, d2, rfl, hz, hgv, hd, hm, hch⟩; have HU1 := Lib.hid (HU.out.step hm hch hd); have HZ := Lib.hid hz; have HGV := Lib.hid hgv; have hzl : zs.length ≤ xs[k].text.length := by { have h1 := congrArg List.length hz; rw [List.length_map] at h1; omega }; have hws := hch.csize; clear hz hgv hd hm hch)
        | (at_builtin; refine app_sl rfl (.tmp 13) (.tmp 19) rfl w.heap.size _ ys.length (ys.flatMap scells) rfl HU1.out.ur wr.heap.size _ zs rfl HGV.out.1 (by omega) (by have := HU1.out.uch.csize; omega) ?_; intro v' w2 hown2 hg2))
      go_roundw
      case rel =>
        have hws0 := HU.out.uch.csize
        refine ⟨k + 1, d2, (s1.feed xs[k].text).1, ys ++ zs, hlt, by go_num, Lib.hid (HU1.out.more (fun z hz => ⟨(HGV.out.2 z hz).1.less hws0, (HGV.out.2 z hz).2⟩) hown2 hg2).1, Lib.hid ?_, Lib.hid ?_⟩
        · rw [tx_succ xs k hlt, feeds_snoc, HS1.out]
        · rw [tx_succ xs k hlt, feeds_snoc, List.map_append, HY.out, HZ.out, HS1.out]
      case measure => simp [intOf]; omega
    · obtain rfl : k = xs.length := by omega
      rw [List.take_length] at HS1 HY
      generalize u5 = v at *
      have HE := Lib.hid (send_all W0 wr p mp g d1 s1 HU.out.um _ HB1.out (by omega))
      have hfl := fin_told_len s1
      go_wp2_with (first
        | (go_at_call 17; (with_reducible refine HE.out.mono ?_); rintro e w1 ⟨v1, zs, d2, rfl, hz, hgv, hd, hm, hch⟩; have HU1 := Lib.hid (HU.out.step hm hch hd); have HZ := Lib.hid hz; have HGV := Lib.hid hgv; have hzl : zs.length ≤ 1 := by { have h1 := congrArg List.length hz; rw [List.length_map] at h1; omega }; have hws := hch.csize; clear hz hgv hd hm hch)
        | (at_builtin; refine app_sl rfl (.tmp 21) (.tmp 23) rfl w.heap.size _ ys.length (ys.flatMap scells) rfl HU1.out.ur wr.heap.size _ zs rfl HGV.out.1 (by omega) (by have := HU1.out.uch.csize; omega) ?_; intro v' w2 hown2 hg2))
      go_ret
      have hws0 := HU.out.uch.csize
      have hf := (HU1.out.more (fun z hz => ⟨(HGV.out.2 z hz).1.less hws0, (HGV.out.2 z hz).2⟩) hown2 hg2).1
      refine ⟨v', ys ++ zs, d2, rfl, ?_, ⟨hf.ur, hf.ux⟩, hf.und, ?_, hf.uch⟩
      · unfold runs
        rw [List.map_append, HY.out, HZ.out, HS1.out]
      · unfold runs
        rw [← HS1.out]
        exact hf.um
end Go.Proofs.Ytcekifknbljbiaa.Str
