import Derived.Test.YtkooanahgffjgaaSc
/- The numbers of Ends in a row of the call's own; Step. -/
namespace Go.Proofs.Ytkooanahgffjgaa.Spa
open Go.RowKit Go.Maps
open Go.Proofs.Ytkooanahgffjgaa.Tri Go.Proofs.Ytkooanahgffjgaa.Lnk
set_option maxRecDepth 100000
def GivesOwn (w : World) (l : List Int) (e : Ending) (w' : World) : Prop := ∃ v, e = .returned v ∧ w'.ownsRow w.heap.size 3 1 v l.length (ivals l) ∧ Below w.heap.size w w'
set_option maxHeartbeats 2000000 in
theorem ends_own (w : World) (s t : Nat) (ps l : List Tx) (h : Li w s t ps l) (n : Int) (hd : (pathD ps n).length ≤ 1000000) :
    Calls Try.prog 34 #[.pointer (some ⟨t, 0, none⟩), .int .i64 n] w (GivesOwn w (endsOf l (pathD ps n))) := by
  have HA := Lib.hid (lat_any w s t ps l h n)
  have HAT : Hid (∀ X m, Below w.heap.size w X → Calls Try.prog 49 #[.pointer (some ⟨t, 0, none⟩), .int .i64 m] X fun e w' => e = .returned (lkV (lkAt ps l m)) ∧ Below X.heap.size X w') := Lib.hid fun X m hX => lat_any X s t ps l (h.keep hX) m
  rw [lk_path] at HA
  have HL := Lib.hid h.2.1
  clear h
  generalize pathD ps n = p at *
  have HSP := Lib.hid (ends_split l p)
  have HEL := Lib.hid (ends_len l p)
  by_cases ho : 0 < own l p
  · have ho2 : (0 : Int) < (own l p : Int) := by omega
    go_enter Try.func34, Try.ntmps34
    go_wp2_with fail
    refine HA.out.mono ?_
    rintro e w1 ⟨rfl, hb⟩
    have HB1 := Lib.hid hb
    have hsz := hb.size
    clear hb
    have HK1 := Lib.hid (new_cells w1 (.int .i64 (failOf ps p)) (.int .i64 (outOf ps l p)) (.int .i64 (own l p : Int)) 86)
    go_wp2_with (at_builtin; refine app_is rfl _ _ rfl (w1.heap.size + 1) _ 0 [] (own l p : Int) rfl (World.ownsRow_nil _ _ _ _) ⟨w1.heap.size + 1, 0, none⟩ rfl (cell_new_at _ _ (by simp)) (by omega) (by simp) ?_; intro v2 w2 hown2 hg2)
    have hk1 : Blk3 w2 w1.heap.size 86 (.int .i64 (failOf ps p)) (.int .i64 (outOf ps l p)) (.int .i64 (own l p : Int)) := (hg2.block _ (by simp; omega) (fun e => by cases e)).trans ((Below.heap_alloc _ _ _ (by simp)).trans HK1.out)
    have hb1 : Below w.heap.size w w2 := ((HB1.out.alloc hsz _).alloc (by simp; omega) _).grown hg2 (by simp; omega) (fun k hk => by cases hk)
    have HE : Hid ([(own l p : Int)] ++ tailE l p = endsOf l p) := Lib.hid (by rw [HSP.out, if_pos ho])
    clear hg2 HK1 HA HB1 HSP ho ho2
    generalize w1.heap.size = gx at *
    have hgw : w.heap.size ≤ gx := hsz
    go_loopw [5] (fun v wr => ∃ (es : List Int) (q : Tx), es ++ tailE l q = endsOf l p ∧ Blk3 wr gx 86 (.int .i64 (failOf ps q)) (.int .i64 (outOf ps l q)) (.int .i64 (own l q : Int)) ∧ wr.ownsRow (gx + 1) 3 1 v es.length (ivals es) ∧ Below w.heap.size w wr) (fun v _ => (endsOf l p).length - lenOf v)
    case atStart => exact ⟨[(own l p : Int)], p, HE.out, hk1, hown2, hb1⟩
    case round =>
      obtain ⟨es, q, he, hk, hown, hbel⟩ := hrel
      obtain ⟨c0, c1, c2⟩ := hk.cells
      obtain ⟨f0, f1, f2⟩ := hk.free
      have hgx := hk.lt
      rcases out_split HL.out q with ⟨e1, e2⟩ | ⟨z, z1, z2, z3, z4, z5, z6, z7⟩
      · have hx : outOf ps l q < 0 := by omega
        have HE : Hid (es = endsOf l p) := Lib.hid (by rw [← he, e2, List.append_nil])
        have HO := Lib.hid hown
        have HB := Lib.hid hbel
        clear hown hbel hk he e1 e2 f0 f1 f2
        generalize outOf ps l q = y at *
        go_wp2
        go_ret
        exact ⟨_, rfl, by rw [← HE.out]; exact own_base HO.out (by omega), HB.out⟩
      · have hx : 0 ≤ outOf ps l q := by rw [z5]; exact (place_nonneg ps z).2 z3
        have hlen : es.length + (tailE l q).length = (endsOf l p).length := by rw [← he, List.length_append]
        have HLT : Hid (0 < (tailE l q).length) := Lib.hid (by rw [z6, ends_split, if_pos (own_pos.2 ⟨z2, z1⟩)]; simp)
        have hlt2 := HLT.out
        have hel := HEL.out
        have HC : Hid (Calls Try.prog 49 #[.pointer (some ⟨t, 0, none⟩), .int .i64 (outOf ps l q)] wr fun e w' => e = .returned (.agg #[.int .i64 (failOf ps z), .int .i64 (outOf ps l z), .int .i64 (own l z : Int)]) ∧ Below wr.heap.size wr w') := Lib.hid (by
          have := HAT.out wr (outOf ps l q) hbel
          rw [z5] at this ⊢
          rwa [lkAt_place l z3] at this)
        have HE : Hid ((es ++ [(own l z : Int)]) ++ tailE l z = endsOf l p) := Lib.hid (by
          rw [← he, z6, ends_split l z, if_pos (own_pos.2 ⟨z2, z1⟩)]
          simp)
        have HO := Lib.hid hown
        have HB := Lib.hid hbel
        have HK := Lib.hid hk
        clear hown hbel hk he z1 z2 z3 z4 z5 z6 z7
        obtain ⟨av, cv, rfl, _, _⟩ := own_is HO.out
        generalize outOf ps l q = y at *
        generalize failOf ps q = y0 at *
        generalize own l q = y2 at *
        go_wp2_with (first
          | (go_at_call 49; (with_reducible refine HC.out.mono ?_); rintro e w2 ⟨rfl, hb⟩; have HB2 := Lib.hid hb; clear hb; have hk2 := HK.out.keep HB2.out hgx; obtain ⟨d0, d1, d2⟩ := hk2.cells; obtain ⟨g0, g1, g2⟩ := hk2.free; have hgx2 := hk2.lt; have HK2 := Lib.hid hk2; clear hk2)
          | (at_builtin; refine app_is rfl _ _ rfl (gx + 1) _ _ es (own l z : Int) rfl ((own_put3 (own_keep HO.out HB2.out) (Nat.lt_succ_self gx)).alloc _) ⟨w2.heap.size, 0, none⟩ rfl (cell_new_at _ _ (by simp)) (by omega) (by simp; omega) ?_; intro v3 w3 hown3 hg3))
        have hb3 : Below w.heap.size w (put3 w2 gx (.int .i64 (failOf ps z)) (.int .i64 (outOf ps l z)) (.int .i64 (own l z : Int))) := below_put3 (HB.out.trans (HB2.out.mono HB.out.size)) hgw _ _ _
        have hk3 : Blk3 w3 gx 86 (.int .i64 (failOf ps z)) (.int .i64 (outOf ps l z)) (.int .i64 (own l z : Int)) := (hg3.block _ (by simp; omega) (own_far HO.out gx (Nat.lt_succ_self gx))).trans ((Below.heap_alloc _ _ _ (by simp; omega)).trans (HK2.out.put _ _ _))
        refine ⟨⟨es ++ [(own l z : Int)], z, HE.out, hk3, by rw [List.length_append]; exact hown3, (hb3.alloc hb3.size _).grown hg3 (by have := hb3.size; simp [put3] at this ⊢; omega) (fun k hk => by have := own_ge HO.out hk; omega)⟩, ?_⟩
        obtain ⟨g3, cap3, rfl⟩ := own_succ hown3
        simp [lenOf]
        omega
  · have ho2 : ¬ (0 : Int) < (own l p : Int) := by omega
    go_enter Try.func34, Try.ntmps34
    go_wp2_with fail
    refine HA.out.mono ?_
    rintro e w1 ⟨rfl, hb⟩
    have HB1 := Lib.hid hb
    have hsz := hb.size
    clear hb
    have HK1 := Lib.hid (new_cells w1 (.int .i64 (failOf ps p)) (.int .i64 (outOf ps l p)) (.int .i64 (own l p : Int)) 86)
    go_wp2
    have hk1 : Blk3 (w1.alloc (.cells #[.int .i64 (failOf ps p), .int .i64 (outOf ps l p), .int .i64 (own l p : Int)] 86)) w1.heap.size 86 (.int .i64 (failOf ps p)) (.int .i64 (outOf ps l p)) (.int .i64 (own l p : Int)) := HK1.out
    have hb1 := HB1.out.alloc hsz (.cells #[.int .i64 (failOf ps p), .int .i64 (outOf ps l p), .int .i64 (own l p : Int)] 86)
    have HE : Hid ([] ++ tailE l p = endsOf l p) := Lib.hid (by rw [HSP.out, if_neg ho])
    clear HK1 HA HB1 HSP ho ho2
    generalize w1.alloc (.cells #[.int .i64 (failOf ps p), .int .i64 (outOf ps l p), .int .i64 (own l p : Int)] 86) = w2 at *
    generalize w1.heap.size = gx at *
    have hgw : w.heap.size ≤ gx := hsz
    go_loopw [5] (fun v wr => ∃ (es : List Int) (q : Tx), es ++ tailE l q = endsOf l p ∧ Blk3 wr gx 86 (.int .i64 (failOf ps q)) (.int .i64 (outOf ps l q)) (.int .i64 (own l q : Int)) ∧ wr.ownsRow (gx + 1) 3 1 v es.length (ivals es) ∧ Below w.heap.size w wr) (fun v _ => (endsOf l p).length - lenOf v)
    case atStart => exact ⟨[], p, HE.out, hk1, World.ownsRow_nil _ _ _ _, hb1⟩
    case round =>
      obtain ⟨es, q, he, hk, hown, hbel⟩ := hrel
      obtain ⟨c0, c1, c2⟩ := hk.cells
      obtain ⟨f0, f1, f2⟩ := hk.free
      have hgx := hk.lt
      rcases out_split HL.out q with ⟨e1, e2⟩ | ⟨z, z1, z2, z3, z4, z5, z6, z7⟩
      · have hx : outOf ps l q < 0 := by omega
        have HE : Hid (es = endsOf l p) := Lib.hid (by rw [← he, e2, List.append_nil])
        have HO := Lib.hid hown
        have HB := Lib.hid hbel
        clear hown hbel hk he e1 e2 f0 f1 f2
        generalize outOf ps l q = y at *
        go_wp2
        go_ret
        exact ⟨_, rfl, by rw [← HE.out]; exact own_base HO.out (by omega), HB.out⟩
      · have hx : 0 ≤ outOf ps l q := by rw [z5]; exact (place_nonneg ps z).2 z3
        have hlen : es.length + (tailE l q).length = (endsOf l p).length := by rw [← he, List.length_append]
        have HLT : Hid (0 < (tailE l q).length) := Lib.hid (by rw [z6, ends_split, if_pos (own_pos.2 ⟨z2, z1⟩)]; simp)
        have hlt2 := HLT.out
        have hel := HEL.out
        have HC : Hid (Calls Try.prog 49 #[.pointer (some ⟨t, 0, none⟩), .int .i64 (outOf ps l q)] wr fun e w' => e = .returned (.agg #[.int .i64 (failOf ps z), .int .i64 (outOf ps l z), .int .i64 (own l z : Int)]) ∧ Below wr.heap.size wr w') := Lib.hid (by
          have := HAT.out wr (outOf ps l q) hbel
          rw [z5] at this ⊢
          rwa [lkAt_place l z3] at this)
        have HE : Hid ((es ++ [(own l z : Int)]) ++ tailE l z = endsOf l p) := Lib.hid (by
          rw [← he, z6, ends_split l z, if_pos (own_pos.2 ⟨z2, z1⟩)]
          simp)
        have HO := Lib.hid hown
        have HB := Lib.hid hbel
        have HK := Lib.hid hk
        clear hown hbel hk he z1 z2 z3 z4 z5 z6 z7
        obtain ⟨av, cv, rfl, _, _⟩ := own_is HO.out
        generalize outOf ps l q = y at *
        generalize failOf ps q = y0 at *
        generalize own l q = y2 at *
        go_wp2_with (first
          | (go_at_call 49; (with_reducible refine HC.out.mono ?_); rintro e w5 ⟨rfl, hb⟩; have HB2 := Lib.hid hb; clear hb; have hk2 := HK.out.keep HB2.out hgx; obtain ⟨d0, d1, d2⟩ := hk2.cells; obtain ⟨g0, g1, g2⟩ := hk2.free; have hgx2 := hk2.lt; have HK2 := Lib.hid hk2; clear hk2)
          | (at_builtin; refine app_is rfl _ _ rfl (gx + 1) _ _ es (own l z : Int) rfl ((own_put3 (own_keep HO.out HB2.out) (Nat.lt_succ_self gx)).alloc _) ⟨w5.heap.size, 0, none⟩ rfl (cell_new_at _ _ (by simp)) (by omega) (by simp; omega) ?_; intro v3 w3 hown3 hg3))
        have hb3 : Below w.heap.size w (put3 w5 gx (.int .i64 (failOf ps z)) (.int .i64 (outOf ps l z)) (.int .i64 (own l z : Int))) := below_put3 (HB.out.trans (HB2.out.mono HB.out.size)) hgw _ _ _
        have hk3 : Blk3 w3 gx 86 (.int .i64 (failOf ps z)) (.int .i64 (outOf ps l z)) (.int .i64 (own l z : Int)) := (hg3.block _ (by simp; omega) (own_far HO.out gx (Nat.lt_succ_self gx))).trans ((Below.heap_alloc _ _ _ (by simp; omega)).trans (HK2.out.put _ _ _))
        refine ⟨⟨es ++ [(own l z : Int)], z, HE.out, hk3, by rw [List.length_append]; exact hown3, (hb3.alloc hb3.size _).grown hg3 (by have := hb3.size; simp [put3] at this ⊢; omega) (fun k hk => by have := own_ge HO.out hk; omega)⟩, ?_⟩
        obtain ⟨g3, cap3, rfl⟩ := own_succ hown3
        simp [lenOf]
        omega
/-! What an append to pairs of the call's own leaves. -/
theorem ne52 {w : World} {r : Option Nat} (hr : ∀ g, r = some g → ∃ cs fr, w.heap[g]? = some (.cells cs 52 fr)) {k : Nat} {cs : Array Value} {t : TypeId} {fr : Nat × Nat} (h : w.heap[k]? = some (.cells cs t fr)) (ht : t ≠ 52) : some k ≠ r := fun e => by
  obtain ⟨cs', fr', h'⟩ := hr k e.symm
  rw [h] at h'
  obtain ⟨_, e2, _⟩ := Obj.cells.inj (Option.some.inj h')
  exact ht e2
theorem tx_far {w w' : World} {r : Option Nat} {s t : Nat} {p : Option Addr} {l : Tx} (h : Met.Tx w s t p l) (hg : w.grownBy w' r) (hr : ∀ g, r = some g → ∃ cs fr, w.heap[g]? = some (.cells cs 52 fr)) : Met.Tx w' s t p l := by
  obtain ⟨h1, a, cap, h2, h3⟩ := h
  exact ⟨h1, a, cap, h2.same (hg.block _ h2.lt (ne52 hr h2 (by decide))), txt_grown h3 hg fun r' cs fr e he => ne52 hr he (by decide) e.symm⟩
theorem tb_far {w w' : World} {r : Option Nat} {s t : Nat} {p : Option Addr} {l : List Rw} (h : Met.Tb w s t p l) (hg : w.grownBy w' r) (hr : ∀ g, r = some g → ∃ cs fr, w.heap[g]? = some (.cells cs 52 fr)) : Met.Tb w' s t p l := by
  obtain ⟨h1, v, g, n, h2, h3, h4⟩ := h
  exact ⟨h1, v, g, n, h2.same (hg.block _ h2.lt (ne52 hr h2 (by decide))), (hg.block _ (txt_lt h3) (ne52 hr h3 (by decide))).trans h3, h4.same (hg.block _ h4.lt fun e => by
    obtain ⟨cs, fr, h'⟩ := hr g e.symm
    exact h4.not h')⟩
theorem mt_far {w w' : World} {r : Option Nat} {p : Option Addr} {a b c d : Int} (h : Met.Mt w p a b c d) (hg : w.grownBy w' r) (hr : ∀ g, r = some g → ∃ cs fr, w.heap[g]? = some (.cells cs 52 fr)) : Met.Mt w' p a b c d := by
  rcases h with e | ⟨g, e, h⟩
  · exact .inl e
  · exact .inr ⟨g, e, h.same (hg.block _ h.lt (ne52 hr h (by decide)))⟩
/-- Two handles of one meter, and what it has counted. -/
def Sc (w : World) (p : Option Addr) (ps : List Tx) (line : Tx) (s1 tx s2 tb : Nat) (a b e d : Int) (wr : World) : Prop :=
  Met.Tx wr s1 tx p line ∧ Met.Tb wr s2 tb p (edges ps) ∧ Met.Mt wr p a b e d ∧ w.grownBy wr (Met.blk p)
theorem Sc.keep {w wr w' : World} {p : Option Addr} {ps : List Tx} {line : Tx} {s1 tx s2 tb : Nat} {a b e d : Int} (h : Sc w p ps line s1 tx s2 tb a b e d wr) (hb : Below wr.heap.size wr w') : Sc w p ps line s1 tx s2 tb a b e d w' :=
  ⟨h.1.keep hb, h.2.1.keep hb, h.2.2.1.keep hb, h.2.2.2.trans ((grown_of_below hb).but _)⟩
theorem Sc.adds {w wr w' : World} {p : Option Addr} {ps : List Tx} {line : Tx} {s1 tx s2 tb : Nat} {a b e d a' b' e' d' : Int} (h : Sc w p ps line s1 tx s2 tb a b e d wr) (hg : wr.grownBy w' (Met.blk p)) (hM : Met.Mt w' p a' b' e' d') : Sc w p ps line s1 tx s2 tb a' b' e' d' w' :=
  ⟨h.1.adds hg h.2.2.1, h.2.1.adds hg h.2.2.1, hM, h.2.2.2.trans hg⟩
theorem Sc.far {w wr w' : World} {p : Option Addr} {ps : List Tx} {line : Tx} {s1 tx s2 tb : Nat} {a b e d : Int} {v : Value} {n : Nat} {xs : List Value} (h : Sc w p ps line s1 tx s2 tb a b e d wr) (ho : wr.ownsRow w.heap.size 52 2 v n xs) (hg : wr.grownBy w' v.ownBlock) : Sc w p ps line s1 tx s2 tb a b e d w' := by
  have hr : ∀ g, v.ownBlock = some g → ∃ cs fr, wr.heap[g]? = some (.cells cs 52 fr) := fun g hg => by
    obtain ⟨_, _, cs, hh⟩ := own_block_lt ho hg
    exact ⟨cs, _, hh⟩
  exact ⟨tx_far h.1 hg hr, tb_far h.2.1 hg hr, mt_far h.2.2.1 hg hr, h.2.2.2.andThen hg fun j hj => .inl (own_ge ho hj)⟩
/-! Step. -/
theorem Step_none (w : World) (p : Option Addr) (n c : Int) : Calls Try.prog 21 #[.pointer none, .pointer p, .int .i64 n, .int .u8 c] w fun e w' => e = .returned (.int .i64 (-1)) ∧ w = w' := by
  have HS := Lib.hid (states_none w)
  by_cases hn : n < 0
  · go_enter Try.func21, Try.ntmps21
    go_wp2
    go_ret
    exact ⟨rfl, rfl⟩
  · have hn2 : ¬ n < 0 := hn
    have hn3 : 0 ≤ n := by omega
    go_enter Try.func21, Try.ntmps21
    go_wp2_with (go_at_call 20; (with_reducible refine HS.out.mono ?_); rintro e w2 ⟨rfl, rfl⟩)
    go_ret
    exact ⟨rfl, rfl⟩
theorem Step_out (w : World) (t : Nat) (ps l : List Tx) (hA : Au w t ps l) (p : Option Addr) (n c : Int) (hn : ¬ (0 ≤ n ∧ n < (ps.length : Int))) : Calls Try.prog 21 #[.pointer (some ⟨t, 0, none⟩), .pointer p, .int .i64 n, .int .u8 c] w fun e w' => e = .returned (.int .i64 (-1)) ∧ w = w' := by
  have HS := Lib.hid (states_any w t ps l hA)
  clear hA
  by_cases hn1 : n < 0
  · clear hn
    go_enter Try.func21, Try.ntmps21
    go_wp2
    go_ret
    exact ⟨rfl, rfl⟩
  · have hn3 : (ps.length : Int) ≤ n := by omega
    clear hn
    go_enter Try.func21, Try.ntmps21
    go_wp2_with (go_at_call 20; (with_reducible refine HS.out.mono ?_); rintro e w2 ⟨rfl, rfl⟩)
    go_ret
    exact ⟨rfl, rfl⟩
set_option maxHeartbeats 4000000 in
theorem Step_in (w : World) (t : Nat) (ps l : List Tx) (hA : Au w t ps l) (p : Option Addr) (q : Tx) (hq : q ∈ ps) (c : UInt8) (a b e d : Int) (hM : Met.Mt w p a b e d)
    (ha : 0 ≤ a ∧ a ≤ 1000000000000) (hb : 0 ≤ b ∧ b + (stepN ps c q : Int) ≤ 1000000000000) (hc : 0 ≤ e ∧ e ≤ 1000000000000) (hd : 0 ≤ d ∧ d ≤ 1000000000000) :
    Calls Try.prog 21 #[.pointer (some ⟨t, 0, none⟩), .pointer p, .int .i64 (place ps q), .int .u8 (c.toNat : Int)] w (Met.Adds w p a (b + (stepN ps c q : Int)) e d (.int .i64 (place ps (stepT ps c q)))) := by
  have HS := Lib.hid (states_any w t ps l hA)
  have HA := Lib.hid hA
  have HQ := Lib.hid hq
  have HM := Lib.hid hM
  obtain ⟨_, _, hn, _, tt, lt, v, hB, _, _, hO⟩ := hA
  obtain ⟨ae, ce, rfl, hR⟩ := own_rs hO rfl
  obtain ⟨c0, c1, c2⟩ := hB.cells
  have HC := Lib.hid (Met.sparse_any w p (edges ps) ae ce (edges_len ps hn) hR (edges_wf ps hn _ (Nat.le_refl _)))
  have h1 := (place_nonneg ps q).2 hq
  have h2 := place_lt ps q
  have h3 : ¬ place ps q < 0 := by omega
  have h4 : ¬ (ps.length : Int) ≤ place ps q := by omega
  clear hB hO hR hM hq c0 c1
  go_enter Try.func21, Try.ntmps21
  go_wp2_with (first
    | (go_at_call 20; (with_reducible refine HS.out.mono ?_); rintro e w2 ⟨rfl, rfl⟩)
    | (go_at_call 30; (with_reducible refine HC.out.mono ?_); rintro e w2 ⟨tb, rfl, hT, hb2⟩; have HT := Lib.hid hT; have HB2 := Lib.hid hb2; clear hT hb2)
    | (go_at_call 32; (with_reducible refine (sstep_any w2 t ps l (HA.out.keep HB2.out) _ tb p HT.out q HQ.out c a b e d (HM.out.keep HB2.out) ha hb hc hd).mono ?_); rintro e w3 ⟨rfl, hM3, hg3⟩; have HM3 := Lib.hid hM3; have HG3 := Lib.hid hg3; clear hM3 hg3))
  go_ret
  exact ⟨rfl, HM3.out, ((grown_of_below HB2.out).but _).trans HG3.out⟩
end Go.Proofs.Ytkooanahgffjgaa.Spa
