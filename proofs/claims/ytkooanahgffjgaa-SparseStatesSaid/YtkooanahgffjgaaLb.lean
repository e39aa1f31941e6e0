/- The contract of Ends. -/
import Derived.Test.YtkooanahgffjgaaLa
namespace Go.Proofs.Ytkooanahgffjgaa.Lnk
open Go.RowKit Go.Maps Go.Proofs.Ytkooanahgffjgaa.Tri
set_option maxRecDepth 100000

/-- How long a slice is. -/
def lenOf : Value → Nat
  | .slice _ n _ => n
  | _ => 0
/-- What ends in a number's path: what is kept of it tells it. -/
theorem lk_path (ps l : List Tx) (n : Int) : lkAt ps l n = ⟨failOf ps (pathD ps n), outOf ps l (pathD ps n), own l (pathD ps n)⟩ := by
  by_cases hin : 0 ≤ n ∧ n < ps.length
  · obtain ⟨i, rfl⟩ : ∃ i : Nat, n = (i : Int) := ⟨n.toNat, by omega⟩
    have hi : i < ps.length := by omega
    rw [lkAt_in l hi, pathD_at hi]; rfl
  · rw [pathD_none hin, lkAt_out l hin, own_nil]; rfl
theorem ends_len (l : List Tx) : ∀ p : Tx, (endsOf l p).length ≤ p.length
  | [] => by simp [endsOf]
  | c :: p => by
    have := ends_len l p
    unfold endsOf
    split <;> simp <;> omega
set_option maxHeartbeats 2000000 in
theorem ends_any (w : World) (s t : Nat) (ps l : List Tx) (h : Li w s t ps l) (n : Int) (hd : (pathD ps n).length ≤ 1000000) :
    Calls Try.prog 34 #[.pointer (some ⟨t, 0, none⟩), .int .i64 n] w (GivesInts w (endsOf l (pathD ps n))) := by
  have HA := Lib.hid (lat_any w s t ps l h n)
  have HAT : Hid (∀ X m, Below w.heap.size w X → Calls Try.prog 49 #[.pointer (some ⟨t, 0, none⟩), .int .i64 m] X fun e w' => e = .returned (lkV (lkAt ps l m)) ∧ Below X.heap.size X w') := Lib.hid fun X m hX => lat_any X s t ps l (h.keep hX) m
  rw [lk_path] at HA
  have HL := Lib.hid h.2.1
  clear h
  generalize pathD ps n = p at *
  have HSP := Lib.hid (ends_split l p)
  have HEL := Lib.hid (ends_len l p)
  by_cases ho : 0 < own l p
  · have ho2 : (0 : Int) < (own l p : Int) := by omega
    go_enter Try.func34, Try.ntmps34
    go_wp2_with fail
    refine HA.out.mono ?_
    rintro e w1 ⟨rfl, hb⟩
    have HB1 := Lib.hid hb
    have hsz := hb.size
    clear hb
    have HK1 := Lib.hid (new_cells w1 (.int .i64 (failOf ps p)) (.int .i64 (outOf ps l p)) (.int .i64 (own l p : Int)) 86)
    go_wp2_with (at_builtin; refine app_is rfl _ _ rfl (w1.heap.size + 1) _ 0 [] (own l p : Int) rfl (World.ownsRow_nil _ _ _ _) ⟨w1.heap.size + 1, 0, none⟩ rfl (cell_new_at _ _ (by simp)) (by omega) (by simp) ?_; intro v2 w2 hown2 hg2)
    have hk1 : Blk3 w2 w1.heap.size 86 (.int .i64 (failOf ps p)) (.int .i64 (outOf ps l p)) (.int .i64 (own l p : Int)) := (hg2.block _ (by simp; omega) (fun e => by cases e)).trans ((Below.heap_alloc _ _ _ (by simp)).trans HK1.out)
    have hb1 : Below w.heap.size w w2 := ((HB1.out.alloc hsz _).alloc (by simp; omega) _).grown hg2 (by simp; omega) (fun k hk => by cases hk)
    have HE : Hid ([(own l p : Int)] ++ tailE l p = endsOf l p) := Lib.hid (by rw [HSP.out, if_pos ho])
    clear hg2 HK1 HA HB1 HSP ho ho2
    generalize w1.heap.size = gx at *
    have hgw : w.heap.size ≤ gx := hsz
    go_loopw [5] (fun v wr => ∃ (es : List Int) (q : Tx), es ++ tailE l q = endsOf l p ∧ Blk3 wr gx 86 (.int .i64 (failOf ps q)) (.int .i64 (outOf ps l q)) (.int .i64 (own l q : Int)) ∧ wr.ownsRow (gx + 1) 3 1 v es.length (ivals es) ∧ Below w.heap.size w wr) (fun v _ => (endsOf l p).length - lenOf v)
    case atStart => exact ⟨[(own l p : Int)], p, HE.out, hk1, hown2, hb1⟩
    case round =>
      obtain ⟨es, q, he, hk, hown, hbel⟩ := hrel
      obtain ⟨c0, c1, c2⟩ := hk.cells
      obtain ⟨f0, f1, f2⟩ := hk.free
      have hgx := hk.lt
      rcases out_split HL.out q with ⟨e1, e2⟩ | ⟨z, z1, z2, z3, z4, z5, z6, z7⟩
      · have hx : outOf ps l q < 0 := by omega
        have HE : Hid (es = endsOf l p) := Lib.hid (by rw [← he, e2, List.append_nil])
        have HO := Lib.hid hown
        have HB := Lib.hid hbel
        clear hown hbel hk he e1 e2 f0 f1 f2
        generalize outOf ps l q = y at *
        go_wp2
        go_ret
        obtain ⟨a, cap, e, hi, hnil⟩ := own_is HO.out
        rw [HE.out] at e hi
        exact ⟨a, cap, by rw [← e]; rfl, hi, hnil, HB.out⟩
      · have hx : 0 ≤ outOf ps l q := by rw [z5]; exact (place_nonneg ps z).2 z3
        have hlen : es.length + (tailE l q).length = (endsOf l p).length := by rw [← he, List.length_append]
        have HLT : Hid (0 < (tailE l q).length) := Lib.hid (by rw [z6, ends_split, if_pos (own_pos.2 ⟨z2, z1⟩)]; simp)
        have hlt2 := HLT.out
        have hel := HEL.out
        have HC : Hid (Calls Try.prog 49 #[.pointer (some ⟨t, 0, none⟩), .int .i64 (outOf ps l q)] wr fun e w' => e = .returned (.agg #[.int .i64 (failOf ps z), .int .i64 (outOf ps l z), .int .i64 (own l z : Int)]) ∧ Below wr.heap.size wr w') := Lib.hid (by
          have := HAT.out wr (outOf ps l q) hbel
          rw [z5] at this ⊢
          rwa [lkAt_place l z3] at this)
        have HE : Hid ((es ++ [(own l z : Int)]) ++ tailE l z = endsOf l p) := Lib.hid (by
          rw [← he, z6, ends_split l z, if_pos (own_pos.2 ⟨z2, z1⟩)]
          simp)
        have HO := Lib.hid hown
        have HB := Lib.hid hbel
        have HK := Lib.hid hk
        clear hown hbel hk he z1 z2 z3 z4 z5 z6 z7
        obtain ⟨av, cv, rfl, _, _⟩ := own_is HO.out
        generalize outOf ps l q = y at *
        generalize failOf ps q = y0 at *
        generalize own l q = y2 at *
        go_wp2_with (first
          | (go_at_call 49; (with_reducible refine HC.out.mono ?_); rintro e w2 ⟨rfl, hb⟩; have HB2 := Lib.hid hb; clear hb; have hk2 := HK.out.keep HB2.out hgx; obtain ⟨d0, d1, d2⟩ := hk2.cells; obtain ⟨g0, g1, g2⟩ := hk2.free; have hgx2 := hk2.lt; have HK2 := Lib.hid hk2; clear hk2)
          | (at_builtin; refine app_is rfl _ _ rfl (gx + 1) _ _ es (own l z : Int) rfl ((own_put3 (own_keep HO.out HB2.out) (Nat.lt_succ_self gx)).alloc _) ⟨w2.heap.size, 0, none⟩ rfl (cell_new_at _ _ (by simp)) (by omega) (by simp; omega) ?_; intro v3 w3 hown3 hg3))
        have hb3 : Below w.heap.size w (put3 w2 gx (.int .i64 (failOf ps z)) (.int .i64 (outOf ps l z)) (.int .i64 (own l z : Int))) := below_put3 (HB.out.trans (HB2.out.mono HB.out.size)) hgw _ _ _
        have hk3 : Blk3 w3 gx 86 (.int .i64 (failOf ps z)) (.int .i64 (outOf ps l z)) (.int .i64 (own l z : Int)) := (hg3.block _ (by simp; omega) (own_far HO.out gx (Nat.lt_succ_self gx))).trans ((Below.heap_alloc _ _ _ (by simp; omega)).trans (HK2.out.put _ _ _))
        refine ⟨⟨es ++ [(own l z : Int)], z, HE.out, hk3, by rw [List.length_append]; exact hown3, (hb3.alloc hb3.size _).grown hg3 (by have := hb3.size; simp [put3] at this ⊢; omega) (fun k hk => by have := own_ge HO.out hk; omega)⟩, ?_⟩
        obtain ⟨g3, cap3, rfl⟩ := own_succ hown3
        simp [lenOf]
        omega
  · have ho2 : ¬ (0 : Int) < (own l p : Int) := by omega
    go_enter Try.func34, Try.ntmps34
    go_wp2_with fail
    refine HA.out.mono ?_
    rintro e w1 ⟨rfl, hb⟩
    have HB1 := Lib.hid hb
    have hsz := hb.size
    clear hb
    have HK1 := Lib.hid (new_cells w1 (.int .i64 (failOf ps p)) (.int .i64 (outOf ps l p)) (.int .i64 (own l p : Int)) 86)
    go_wp2
    have hk1 : Blk3 (w1.alloc (.cells #[.int .i64 (failOf ps p), .int .i64 (outOf ps l p), .int .i64 (own l p : Int)] 86)) w1.heap.size 86 (.int .i64 (failOf ps p)) (.int .i64 (outOf ps l p)) (.int .i64 (own l p : Int)) := HK1.out
    have hb1 := HB1.out.alloc hsz (.cells #[.int .i64 (failOf ps p), .int .i64 (outOf ps l p), .int .i64 (own l p : Int)] 86)
    have HE : Hid ([] ++ tailE l p = endsOf l p) := Lib.hid (by rw [HSP.out, if_neg ho])
    clear HK1 HA HB1 HSP ho ho2
    generalize w1.alloc (.cells #[.int .i64 (failOf ps p), .int .i64 (outOf ps l p), .int .i64 (own l p : Int)] 86) = w2 at *
    generalize w1.heap.size = gx at *
    have hgw : w.heap.size ≤ gx := hsz
    go_loopw [5] (fun v wr => ∃ (es : List Int) (q : Tx), es ++ tailE l q = endsOf l p ∧ Blk3 wr gx 86 (.int .i64 (failOf ps q)) (.int .i64 (outOf ps l q)) (.int .i64 (own l q : Int)) ∧ wr.ownsRow (gx + 1) 3 1 v es.length (ivals es) ∧ Below w.heap.size w wr) (fun v _ => (endsOf l p).length - lenOf v)
    case atStart => exact ⟨[], p, HE.out, hk1, World.ownsRow_nil _ _ _ _, hb1⟩
    case round =>
      obtain ⟨es, q, he, hk, hown, hbel⟩ := hrel
      obtain ⟨c0, c1, c2⟩ := hk.cells
      obtain ⟨f0, f1, f2⟩ := hk.free
      have hgx := hk.lt
      rcases out_split HL.out q with ⟨e1, e2⟩ | ⟨z, z1, z2, z3, z4, z5, z6, z7⟩
      · have hx : outOf ps l q < 0 := by omega
        have HE : Hid (es = endsOf l p) := Lib.hid (by rw [← he, e2, List.append_nil])
        have HO := Lib.hid hown
        have HB := Lib.hid hbel
        clear hown hbel hk he e1 e2 f0 f1 f2
        generalize outOf ps l q = y at *
        go_wp2
        go_ret
        obtain ⟨a, cap, e, hi, hnil⟩ := own_is HO.out
        rw [HE.out] at e hi
        exact ⟨a, cap, by rw [← e]; rfl, hi, hnil, HB.out⟩
      · have hx : 0 ≤ outOf ps l q := by rw [z5]; exact (place_nonneg ps z).2 z3
        have hlen : es.length + (tailE l q).length = (endsOf l p).length := by rw [← he, List.length_append]
        have HLT : Hid (0 < (tailE l q).length) := Lib.hid (by rw [z6, ends_split, if_pos (own_pos.2 ⟨z2, z1⟩)]; simp)
        have hlt2 := HLT.out
        have hel := HEL.out
        have HC : Hid (Calls Try.prog 49 #[.pointer (some ⟨t, 0, none⟩), .int .i64 (outOf ps l q)] wr fun e w' => e = .returned (.agg #[.int .i64 (failOf ps z), .int .i64 (outOf ps l z), .int .i64 (own l z : Int)]) ∧ Below wr.heap.size wr w') := Lib.hid (by
          have := HAT.out wr (outOf ps l q) hbel
          rw [z5] at this ⊢
          rwa [lkAt_place l z3] at this)
        have HE : Hid ((es ++ [(own l z : Int)]) ++ tailE l z = endsOf l p) := Lib.hid (by
          rw [← he, z6, ends_split l z, if_pos (own_pos.2 ⟨z2, z1⟩)]
          simp)
        have HO := Lib.hid hown
        have HB := Lib.hid hbel
        have HK := Lib.hid hk
        clear hown hbel hk he z1 z2 z3 z4 z5 z6 z7
        obtain ⟨av, cv, rfl, _, _⟩ := own_is HO.out
        generalize outOf ps l q = y at *
        generalize failOf ps q = y0 at *
        generalize own l q = y2 at *
        go_wp2_with (first
          | (go_at_call 49; (with_reducible refine HC.out.mono ?_); rintro e w5 ⟨rfl, hb⟩; have HB2 := Lib.hid hb; clear hb; have hk2 := HK.out.keep HB2.out hgx; obtain ⟨d0, d1, d2⟩ := hk2.cells; obtain ⟨g0, g1, g2⟩ := hk2.free; have hgx2 := hk2.lt; have HK2 := Lib.hid hk2; clear hk2)
          | (at_builtin; refine app_is rfl _ _ rfl (gx + 1) _ _ es (own l z : Int) rfl ((own_put3 (own_keep HO.out HB2.out) (Nat.lt_succ_self gx)).alloc _) ⟨w5.heap.size, 0, none⟩ rfl (cell_new_at _ _ (by simp)) (by omega) (by simp; omega) ?_; intro v3 w3 hown3 hg3))
        have hb3 : Below w.heap.size w (put3 w5 gx (.int .i64 (failOf ps z)) (.int .i64 (outOf ps l z)) (.int .i64 (own l z : Int))) := below_put3 (HB.out.trans (HB2.out.mono HB.out.size)) hgw _ _ _
        have hk3 : Blk3 w3 gx 86 (.int .i64 (failOf ps z)) (.int .i64 (outOf ps l z)) (.int .i64 (own l z : Int)) := (hg3.block _ (by simp; omega) (own_far HO.out gx (Nat.lt_succ_self gx))).trans ((Below.heap_alloc _ _ _ (by simp; omega)).trans (HK2.out.put _ _ _))
        refine ⟨⟨es ++ [(own l z : Int)], z, HE.out, hk3, by rw [List.length_append]; exact hown3, (hb3.alloc hb3.size _).grown hg3 (by have := hb3.size; simp [put3] at this ⊢; omega) (fun k hk => by have := own_ge HO.out hk; omega)⟩, ?_⟩
        obtain ⟨g3, cap3, rfl⟩ := own_succ hown3
        simp [lenOf]
        omega
theorem eql_nil32 : ∀ (w : World) (a : Option Addr) (n c n' c' : Nat), (binOp .eql 71 (.slice a n c) (.slice none n' c')).run Try.prog w = .ok (.bool a.isNone) w :=
  fun w a n c n' c' => Lib.run_eql_slice_nil w _ _ a n c n' c' und32
/-- The order, as numbers. -/
def ordN (ps : List Tx) : List Int := (ord ps).map (place ps)
theorem ordN_len {ps : List Tx} (hw : Wf ps) : (ordN ps).length = ps.length := by rw [ordN, List.length_map, ord_len hw]
end Go.Proofs.Ytkooanahgffjgaa.Lnk
