import Derived.Test.YtkooanahgffjgaaSd
/- Scan. -/
namespace Go.Proofs.Ytkooanahgffjgaa.Spa
open Go.RowKit Go.Maps
open Go.Proofs.Ytkooanahgffjgaa.Tri Go.Proofs.Ytkooanahgffjgaa.Lnk Go.Proofs.Ytkooanahgffjgaa.Reg Go.Proofs.Ytkooanahgffjgaa.Prs
set_option maxRecDepth 100000
theorem scan_nil (w : World) (p : Option Addr) (a : Option Addr) (n cap : Nat) : Calls Try.prog 14 #[.pointer none, .pointer p, .slice a n cap] w fun e w' => e = .returned (.slice none 0 0) ∧ w = w' := by
  have HS := Lib.hid (states_none w)
  go_enter Try.func14, Try.ntmps14
  go_wp2_with (go_at_call 20; (with_reducible refine HS.out.mono ?_); rintro e w2 ⟨rfl, rfl⟩)
  go_ret
  exact ⟨rfl, rfl⟩
theorem row_len (l : List Tx) (t : Tx) : (rowOf l t).length ≤ t.length := by
  rw [rowOf, List.length_map]; exact ends_len l t
theorem hits_len (l : List Tx) (line : Tx) (m : Nat) (hm : line.length ≤ m) : ∀ k, (hitsTo l line k).length ≤ k * m
  | 0 => by simp [hitsTo]
  | k + 1 => by
    have h1 := hits_len l line m hm k
    have h2 := row_len l (line.take (k + 1))
    have h3 : (line.take (k + 1)).length ≤ m := by rw [List.length_take]; omega
    rw [hitsTo, List.length_append, Nat.succ_mul]; omega
theorem row_snoc (l : List Tx) (t : Tx) (j : Nat) (h : j < (endsOf l t).length) : (rowOf l t).take (j + 1) = (rowOf l t).take j ++ [⟨(t.length : Int) - (endsOf l t)[j], (t.length : Int)⟩] := by
  have h2 : j < (rowOf l t).length := by rw [rowOf, List.length_map]; exact h
  rw [List.take_succ_eq_append_getElem h2]
  simp [rowOf]
theorem row_all (l : List Tx) (t : Tx) : (rowOf l t).take (endsOf l t).length = rowOf l t := List.take_of_length_le (by rw [rowOf, List.length_map]; exact Nat.le_refl _)
theorem ends_bound (l : List Tx) (t : Tx) (j : Nat) (h : j < (endsOf l t).length) : 1 ≤ (endsOf l t)[j] ∧ (endsOf l t)[j] ≤ (t.length : Int) := by
  obtain ⟨k, h1, _, e⟩ := (mem_ends l (endsOf l t)[j] t).1 (List.getElem_mem h)
  omega
theorem own_is' {w : World} {base n : Nat} {v : Value} {l : List Int} (h : w.ownsRow base 3 1 v n (ivals l)) : ∃ a cap, v = .slice a l.length cap := by
  obtain ⟨a, cap, e, _⟩ := own_is h
  exact ⟨a, cap, e⟩
theorem is_cell {w : World} {base n cap : Nat} {a : Option Addr} {l : List Int} (h : w.ownsRow base 3 1 (.slice a l.length cap) n (ivals l)) (j : Nat) (hj : j < l.length) : ∃ b off, a = some ⟨b, off, none⟩ ∧ w.cell? ⟨b, off + j, none⟩ = some (.int .i64 l[j]) := by
  obtain ⟨a', cap', e, hi, _⟩ := own_is h
  cases e
  obtain ⟨b, off, e, _, hc⟩ := hi (by omega)
  exact ⟨b, off, e, hc j hj⟩
theorem is_far {w w' : World} {base base2 n n2 : Nat} {v v2 : Value} {xs ys : List Value} (h : w.ownsRow base 3 1 v n xs) (h2 : w.ownsRow base2 52 2 v2 n2 ys) (hg : w.grownBy w' v2.ownBlock) : w'.ownsRow base 3 1 v n xs := by
  refine h.kept hg ?_
  cases hv : v.ownBlock with
  | none => exact Or.inl rfl
  | some g =>
    obtain ⟨_, _, cs, hh⟩ := own_block_lt h hv
    refine Or.inr fun e => ?_
    obtain ⟨_, _, cs2, hh2⟩ := own_block_lt h2 e.symm
    rw [hh] at hh2
    simp at hh2
/-- What Scan gives. -/
def Scans (w : World) (p : Option Addr) (out : List Pr) (a b e d : Int) (x : Ending) (w' : World) : Prop :=
  ∃ A cap, x = .returned (.slice A out.length cap) ∧ Ps w' w'.heap.size A out ∧ (A = none → cap = 0) ∧ Met.Mt w' p a b e d ∧ w.grownBy w' (Met.blk p)
set_option maxHeartbeats 8000000 in
theorem scan_any (w : World) (t : Nat) (ps l : List Tx) (hA : Au w t ps l) (p : Option Addr) (line : Tx) (al : Option Addr) (cl : Nat) (hb : Bs w w.heap.size al line) (hl : line.length ≤ 1000) (a b e d : Int) (hM : Met.Mt w p a b e d)
    (ha : 0 ≤ a ∧ a ≤ 1000000000) (hb' : 0 ≤ b ∧ b ≤ 1000000000) (hc : 0 ≤ e ∧ e ≤ 1000000000000) (hd : 0 ≤ d ∧ d ≤ 1000000000000) :
    Calls Try.prog 14 #[.pointer (some ⟨t, 0, none⟩), .pointer p, .slice al line.length cl] w (Scans w p (scanOf l line) (a + (line.length : Int)) (b + (looksTo ps line line.length : Int)) e d) := by
  have HS := Lib.hid (states_any w t ps l hA)
  have HA := Lib.hid hA
  have HM := Lib.hid hM
  have HW := Lib.hid hA.1
  have HLP := Lib.hid hA.2.1
  have hn := hA.2.2.1
  have hpos := hA.1.pos
  have HTX : Hid (∀ X, Below w.heap.size w X → Calls Try.prog 29 #[.pointer p, .slice al line.length cl] X (Met.GivesTx X p line)) := Lib.hid fun X hX => Met.text_any X p line al cl (by omega) ((hb.keep hX).more hX.size)
  obtain ⟨tt, lt, v, hB, _, hL, hO⟩ := hA.2.2.2.2
  obtain ⟨ae, ce, rfl, hR⟩ := own_rs hO rfl
  obtain ⟨c0, c1, c2⟩ := hB.cells
  have HLD : Hid (∀ X, Below w.heap.size w X → X.cell? ⟨t, 2, none⟩ = some (.slice ae (edges ps).length ce)) := Lib.hid fun X hX => (hB.keep hX hB.lt).cells.2.2
  have HTB : Hid (∀ X, Below w.heap.size w X → Calls Try.prog 30 #[.pointer p, .slice ae (edges ps).length ce] X (Met.GivesTb X p (edges ps))) := Lib.hid fun X hX => Met.sparse_any X p (edges ps) ae ce (edges_len ps hn) ((hR.keep hX).more hX.size) (edges_wf ps hn _ (Nat.le_refl _))
  have HB0 := Lib.hid (Below.refl w.heap.size w)
  have hz : ((ps.length : Int) == 0) = false := by rw [beq_eq_false_iff_ne]; omega
  clear hB hO hR hL hM hA hb c0 c1 c2
  go_enter Try.func14, Try.ntmps14
  go_wp2_with (go_at_call 20; (with_reducible refine HS.out.mono ?_); rintro e w2 ⟨rfl, rfl⟩)
  refine wp_region_held_drew (S := fun w' => Below w.drew.heap.size w.drew w') (by kernel_rfl) (Below.refl _ _) (fun hH0 => ?_)
  have B0 := Lib.hid (below_drews HB0.out 1)
  change Hid (Below _ _ w.drew) at B0
  generalize w.drew = x0 at *
  refine held_take (i := 0) (d := 17) (oi := _) (v := ?_) rfl rfl (by kernel_rfl) (by kernel_rfl) (by kernel_rfl) (fun _ _ _ h => h) (Or.inl ⟨by rfl, ?_⟩) (by assumption) ?_
  rotate_left
  · (intro w hSw; clear hSw; go_simp; (try with_reducible rfl))
  simp only [Act.put, List.setIfInBounds_toArray, List.set_cons_zero, List.set_cons_succ]
  refine held_take (i := 1) (d := 18) (oi := _) (v := ?_) rfl rfl (by kernel_rfl) (by kernel_rfl) (by kernel_rfl) (fun _ _ _ h => h) (Or.inl ⟨by rfl, ?_⟩) (by assumption) ?_
  rotate_left
  · (intro w hSw; clear hSw; go_simp; (try with_reducible rfl))
  simp only [Act.put, List.setIfInBounds_toArray, List.set_cons_zero, List.set_cons_succ]
  refine held_take (i := 3) (d := 20) (oi := _) (v := ?_) rfl rfl (by kernel_rfl) (by kernel_rfl) (by kernel_rfl) (fun _ _ _ h => h) (Or.inl ⟨by rfl, ?_⟩) (by assumption) ?_
  rotate_left
  · (intro w hSw; clear hSw; go_simp; (try with_reducible rfl))
  simp only [Act.put, List.setIfInBounds_toArray, List.set_cons_zero, List.set_cons_succ]
  refine held_take (i := 4) (d := 21) (oi := _) (v := ?_) rfl rfl (by kernel_rfl) (by kernel_rfl) (by kernel_rfl) (fun _ _ _ h => h) (Or.inl ⟨by rfl, ?_⟩) (by assumption) ?_
  rotate_left
  · (intro w hSw; clear hSw; go_simp; (try with_reducible rfl))
  simp only [Act.put, List.setIfInBounds_toArray, List.set_cons_zero, List.set_cons_succ]
  refine held_take (i := 5) (d := 22) (oi := _) (v := ?_) rfl rfl (by kernel_rfl) (by kernel_rfl) (by kernel_rfl) (fun _ _ _ h => h) (Or.inl ⟨by rfl, ?_⟩) (by assumption) ?_
  rotate_left
  · (intro w hSw; clear hSw; go_simp; (try with_reducible rfl))
  simp only [Act.put, List.setIfInBounds_toArray, List.set_cons_zero, List.set_cons_succ]
  refine held_take (i := 6) (d := 23) (oi := _) (v := ?_) rfl rfl (by kernel_rfl) (by kernel_rfl) (by kernel_rfl) (fun _ _ _ h => h) (Or.inl ⟨by rfl, ?_⟩) (by assumption) ?_
  rotate_left
  · (intro w hSw; clear hSw; go_simp; (try with_reducible rfl))
  simp only [Act.put, List.setIfInBounds_toArray, List.set_cons_zero, List.set_cons_succ]
  refine held_take (i := 7) (d := 24) (oi := _) (v := ?_) rfl rfl (by kernel_rfl) (by kernel_rfl) (by kernel_rfl) (fun _ _ _ h => h) (Or.inl ⟨by rfl, ?_⟩) (by assumption) ?_
  rotate_left
  · (intro w hSw; have hld := HLD.out w (B0.out.trans (hSw.mono B0.out.size)); clear hSw; go_simp; (try with_reducible rfl))
  simp only [Act.put, List.setIfInBounds_toArray, List.set_cons_zero, List.set_cons_succ]
  refine wpAnyH_ready (rs := [2]) (by kernel_rfl) (by simp) ?_
  refine AllReadyH.cons rfl (fun K hK => ?_) AllReadyH.nil
  go_simp
  go_wp2_with (go_at_call 29; (with_reducible refine (HTX.out _ B0.out).mono ?_); rintro e x1 ⟨tx, rfl, htx, hb⟩)
  have X1 := Lib.hid htx
  clear htx
  refine hK.out _ _ hb (fun _ => ?_)
  have B1 := Lib.hid (B0.out.trans (hb.mono B0.out.size))
  refine wpAnyH_more (S' := fun w' => Below x1.heap.size x1 w') (fun w' h => hb.trans (h.mono hb.size)) _ _ _ _ ?_
  have hH1 : Below x1.heap.size x1 x1 := Below.refl _ _
  clear hK K hH0 hb B0
  refine wpAnyH_ready (rs := [8]) (by kernel_rfl) (by simp) ?_
  refine AllReadyH.cons rfl (fun K hK => ?_) AllReadyH.nil
  go_simp
  go_wp2_with (go_at_call 30; (with_reducible refine (HTB.out _ B1.out).mono ?_); rintro e x2 ⟨tb, rfl, htb, hb⟩)
  have X2 := Lib.hid htb
  have X3 := Lib.hid (X1.out.keep hb)
  clear htb X1
  refine hK.out _ _ hb (fun _ => ?_)
  have B2 := Lib.hid (B1.out.trans (hb.mono B1.out.size))
  refine wpAnyH_more (S' := fun w' => Below x2.heap.size x2 w') (fun w' h => hb.trans (h.mono hb.size)) _ _ _ _ ?_
  have hH2 : Below x2.heap.size x2 x2 := Below.refl _ _
  clear hK K hH1 hb B1
  refine held_take (i := 9) (d := 7) (oi := _) (v := ?_) rfl rfl (by kernel_rfl) (by kernel_rfl) (by kernel_rfl) (fun _ _ _ h => h) (Or.inl ⟨by rfl, ?_⟩) (by assumption) ?_
  rotate_left
  · (intro w hSw; clear hSw; go_simp; (try with_reducible rfl))
  simp only [Act.put, List.setIfInBounds_toArray, List.set_cons_zero, List.set_cons_succ]
  refine held_take (i := 10) (d := 8) (oi := _) (v := ?_) rfl rfl (by kernel_rfl) (by kernel_rfl) (by kernel_rfl) (fun _ _ _ h => h) (Or.inl ⟨by rfl, ?_⟩) (by assumption) ?_
  rotate_left
  · (intro w hSw; clear hSw; go_simp; (try with_reducible rfl))
  simp only [Act.put, List.setIfInBounds_toArray, List.set_cons_zero, List.set_cons_succ]
  refine wpAnyH_done (by kernel_rfl) ?_ _
  have HS0 : Hid (Sc w p ps line x0.heap.size tx x1.heap.size tb a b e d x2) := Lib.hid ⟨X3.out, X2.out, HM.out.keep B2.out, (grown_of_below B2.out).but _⟩
  have hsz0 := B2.out.size
  clear X2 X3 HTX HTB HLD HB0 HS hH2
  generalize x0.heap.size = s1 at *
  generalize x1.heap.size = s2 at *
  have HLEN := Lib.hid (Met.len_some x2 s1 tx p line HS0.out.1)
  go_wp2_with (go_at_call 31; (with_reducible refine HLEN.out.mono ?_); rintro e w2 ⟨rfl, rfl⟩)
  go_loopw [9, 10, 28] (fun v st i wr => ∃ k : Nat, k ≤ line.length ∧ i = .int .i64 (k : Int) ∧ st = .int .i64 (place ps (longT ps (line.take k))) ∧ wr.ownsRow w.heap.size 52 2 v (hitsTo l line k).length (cellsOf (hitsTo l line k)) ∧ Sc w p ps line s1 tx s2 tb (a + (k : Int)) (b + (looksTo ps line k : Int)) e d wr) (fun _ _ i _ => line.length - (intOf i).toNat)
  case atStart => exact ⟨0, by omega, rfl, by rw [List.take_zero, longT, place_nil HW.out], World.ownsRow_nil _ _ _ _, by simpa [looksTo] using HS0.out⟩
  case round =>
    obtain ⟨k, hk, rfl, rfl, hown, hsc⟩ := hrel
    have HO := Lib.hid hown
    have HSC := Lib.hid hsc
    clear hown hsc
    have hhl := hits_len l line 1000 hl k
    by_cases hlt : k < line.length
    · have hlt2 : (k : Int) < (line.length : Int) := by omega
      have hlb := (looks_bound HW.out line (k + 1) (by omega)).2
      have hle := looksTo_succ ps line k hlt
      have HLE := Lib.hid hle
      have HST := Lib.hid (long_take HW.out line k hlt)
      have HQM := Lib.hid (longT_mem HW.out (line.take k))
      have hwr : IntKind.u8.wrap (line[k].toNat : Int) = (line[k].toNat : Int) := by
        have := line[k].toNat_lt
        simp [IntKind.wrap, IntKind.bits, IntKind.signed]; omega
      have hbk : b + (looksTo ps line k : Int) + (stepN ps line[k] (longT ps (line.take k)) : Int) ≤ 1000000000000 := by omega
      have hbk0 : 0 ≤ b + (looksTo ps line k : Int) := by omega
      have hbk2 : b + (looksTo ps line k : Int) ≤ 1000000000000 := by omega
      clear hlb hle
      have HAT := Lib.hid (Met.at_in wr s1 tx p line HSC.out.1 k hlt (by omega) (a + (k : Int)) (b + (looksTo ps line k : Int)) e d HSC.out.2.2.1 (by omega) ⟨hbk0, hbk2⟩ hc hd)
      generalize line[k] = c at *
      generalize hqq : longT ps (line.take k) = q at *
      go_wp2_with (go_at_call 33; (with_reducible refine HAT.out.mono ?_); rintro e w3 ⟨rfl, hM3, hg3⟩; have HG3 := Lib.hid hg3; have HS3 := Lib.hid (HSC.out.adds hg3 hM3); have HA3 := Lib.hid (HA.out.adds HS3.out.2.2.2 HM.out); clear hM3 hg3; have HSTEP := Lib.hid (sstep_any w3 t ps l HA3.out s2 tb p HS3.out.2.1 q HQM.out c (a + (k : Int) + 1) (b + (looksTo ps line k : Int)) e d HS3.out.2.2.1 (by omega) ⟨hbk0, hbk⟩ hc hd))
      go_wp2_with (go_at_call 32; (with_reducible refine HSTEP.out.mono ?_); rintro e w4 ⟨rfl, hM4, hg4⟩; have HG4 := Lib.hid hg4; have HS4 := Lib.hid (HS3.out.adds hg4 hM4); have hA4 := HA.out.adds HS4.out.2.2.2 HM.out; clear hM4 hg4; obtain ⟨_, _, _, hdeep, tt4, lt4, v4, hB4, _, hL4, _⟩ := hA4; obtain ⟨c0, c1, c2⟩ := hB4.cells; have HE4 := Lib.hid (ends_own w4 0 lt4 ps l hL4 (place ps (stepT ps c q)) (pathD_le hdeep _)); clear hB4 hL4 hdeep c0 c2)
      have HES : Hid (endsOf l (pathD ps (place ps (stepT ps c q))) = endsOf l (line.take (k + 1))) := Lib.hid (by rw [pathD_place (stepT_mem HW.out c q), ← HST.out, ends_long HLP.out])
      rw [HES.out] at HE4
      have ht1 : (line.take (k + 1)).length = k + 1 := by rw [List.length_take]; omega
      have HRS : Hid (∀ j (h : j < (endsOf l (line.take (k + 1))).length), (rowOf l (line.take (k + 1))).take (j + 1) = (rowOf l (line.take (k + 1))).take j ++ [⟨(k : Int) + 1 - (endsOf l (line.take (k + 1)))[j], (k : Int) + 1⟩]) := Lib.hid fun j h => by
        rw [row_snoc l _ j h, ht1]; rfl
      have HBD : Hid (∀ j (h : j < (endsOf l (line.take (k + 1))).length), 1 ≤ (endsOf l (line.take (k + 1)))[j] ∧ (endsOf l (line.take (k + 1)))[j] ≤ (k : Int) + 1) := Lib.hid fun j h => by
        have := ends_bound l (line.take (k + 1)) j h
        rw [ht1] at this; exact this
      have HRA := Lib.hid (row_all l (line.take (k + 1)))
      have hrl := row_len l (line.take (k + 1))
      have hel := ends_len l (line.take (k + 1))
      rw [ht1] at hrl hel
      have HHK : Hid (hitsTo l line (k + 1) = hitsTo l line k ++ rowOf l (line.take (k + 1))) := Lib.hid rfl
      clear HES ht1
      generalize endsOf l (line.take (k + 1)) = es at *
      generalize rowOf l (line.take (k + 1)) = R at *
      go_wp2_with (go_at_call 34; (with_reducible refine HE4.out.mono ?_); rintro e w5 ⟨v5, rfl, ho5, hb5⟩; obtain ⟨a5, c5, rfl⟩ := own_is' ho5; have HI5 := Lib.hid ho5; have HB5 := Lib.hid hb5; clear ho5 hb5)
      have HS5 := Lib.hid (HS4.out.keep HB5.out)
      have HO5 := Lib.hid (own_keep (own_adds (own_adds HO.out HG3.out HSC.out.2.2.1 (by decide)) HG4.out HS3.out.2.2.1 (by decide)) HB5.out)
      clear HG3 HG4 HS4 HS3 HE4 HSTEP HA3 HAT HB5 c1
      go_loopw [9, 46] (fun v i wi => ∃ j : Nat, j ≤ es.length ∧ i = .int .i64 (j : Int) ∧ wi.ownsRow w.heap.size 52 2 v (hitsTo l line k ++ R.take j).length (cellsOf (hitsTo l line k ++ R.take j)) ∧ wi.ownsRow w4.heap.size 3 1 (.slice a5 es.length c5) es.length (ivals es) ∧ Sc w p ps line s1 tx s2 tb (a + (k : Int) + 1) (b + (looksTo ps line k : Int) + (stepN ps c q : Int)) e d wi) (fun _ i _ => es.length - (intOf i).toNat)
      case atStart => exact ⟨0, by omega, rfl, by simpa using HO5.out, HI5.out, HS5.out⟩
      case round =>
        obtain ⟨j, hj, rfl, ho, hi, hs⟩ := hrel
        have HO6 := Lib.hid ho
        have HI6 := Lib.hid hi
        have HS6 := Lib.hid hs
        clear ho hi hs
        have hsz6 := HS6.out.2.2.2.size
        have hrt : (R.take j).length ≤ 1000 := by rw [List.length_take]; omega
        by_cases hj2 : j < es.length
        · have hj3 : (j : Int) < (es.length : Int) := by omega
          obtain ⟨b6, off6, e6, hcell⟩ := is_cell HI6.out j hj2
          obtain ⟨hx1, hx2⟩ := HBD.out j hj2
          have HN6 := Lib.hid (HRS.out j hj2)
          subst e6
          generalize es[j] = x at *
          go_wp2_with (at_builtin; refine app_ps rfl _ _ rfl w.heap.size _ _ (hitsTo l line k ++ R.take j) rfl (HO6.out.alloc _) (some ⟨wr.heap.size, 0, none⟩) [⟨(k : Int) + 1 - x, (k : Int) + 1⟩] 1 (wr.heap.size + 1) rfl (by have := ps_one wr ⟨(k : Int) + 1 - x, (k : Int) + 1⟩ (0, 0); rwa [World.size_alloc] at this) (fun e => by cases e) (by simp only [List.length_append, List.length_cons, List.length_nil]; omega) (by simp; omega) ?_; intro v7 w7 hown7 hg7)
          go_roundw
          case rel =>
            have ba : Below wr.heap.size wr (wr.alloc (.cells #[.int .i64 ((k : Int) + 1 - x), .int .i64 ((k : Int) + 1)] 52)) := (Below.refl _ _).alloc (Nat.le_refl _) _
            refine ⟨j + 1, by omega, by go_num, ?_, is_far (own_keep HI6.out ba) (HO6.out.alloc _) hg7, (HS6.out.keep ba).far (HO6.out.alloc _) hg7⟩
            rw [HN6.out, ← List.append_assoc, List.length_append (bs := [_])]
            exact hown7
          case measure => simp [intOf]; omega
        · have hje : j = es.length := by omega
          have hj3 : ¬ (j : Int) < (es.length : Int) := by omega
          have HQ : Hid (hitsTo l line k ++ R.take j = hitsTo l line (k + 1)) := Lib.hid (by rw [hje, HRA.out, HHK.out])
          clear hje
          go_wp2
          go_roundw
          case rel =>
            refine ⟨k + 1, by omega, by go_num, by rw [HST.out], by rw [← HQ.out]; exact HO6.out, ?_⟩
            have e1 : a + ((k + 1 : Nat) : Int) = a + (k : Int) + 1 := by omega
            have e2 : b + (looksTo ps line (k + 1) : Int) = b + (looksTo ps line k : Int) + (stepN ps c q : Int) := by rw [HLE.out]; omega
            rw [e1, e2]; exact HS6.out
          case measure => simp [intOf]; omega
    · have hke : k = line.length := by omega
      have hk3 : ¬ (k : Int) < (line.length : Int) := by omega
      have HQ : Hid (norm (hitsTo l line k) = scanOf l line) := Lib.hid (by rw [hke, scanOf])
      have HQ2 : Hid (looksTo ps line k = looksTo ps line line.length) := Lib.hid (by rw [hke])
      have HQ3 : Hid ((k : Int) = (line.length : Int)) := Lib.hid (by rw [hke])
      clear hke
      obtain ⟨a8, c8, rfl, hc8, hn8, hp8⟩ := own_ps HO.out rfl
      have HSO := Lib.hid (sort_all (hitsTo l line k) a8 c8 wr (by omega) hp8 hc8 hn8)
      clear hp8 hn8
      go_wp2_with (go_at_call 35; (with_reducible refine HSO.out.mono ?_); rintro e w9 ⟨a9, c9, rfl, hc9, hn9, hp9, hb9⟩; have HB9 := Lib.hid hb9; have HP9 := Lib.hid hp9; clear hb9 hp9)
      go_ret
      have hs := HSC.out.keep HB9.out
      refine ⟨a9, c9, by rw [← HQ.out]; rfl, by rw [← HQ.out]; exact HP9.out, hn9, ?_, hs.2.2.2⟩
      rw [← HQ2.out, ← HQ3.out]; exact hs.2.2.1
end Go.Proofs.Ytkooanahgffjgaa.Spa
