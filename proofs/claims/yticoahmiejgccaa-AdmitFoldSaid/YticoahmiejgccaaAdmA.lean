/- Which pieces may be: contracts. -/
import Derived.Test.YticoahmiejgccaaAdmA2
import Derived.Deep.LoopGhost
namespace Go.Proofs.Yticoahmiejgccaa.Adm
open Go.RowKit Go.Proofs.Yticoahmiejgccaa.Prs Go.Proofs.Yticoahmiejgccaa.Reg
set_option maxRecDepth 100000

set_option maxHeartbeats 1000000 in
theorem may_any (line : Tx) (al : Option Addr) (cl : Nat) (p : Pr) (w x : Bool) (X : World) (hl : line.length ≤ 1000000000) (ht : Bs X X.heap.size al line) :
    Calls Try.prog 15 #[.slice al line.length cl, pv p, .bool w, .bool x] X (Asks X (may isWd line w x p)) := by
  have HB0 := Lib.hid ((Below.refl X.heap.size X).alloc (Nat.le_refl _) (.cells #[.int .i64 p.s, .int .i64 p.e] 31))
  have P0 := pb_new X p.s p.e
  have hx1 : X.heap.size < (X.alloc (.cells #[.int .i64 p.s, .int .i64 p.e] 31)).heap.size := by simp
  have HT := Lib.hid ((ht.keep HB0.out).more (Nat.le_of_lt hx1))
  have HX := Lib.hid hx1
  go_enter Try.func15, Try.ntmps15
  go_wp2
  clear ht hx1
  generalize hg : X.heap.size = g at *
  have HG := Lib.hid hg
  clear hg
  generalize X.alloc (.cells #[.int .i64 p.s, .int .i64 p.e] 31) = X1 at *
  have HR := Lib.hid (Below.refl X1.heap.size X1)
  have HC : Hid (∀ w, Below X1.heap.size X1 w → w.cell? ⟨g, 0, none⟩ = some (.int .i64 p.s) ∧ w.cell? ⟨g, 1, none⟩ = some (.int .i64 p.e)) := Lib.hid fun w h => (P0.keep h P0.lt).cells
  have CR : Hid (∀ Z, Below X1.heap.size X1 Z → Calls Try.prog 21 #[.slice al line.length cl, .bool w, .bool x] Z (GivesRu Z line al cl w x)) := Lib.hid fun Z _ => rulesof_any line al cl w x Z
  clear P0
  refine wp_region_held_drew (S := fun w' => Below X1.drew.heap.size X1.drew w') (by kernel_rfl) (Below.refl _ _) (fun hH0 => ?_)
  have B0 := Lib.hid (below_drews HR.out 1)
  change Hid (Below _ _ X1.drew) at B0
  generalize X1.drew = x0 at *
  refine held_take (i := 0) (d := 9) (oi := _) (v := ?_) rfl rfl (by kernel_rfl) (by kernel_rfl) (by kernel_rfl) (fun _ _ _ h => h) (Or.inl ⟨by rfl, ?_⟩) (by assumption) ?_
  rotate_left
  · (intro w hSw; clear hSw; go_simp; (try with_reducible rfl))
  simp only [Act.put, List.setIfInBounds_toArray, List.set_cons_zero, List.set_cons_succ]
  refine held_take (i := 1) (d := 10) (oi := _) (v := ?_) rfl rfl (by kernel_rfl) (by kernel_rfl) (by kernel_rfl) (fun _ _ _ h => h) (Or.inl ⟨by rfl, ?_⟩) (by assumption) ?_
  rotate_left
  · (intro w hSw; clear hSw; go_simp; (try with_reducible rfl))
  simp only [Act.put, List.setIfInBounds_toArray, List.set_cons_zero, List.set_cons_succ]
  refine held_take (i := 2) (d := 11) (oi := _) (v := ?_) rfl rfl (by kernel_rfl) (by kernel_rfl) (by kernel_rfl) (fun _ _ _ h => h) (Or.inl ⟨by rfl, ?_⟩) (by assumption) ?_
  rotate_left
  · (intro w hSw; clear hSw; go_simp; (try with_reducible rfl))
  simp only [Act.put, List.setIfInBounds_toArray, List.set_cons_zero, List.set_cons_succ]
  refine held_take (i := 4) (d := 13) (oi := _) (v := ?_) rfl rfl (by kernel_rfl) (by kernel_rfl) (by kernel_rfl) (fun _ _ _ h => h) (Or.inl ⟨by rfl, ?_⟩) (by assumption) ?_
  rotate_left
  · (intro w hSw; obtain ⟨d0, d1⟩ := HC.out w (B0.out.trans (hSw.mono B0.out.size)); clear hSw; go_simp; (try with_reducible rfl))
  simp only [Act.put, List.setIfInBounds_toArray, List.set_cons_zero, List.set_cons_succ]
  refine wpAnyH_ready (rs := [3]) (by kernel_rfl) (by simp) ?_
  refine AllReadyH.cons rfl (fun K hK => ?_) AllReadyH.nil
  go_simp
  go_wp2_with (go_at_call 21; (with_reducible refine (CR.out _ B0.out).mono ?_); rintro e x1 ⟨b, cap, x0, cs, rfl, hru, hb⟩)
  refine hK.out _ _ hb (fun _ => ?_)
  have B1 := Lib.hid (B0.out.trans (hb.mono B0.out.size))
  refine wpAnyH_more (S' := fun w' => Below x1.heap.size x1 w') (fun w' h => hb.trans (h.mono hb.size)) _ _ _ _ ?_
  have hH1 : Below x1.heap.size x1 x1 := Below.refl _ _
  clear hK K hH0 hb B0
  refine wpAnyH_ready (rs := [5]) (by kernel_rfl) (by simp) ?_
  refine AllReadyH.cons rfl (fun K hK => ?_) AllReadyH.nil
  go_simp
  go_wp2_with (go_at_call 22; (with_reducible refine (hold_any line al cl w x b cap x0 cs p x1 hl hru ((HT.out.keep B1.out).more B1.out.size)).mono ?_); rintro e x2 ⟨rfl, hb⟩)
  refine hK.out _ _ hb (fun _ => ?_)
  have B2 := Lib.hid (B1.out.trans (hb.mono B1.out.size))
  refine wpAnyH_more (S' := fun w' => Below x2.heap.size x2 w') (fun w' h => hb.trans (h.mono hb.size)) _ _ _ _ ?_
  have hH2 : Below x2.heap.size x2 x2 := Below.refl _ _
  clear hK K hH1 hb B1
  refine held_take (i := 6) (d := 8) (oi := _) (v := ?_) rfl rfl (by kernel_rfl) (by kernel_rfl) (by kernel_rfl) (fun _ _ _ h => h) (Or.inl ⟨by rfl, ?_⟩) (by assumption) ?_
  rotate_left
  · (intro w hSw; clear hSw; go_simp; (try with_reducible rfl))
  simp only [Act.put, List.setIfInBounds_toArray, List.set_cons_zero, List.set_cons_succ]
  refine wpAnyH_done (by kernel_rfl) ?_ _
  go_wp2
  go_ret
  exact ⟨rfl, by rw [HG.out]; exact HB0.out.trans (B2.out.mono (Nat.le_of_lt HX.out))⟩
theorem may_free (line : Tx) (p : Pr) : may isWd line true false p = free isWd line p := by
  unfold may free
  cases fit (line.length : Int) p <;> simp
set_option maxHeartbeats 1000000 in
theorem free_any (line : Tx) (al : Option Addr) (cl : Nat) (p : Pr) (X : World) (hl : line.length ≤ 1000000000) (ht : Bs X X.heap.size al line) :
    Calls Try.prog 13 #[.slice al line.length cl, pv p] X (Asks X (free isWd line p)) := by
  rw [← may_free]
  have HB0 := Lib.hid ((Below.refl X.heap.size X).alloc (Nat.le_refl _) (.cells #[.int .i64 p.s, .int .i64 p.e] 31))
  have P0 := pb_new X p.s p.e
  have hx1 : X.heap.size < (X.alloc (.cells #[.int .i64 p.s, .int .i64 p.e] 31)).heap.size := by simp
  have HT := Lib.hid ((ht.keep HB0.out).more (Nat.le_of_lt hx1))
  have HX := Lib.hid hx1
  go_enter Try.func13, Try.ntmps13
  go_wp2
  clear ht hx1
  generalize hg : X.heap.size = g at *
  have HG := Lib.hid hg
  clear hg
  generalize X.alloc (.cells #[.int .i64 p.s, .int .i64 p.e] 31) = X1 at *
  have HR := Lib.hid (Below.refl X1.heap.size X1)
  have HC : Hid (∀ w, Below X1.heap.size X1 w → w.cell? ⟨g, 0, none⟩ = some (.int .i64 p.s) ∧ w.cell? ⟨g, 1, none⟩ = some (.int .i64 p.e)) := Lib.hid fun w h => (P0.keep h P0.lt).cells
  have CR : Hid (∀ Z, Below X1.heap.size X1 Z → Calls Try.prog 21 #[.slice al line.length cl, .bool true, .bool false] Z (GivesRu Z line al cl true false)) := Lib.hid fun Z _ => rulesof_any line al cl true false Z
  clear P0
  refine wp_region_held_drew (S := fun w' => Below X1.drew.heap.size X1.drew w') (by kernel_rfl) (Below.refl _ _) (fun hH0 => ?_)
  have B0 := Lib.hid (below_drews HR.out 1)
  change Hid (Below _ _ X1.drew) at B0
  generalize X1.drew = x0 at *
  refine held_take (i := 0) (d := 5) (oi := _) (v := ?_) rfl rfl (by kernel_rfl) (by kernel_rfl) (by kernel_rfl) (fun _ _ _ h => h) (Or.inl ⟨by rfl, ?_⟩) (by assumption) ?_
  rotate_left
  · (intro w hSw; clear hSw; go_simp; (try with_reducible rfl))
  simp only [Act.put, List.setIfInBounds_toArray, List.set_cons_zero, List.set_cons_succ]
  refine held_take (i := 2) (d := 7) (oi := _) (v := ?_) rfl rfl (by kernel_rfl) (by kernel_rfl) (by kernel_rfl) (fun _ _ _ h => h) (Or.inl ⟨by rfl, ?_⟩) (by assumption) ?_
  rotate_left
  · (intro w hSw; obtain ⟨d0, d1⟩ := HC.out w (B0.out.trans (hSw.mono B0.out.size)); clear hSw; go_simp; (try with_reducible rfl))
  simp only [Act.put, List.setIfInBounds_toArray, List.set_cons_zero, List.set_cons_succ]
  refine wpAnyH_ready (rs := [1]) (by kernel_rfl) (by simp) ?_
  refine AllReadyH.cons rfl (fun K hK => ?_) AllReadyH.nil
  go_simp
  go_wp2_with (go_at_call 21; (with_reducible refine (CR.out _ B0.out).mono ?_); rintro e x1 ⟨b, cap, x0, cs, rfl, hru, hb⟩)
  refine hK.out _ _ hb (fun _ => ?_)
  have B1 := Lib.hid (B0.out.trans (hb.mono B0.out.size))
  refine wpAnyH_more (S' := fun w' => Below x1.heap.size x1 w') (fun w' h => hb.trans (h.mono hb.size)) _ _ _ _ ?_
  have hH1 : Below x1.heap.size x1 x1 := Below.refl _ _
  clear hK K hH0 hb B0
  refine wpAnyH_ready (rs := [3]) (by kernel_rfl) (by simp) ?_
  refine AllReadyH.cons rfl (fun K hK => ?_) AllReadyH.nil
  go_simp
  go_wp2_with (go_at_call 22; (with_reducible refine (hold_any line al cl true false b cap x0 cs p x1 hl hru ((HT.out.keep B1.out).more B1.out.size)).mono ?_); rintro e x2 ⟨rfl, hb⟩)
  refine hK.out _ _ hb (fun _ => ?_)
  have B2 := Lib.hid (B1.out.trans (hb.mono B1.out.size))
  refine wpAnyH_more (S' := fun w' => Below x2.heap.size x2 w') (fun w' h => hb.trans (h.mono hb.size)) _ _ _ _ ?_
  have hH2 : Below x2.heap.size x2 x2 := Below.refl _ _
  clear hK K hH1 hb B1
  refine held_take (i := 4) (d := 4) (oi := _) (v := ?_) rfl rfl (by kernel_rfl) (by kernel_rfl) (by kernel_rfl) (fun _ _ _ h => h) (Or.inl ⟨by rfl, ?_⟩) (by assumption) ?_
  rotate_left
  · (intro w hSw; clear hSw; go_simp; (try with_reducible rfl))
  simp only [Act.put, List.setIfInBounds_toArray, List.set_cons_zero, List.set_cons_succ]
  refine wpAnyH_done (by kernel_rfl) ?_ _
  go_wp2
  go_ret
  exact ⟨rfl, by rw [HG.out]; exact HB0.out.trans (B2.out.mono (Nat.le_of_lt HX.out))⟩
set_option maxHeartbeats 1000000 in
theorem filter_any (line : Tx) (al : Option Addr) (cl : Nat) (l : List Pr) (a : Option Addr) (c : Nat) (w x : Bool) (X : World) (hl : line.length ≤ 1000000000) (hll : l.length ≤ 1000000) (ht : Bs X X.heap.size al line) (hx : Ps X X.heap.size a l) :
    Calls Try.prog 11 #[.slice al line.length cl, .slice a l.length c, .bool w, .bool x] X (Gives X (filt isWd line l w x)) := by
  have CR := Lib.hid (rulesof_any line al cl w x X)
  have HT := Lib.hid ht
  have HX := Lib.hid hx
  clear ht hx
  go_enter Try.func11, Try.ntmps11
  go_wp2_with (go_at_call 21; (with_reducible refine CR.out.mono ?_); rintro e w1 ⟨b, cap, x0, cs, rfl, hru, hb1⟩)
  have hB := hb1.alloc hb1.size (.cells #[.slice (some ⟨b, 0, none⟩) (kinds w x).length cap] 45)
  have HBX := Lib.hid hB
  have HRU := Lib.hid (hru.keep ((Below.refl _ _).alloc (Nat.le_refl _) (.cells #[.slice (some ⟨b, 0, none⟩) (kinds w x).length cap] 45)))
  have HTB := Lib.hid (HT.out.keep hB)
  have HXB := Lib.hid (HX.out.keep hB)
  have HR0 := Lib.hid (Blk1.new w1 45 (.slice (some ⟨b, 0, none⟩) (kinds w x).length cap))
  have HS1 : Hid (w1.heap.size < (w1.alloc (.cells #[.slice (some ⟨b, 0, none⟩) (kinds w x).length cap] 45)).heap.size) := Lib.hid (by simp)
  clear hru hb1 hB HT HX CR
  generalize w1.heap.size = g at *
  generalize w1.alloc (.cells #[.slice (some ⟨b, 0, none⟩) (kinds w x).length cap] 45) = w2 at *
  have HSX := Lib.hid HBX.out.size
  generalize hv : X.heap.size = s0 at *
  have HV := Lib.hid hv
  clear hv
  go_loopg [10, 19] l.length (fun gf v i wr => ∃ k : Nat, k + gf = l.length ∧ i = .int .i64 (k : Int) ∧ wr.ownsRow w2.heap.size 31 2 v (filt isWd line (l.take k) w x).length (cellsOf (filt isWd line (l.take k) w x)) ∧ Below w2.heap.size w2 wr)
  case atStart => exact ⟨0, by simp, rfl, by simpa [filt, cellsOf] using World.ownsRow_nil w2 w2.heap.size 31 2, Below.refl _ _⟩
  case round =>
    obtain ⟨k, hk, rfl, hown, hbel⟩ := hrel
    cases gk with
    | succ gf =>
      have hlt : k < l.length := by omega
      have hli : (k : Int) < (l.length : Int) := by omega
      obtain ⟨p, hp⟩ : ∃ p, l[k]? = some p := ⟨_, List.getElem?_eq_getElem hlt⟩
      obtain ⟨bb, o, rfl, hbl, hc⟩ := HXB.out (by omega)
      have hpk : l[k] = p := by rw [List.getElem?_eq_getElem hlt] at hp; exact Option.some.inj hp
      obtain ⟨c0, c1⟩ := hc k hlt
      rw [hpk] at c0 c1
      have hbl2 : bb < w2.heap.size := Nat.lt_of_lt_of_le hbl HSX.out
      have d0 := (hbel.cell (p := ⟨bb, o + k * 2, none⟩) hbl2).trans c0
      have d1 := (hbel.cell (p := ⟨bb, o + k * 2 + 1, none⟩) hbl2).trans c1
      have hR1 : Blk1 wr g 45 (.slice (some ⟨b, 0, none⟩) (kinds w x).length cap) := (hbel.block g HS1.out).trans HR0.out
      have r0 := (hR1.alloc (.cells #[.int .i64 p.s, .int .i64 p.e] 31)).cell.1
      clear hR1
      have hPB := ((Below.refl wr.heap.size wr).alloc (Nat.le_refl _) (.cells #[.int .i64 p.s, .int .i64 p.e] 31))
      obtain ⟨e0, e1⟩ := (pb_new wr p.s p.e).cells
      have HP0 := Lib.hid (pb_new wr p.s p.e)
      have HC := Lib.hid (hold_any line al cl w x b cap x0 cs p (wr.alloc (.cells #[.int .i64 p.s, .int .i64 p.e] 31)) hl ((HRU.out.keep hbel).keep hPB) ((((HTB.out.more HSX.out).keep hbel).more hbel.size).keep hPB |>.more hPB.size))
      have HS := Lib.hid (filt_snoc isWd line l w x k p hp)
      have HFL := Lib.hid (filt_len isWd line (l.take k) w x)
      have htk : (l.take k).length ≤ 1000000 := by rw [List.length_take]; omega
      have HOW := Lib.hid hown
      have HBL := Lib.hid hbel
      have HPX := Lib.hid hPB
      clear hp hpk hc hown hbel c0 c1 hPB
      cases hm : may isWd line w x p
      · rw [hm] at HC HS
        go_wp2_with (go_at_call 22; (with_reducible refine HC.out.mono ?_); rintro e w3 ⟨rfl, hb3⟩)
        go_roundg gf
        case rel =>
          have hb4 := HPX.out.trans (hb3.mono HPX.out.size)
          exact ⟨k + 1, by omega, by go_num, by rw [HS.out]; simpa using own_keep HOW.out hb4, HBL.out.trans (hb4.mono HBL.out.size)⟩
        case measure => omega
      · rw [hm] at HC HS
        go_wp2_with (first
          | (go_at_call 22; (with_reducible refine HC.out.mono ?_); rintro e w3 ⟨rfl, hb3⟩; have hb4 := Lib.hid (HPX.out.trans (hb3.mono HPX.out.size)); obtain ⟨e2, e3⟩ := (HP0.out.keep hb3 (by simp)).cells; have hown3 := Lib.hid (own_keep HOW.out hb4.out); have hbe3 := Lib.hid (HBL.out.trans (hb4.out.mono HBL.out.size)); clear hb3)
          | (at_builtin; refine app_ps rfl _ _ rfl w2.heap.size _ (filt isWd line (l.take k) w x).length (filt isWd line (l.take k) w x) rfl (hown3.out.alloc _) (some ⟨w3.heap.size, 0, none⟩) [p] 1 _ rfl (ps_one w3 p (0, 0)) (fun e => by cases e) (by have := HFL.out; simp; omega) (by have := hbe3.out.size; simp; omega) ?_; intro v4 w4 hown4 hg4))
        go_roundg gf
        case rel => exact ⟨k + 1, by omega, by go_num, by rw [HS.out]; simpa using hown4, Prs.app_below (hbe3.out.alloc hbe3.out.size _) (hown3.out.alloc _) hg4 (by have := hbe3.out.size; simp; omega) (Nat.le_refl _)⟩
        case measure => omega
    | zero =>
      obtain rfl : k = l.length := by omega
      have hni : ¬ ((l.length : Int) < (l.length : Int)) := by omega
      rw [List.take_length] at hown
      have HOW := Lib.hid hown
      clear hown
      go_wp2
      obtain ⟨a, cap, rfl, hlc, hnc, hps⟩ := own_ps HOW.out rfl
      go_ret
      refine ⟨a, cap, rfl, hlc, hnc, hps, ?_⟩
      rw [HV.out]
      exact HBX.out.trans (hbel.mono HSX.out)
/-- The first of a list that may be. -/
theorem index_any (line : Tx) (al : Option Addr) (cl : Nat) (l : List Pr) (a : Option Addr) (c : Nat) (w x : Bool) (b cap x0 : Nat) (cs : Array Value) (X : World) (hl : line.length ≤ 1000000000) (hll : l.length ≤ 1000000) (hr : Ru X line al cl w x b cap x0 cs) (ht : Bs X X.heap.size al line) (hx : Ps X X.heap.size a l) :
    Calls Try.prog 36 #[.slice a l.length c, .func (.func 22) #[.agg #[.slice (some ⟨b, 0, none⟩) (kinds w x).length cap]] #[]] X fun e w' => (∃ i : Int, e = .returned (.int .i64 i) ∧ decide (0 ≤ i) = l.any (may isWd line w x)) ∧ Below X.heap.size X w' := by
  have hcf : ∀ (args : Array Value) (w : World), (callFunc 22 args).run Try.prog w = .ok (.enter 22 args) w := fun args w => by simp [go_sem]
  have HR := Lib.hid hr
  have HT := Lib.hid ht
  have HX := Lib.hid hx
  clear hr ht hx
  go_enter Try.func36, Try.ntmps36
  go_wp2
  go_loopw [8] (fun i wr => ∃ k : Nat, k ≤ l.length ∧ i = .int .i64 (k : Int) ∧ (l.take k).any (may isWd line w x) = false ∧ Below X.heap.size X wr) (fun i _ => l.length - (intOf i).toNat)
  case atStart => exact ⟨0, Nat.zero_le _, rfl, rfl, Below.refl _ _⟩
  case round =>
    obtain ⟨k, hk, rfl, hno, hbel⟩ := hrel
    by_cases hlt : k < l.length
    · have hli : (k : Int) < (l.length : Int) := by omega
      obtain ⟨bb, o, rfl, hbl, hc⟩ := HX.out (by omega)
      obtain ⟨c0, c1⟩ := hc k hlt
      have d0 := (hbel.cell (p := ⟨bb, o + k * 2, none⟩) hbl).trans c0
      have d1 := (hbel.cell (p := ⟨bb, o + k * 2 + 1, none⟩) hbl).trans c1
      have HC := Lib.hid (hold_any line al cl w x b cap x0 cs l[k] wr hl (HR.out.keep hbel) ((HT.out.keep hbel).more hbel.size))
      have HYES : Hid (may isWd line w x l[k] = true → l.any (may isWd line w x) = true) := Lib.hid fun h => List.any_eq_true.2 ⟨l[k], List.getElem_mem hlt, h⟩
      have HNO : Hid (may isWd line w x l[k] = false → (l.take (k + 1)).any (may isWd line w x) = false) := Lib.hid fun h => by
        rw [List.take_succ_eq_append_getElem hlt, List.any_append, hno]; simp [h]
      have HBL := Lib.hid hbel
      clear hno hbel c0 c1 hc
      generalize l[k] = p at *
      cases hm : may isWd line w x p
      · have HN := Lib.hid (HNO.out hm)
        rw [hm] at HC
        clear HNO HYES hm
        go_wp2_with fail
        (with_reducible refine HC.out.mono ?_); rintro e w3 ⟨rfl, hb3⟩
        have HB3 := Lib.hid (HBL.out.trans (hb3.mono HBL.out.size))
        clear hb3
        go_wp2
        exact ⟨⟨k + 1, by omega, by go_num, HN.out, HB3.out⟩, by simp [intOf]; omega⟩
      · have HY := Lib.hid (HYES.out hm)
        rw [hm] at HC
        clear HNO HYES hm
        go_wp2_with fail
        (with_reducible refine HC.out.mono ?_); rintro e w3 ⟨rfl, hb3⟩
        have HB3 := Lib.hid (HBL.out.trans (hb3.mono HBL.out.size))
        clear hb3
        go_wp2
        go_ret
        exact ⟨⟨(k : Int), rfl, by rw [HY.out]; exact decide_eq_true (by omega)⟩, HB3.out⟩
    · have hli : ¬ (k : Int) < (l.length : Int) := by omega
      rw [List.take_of_length_le (by omega)] at hno
      have HN := Lib.hid hno
      clear hno
      go_wp2
      go_ret
      exact ⟨⟨-1, rfl, by rw [HN.out]; rfl⟩, hbel⟩
theorem contains_any (line : Tx) (al : Option Addr) (cl : Nat) (l : List Pr) (a : Option Addr) (c : Nat) (w x : Bool) (b cap x0 : Nat) (cs : Array Value) (X : World) (hl : line.length ≤ 1000000000) (hll : l.length ≤ 1000000) (hr : Ru X line al cl w x b cap x0 cs) (ht : Bs X X.heap.size al line) (hx : Ps X X.heap.size a l) :
    Calls Try.prog 23 #[.slice a l.length c, .func (.func 22) #[.agg #[.slice (some ⟨b, 0, none⟩) (kinds w x).length cap]] #[]] X (Asks X (l.any (may isWd line w x))) := by
  have HC := Lib.hid (index_any line al cl l a c w x b cap x0 cs X hl hll hr ht hx)
  clear hr ht hx
  go_enter Try.func23, Try.ntmps23
  go_wp2_with (go_at_call 36; (with_reducible refine HC.out.mono ?_); rintro e w1 ⟨⟨i, rfl, hi⟩, hb⟩; have HI := Lib.hid hi; clear hi)
  all_goals (go_ret; exact ⟨by rw [← HI.out]; simp, hb⟩)
theorem any_any (line : Tx) (al : Option Addr) (cl : Nat) (l : List Pr) (a : Option Addr) (c : Nat) (w x : Bool) (X : World) (hl : line.length ≤ 1000000000) (hll : l.length ≤ 1000000) (ht : Bs X X.heap.size al line) (hx : Ps X X.heap.size a l) :
    Calls Try.prog 12 #[.slice al line.length cl, .slice a l.length c, .bool w, .bool x] X (Asks X (l.any (may isWd line w x))) := by
  have hmf : ∀ (fn : Fn) (first cap : Array Value) (w : World), (Instr.makeFunc fn first cap).run Try.prog w = .ok (.func fn first cap) w := fun _ _ _ _ => rfl
  have CR := Lib.hid (rulesof_any line al cl w x X)
  have HT := Lib.hid ht
  have HX := Lib.hid hx
  clear ht hx
  go_enter Try.func12, Try.ntmps12
  go_wp2_with (first
    | (go_at_call 21; (with_reducible refine CR.out.mono ?_); rintro e w1 ⟨b, cap, x0, cs, rfl, hru, hb1⟩; have HC := Lib.hid (contains_any line al cl l a c w x b cap x0 cs w1 hl hll hru ((HT.out.keep hb1).more hb1.size) (HX.out.keeps hb1)))
    | (go_at_call 23; (with_reducible refine HC.out.mono ?_); rintro e w2 ⟨rfl, hb2⟩))
  go_ret
  exact ⟨rfl, hb1.trans (hb2.mono hb1.size)⟩
end Go.Proofs.Yticoahmiejgccaa.Adm
