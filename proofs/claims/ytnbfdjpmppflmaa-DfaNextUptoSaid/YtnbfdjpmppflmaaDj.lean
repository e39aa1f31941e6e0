/- The document's Next; all beginnings of very many texts. -/
import Derived.Test.YtnbfdjpmppflmaaDi
namespace Go.Proofs.Ytnbfdjpmppflmaa.Dfa
open Go.RowKit Go.Maps Go.Proofs.Ytnbfdjpmppflmaa.Tri Go.Proofs.Ytnbfdjpmppflmaa.Lnk Go.Proofs.Ytnbfdjpmppflmaa.Reg
set_option maxRecDepth 100000
set_option maxHeartbeats 2000000 in
theorem paths_more (w : World) (l : List Tx) (a : Option Addr) (cap : Nat) (hs : Ss w a l) (hl : l.length ≤ 2000000) (hz : tot l ≤ 100000000) :
    Calls Try.prog 14 #[.slice a l.length cap] w (GivesSs w (paths l)) := by
  have HS := Lib.hid hs
  clear hs
  go_enter Try.func14, Try.ntmps14
  go_wp2
  go_loopw [3, 4, 5] (fun v i _ wr => ∃ k : Nat, k ≤ l.length ∧ i = .int .i64 k ∧ wr.ownsRow w.heap.size 9 1 v (paths (l.take k)).length (svals (paths (l.take k))) ∧ Below w.heap.size w wr) (fun _ i _ _ => l.length - (intOf i).toNat)
  case atStart =>
    refine ⟨0, Nat.zero_le _, rfl, ?_, (Below.refl _ _).alloc (Nat.le_refl _) _⟩
    exact World.ownsRow_lit (base := w.heap.size) (e := 9) (size := 1) w #[.string (str [])] 1 (Nat.le_refl _) (by unfold maxLen; omega) rfl
  case round =>
    obtain ⟨k, hk, rfl, hown, hbel⟩ := hrel
    by_cases hlt : k < l.length
    · obtain ⟨b, off, rfl, hbl, hc⟩ := HS.out (by omega)
      have hkl : (k : Int) < (l.length : Int) := by omega
      have hplen := paths_len (l.take k)
      have htt := tot_take l k hlt
      have htl := tot_take_le l (k + 1)
      have HP := Lib.hid (paths_take l k hlt)
      have HCK := Lib.hid (hc k hlt)
      have HW := Lib.hid (paths_wf (l.take k))
      have hsz := str_size l[k]
      clear hc
      generalize l[k] = x at *
      generalize hps : paths (l.take k) = ps at *
      have hpz : ps.length + x.length ≤ 100000001 := by omega
      clear htt htl hplen hps
      go_wp2
      go_loopw [3, 5] (fun v i wr => ∃ j : Nat, j ≤ x.length ∧ i = .int .i64 ((j : Int) + 1) ∧ wr.ownsRow w.heap.size 9 1 v (growTo ps x j).length (svals (growTo ps x j)) ∧ Below w.heap.size w wr) (fun _ i _ => x.length + 1 - (intOf i).toNat)
      case atStart => exact ⟨0, Nat.zero_le _, rfl, hown, hbel⟩
      case round =>
        obtain ⟨j, hj, rfl, hown2, hbel2⟩ := hrel
        have hck := (hbel2.cell (p := ⟨b, off + k, none⟩) hbl).trans HCK.out
        by_cases hjx : j < x.length
        · have hjl : (j : Int) + 1 ≤ (x.length : Int) := by omega
          have hext := str_take x (j + 1)
          have hgl := growTo_len ps x j
          have hsz2 := hbel2.size
          obtain ⟨av, cv, rfl, hss, _, _⟩ := own_ss hown2
          have HPL := Lib.hid (place_any wr (growTo ps x j) av cv hss (by omega) (x.take (j + 1)))
          have HOLD := Lib.hid (growTo_old (ps := ps) (x := x) (k := j))
          have HNEW := Lib.hid (growTo_new (ps := ps) (x := x) (k := j))
          have HO := Lib.hid hown2
          have HB := Lib.hid hbel2
          clear hss hown2 hbel2 hown hbel
          by_cases hm : x.take (j + 1) ∈ growTo ps x j
          · have hy0 : ¬ place (growTo ps x j) (x.take (j + 1)) < 0 := by have := (place_nonneg (growTo ps x j) (x.take (j + 1))).2 hm; omega
            have HM := Lib.hid hm
            clear hm
            generalize place (growTo ps x j) (x.take (j + 1)) = y at *
            go_wp2_with (go_at_call 37; (with_reducible refine HPL.out.mono ?_); rintro e w1 ⟨rfl, rfl⟩)
            exact ⟨⟨j + 1, by omega, by go_num, by rw [HOLD.out HM.out]; exact HO.out, HB.out⟩, by simp [intOf]; omega⟩
          · have hy0 : place (growTo ps x j) (x.take (j + 1)) < 0 := by rw [place_not hm]; omega
            have HM := Lib.hid hm
            clear hm
            generalize place (growTo ps x j) (x.take (j + 1)) = y at *
            go_wp2_with (first
              | (go_at_call 37; (with_reducible refine HPL.out.mono ?_); rintro e w1 ⟨rfl, rfl⟩)
              | (at_builtin; refine app_ss rfl _ _ rfl w.heap.size _ _ _ (x.take (j + 1)) rfl (HO.out.alloc _) ⟨wr.heap.size, 0, none⟩ rfl (cell_new1 _ _ _) (by omega) (by simp; omega) ?_; intro v2 w2 hown3 hg3))
            refine ⟨⟨j + 1, by omega, by go_num, ?_, (HB.out.alloc hsz2 _).grown hg3 (by simp; omega) (fun q hq => own_ge HO.out hq)⟩, by simp [intOf]; omega⟩
            rw [HNEW.out HM.out, List.length_append]
            exact hown3
        · have hjl : ¬ (j : Int) + 1 ≤ (x.length : Int) := by omega
          obtain rfl : j = x.length := by omega
          have HO := Lib.hid hown2
          have HB := Lib.hid hbel2
          clear hown2 hbel2 hown hbel
          go_wp2
          exact ⟨⟨k + 1, by omega, by go_num, by rw [HP.out]; exact HO.out, HB.out⟩, by simp [intOf]; omega⟩
    · obtain rfl : k = l.length := by omega
      rw [List.take_length] at hown
      obtain ⟨av, cv, rfl, hss, _, _⟩ := own_ss hown
      have HSS := Lib.hid hss
      have HB := Lib.hid hbel
      clear hss hown hbel
      go_wp2
      go_ret
      exact ⟨av, cv, rfl, HSS.out, HB.out⟩
theorem rnext_out (w : World) (a : Option Addr) (m cap : Nat) (n : Int) (c : UInt8) (h : ¬ (0 ≤ n ∧ n < m)) : Calls Try.prog 23 #[.slice a m cap, .int .i64 n, .int .u8 (c.toNat : Int)] w fun e w' => e = .returned (.int .i64 (-1)) ∧ w = w' := by
  by_cases h0 : n < 0
  · clear h
    go_enter Try.func23, Try.ntmps23
    go_wp2
    go_ret
    exact ⟨rfl, rfl⟩
  · have h1 : (m : Int) ≤ n := by omega
    have h2 : 0 ≤ n := by omega
    clear h h0
    go_enter Try.func23, Try.ntmps23
    go_wp2
    go_ret
    exact ⟨rfl, rfl⟩
set_option maxHeartbeats 4000000 in
theorem rnext_in (w : World) (ps : List Tx) (a : Option Addr) (cap : Nat) (hs : Ss w a ps) (hl : ps.length ≤ 1000000) (hd : ∀ p ∈ ps, p.length ≤ 100000) (i : Nat) (hi : i < ps.length) (c : UInt8) : Calls Try.prog 23 #[.slice a ps.length cap, .int .i64 (i : Int), .int .u8 (c.toNat : Int)] w fun e w' => e = .returned (.int .i64 (place ps (Spa.stepT ps c ps[i]))) ∧ Below w.heap.size w w' := by
  have HS := Lib.hid hs
  obtain ⟨b, off, rfl, hb, hc⟩ := hs (by omega)
  have hcell := hc i hi
  have hpl := hd _ (List.getElem_mem hi)
  have hil : (i : Int) < (ps.length : Int) := by omega
  clear hc hs hd
  generalize ps[i] = p at *
  have hap := str_append p [c]
  have hz1 := str_size p
  have hz2 : (str [c]).size = 1 := str_size _
  go_enter Try.func23, Try.ntmps23
  go_wp2
  have HBW : Hid (Below w.heap.size w w) := Lib.hid (Below.refl _ _)
  have HLD : Hid (∀ X, Below w.heap.size w X → X.cell? ⟨b, off + i, none⟩ = some (.string (str p))) := Lib.hid fun X hX => (hX.cell (p := ⟨b, off + i, none⟩) hb).trans hcell
  have HLG : Hid (∀ X, Below w.heap.size w X → Calls Try.prog 48 #[.slice (some ⟨b, off, none⟩) ps.length cap, .string (str (p ++ [c]))] X fun e w' => e = .returned (.string (str (Spa.longT ps (p ++ [c])))) ∧ X = w') := Lib.hid fun X hX => Spa.rlong_any X ps _ cap (HS.out.keep hX) (by omega) (p ++ [c]) (by rw [List.length_append, List.length_singleton]; omega)
  have HPL : Hid (∀ X, Below w.heap.size w X → Calls Try.prog 37 #[.slice (some ⟨b, off, none⟩) ps.length cap, .string (str (Spa.longT ps (p ++ [c])))] X fun e w' => e = .returned (.int .i64 (place ps (Spa.longT ps (p ++ [c])))) ∧ X = w') := Lib.hid fun X hX => place_any X ps _ cap (HS.out.keep hX) (by omega) _
  have hsm : ¬ 9223372036854775807 < p.length + 1 := by omega
  clear hcell hb HS
  refine wp_region_held_drew (S := fun w' => Below w.drew.heap.size w.drew w') (by kernel_rfl) (Below.refl _ _) (fun hH0 => ?_)
  have B0 := Lib.hid (below_drews HBW.out 1)
  change Hid (Below _ _ w.drew) at B0
  generalize w.drew = x0 at *
  refine held_take (i := 0) (d := 15) (oi := _) (v := ?_) rfl rfl (by kernel_rfl) (by kernel_rfl) (by kernel_rfl) (fun _ _ _ h => h) (Or.inl ⟨by rfl, ?_⟩) (by assumption) ?_
  rotate_left
  · (intro w hSw; clear hSw; go_simp; (try with_reducible rfl))
  simp only [Act.put, List.setIfInBounds_toArray, List.set_cons_zero, List.set_cons_succ]
  refine held_take (i := 1) (d := 16) (oi := _) (v := ?_) rfl rfl (by kernel_rfl) (by kernel_rfl) (by kernel_rfl) (fun _ _ _ h => h) (Or.inl ⟨by rfl, ?_⟩) (by assumption) ?_
  rotate_left
  · (intro w hSw; clear hSw; go_simp; (try with_reducible rfl))
  simp only [Act.put, List.setIfInBounds_toArray, List.set_cons_zero, List.set_cons_succ]
  refine held_take (i := 2) (d := 17) (oi := _) (v := ?_) rfl rfl (by kernel_rfl) (by kernel_rfl) (by kernel_rfl) (fun _ _ _ h => h) (Or.inl ⟨by rfl, ?_⟩) (by assumption) ?_
  rotate_left
  · (intro w hSw; clear hSw; go_simp; (try with_reducible rfl))
  simp only [Act.put, List.setIfInBounds_toArray, List.set_cons_zero, List.set_cons_succ]
  refine held_take (i := 3) (d := 18) (oi := _) (v := ?_) rfl rfl (by kernel_rfl) (by kernel_rfl) (by kernel_rfl) (fun _ _ _ h => h) (Or.inl ⟨by rfl, ?_⟩) (by assumption) ?_
  rotate_left
  · (intro w hSw; clear hSw; go_simp; (try with_reducible rfl))
  simp only [Act.put, List.setIfInBounds_toArray, List.set_cons_zero, List.set_cons_succ]
  refine held_take (i := 4) (d := 19) (oi := _) (v := ?_) rfl rfl (by kernel_rfl) (by kernel_rfl) (by kernel_rfl) (fun _ _ _ h => h) (Or.inl ⟨by rfl, ?_⟩) (by assumption) ?_
  rotate_left
  · (intro w hSw; clear hSw; go_simp; (try with_reducible rfl))
  simp only [Act.put, List.setIfInBounds_toArray, List.set_cons_zero, List.set_cons_succ]
  refine held_take (i := 5) (d := 20) (oi := _) (v := ?_) rfl rfl (by kernel_rfl) (by kernel_rfl) (by kernel_rfl) (fun _ _ _ h => h) (Or.inl ⟨by rfl, ?_⟩) (by assumption) ?_
  rotate_left
  · (intro w hSw; have hld := HLD.out w (B0.out.trans (hSw.mono B0.out.size)); clear hSw; go_simp; (try with_reducible rfl))
  simp only [Act.put, List.setIfInBounds_toArray, List.set_cons_zero, List.set_cons_succ]
  refine held_take (i := 6) (d := 21) (oi := _) (v := ?_) rfl rfl (by kernel_rfl) (by kernel_rfl) (by kernel_rfl) (fun _ _ _ h => h) (Or.inl ⟨by rfl, ?_⟩) (by assumption) ?_
  rotate_left
  · (intro w hSw; clear hSw; go_simp; (try with_reducible rfl))
  simp only [Act.put, List.setIfInBounds_toArray, List.set_cons_zero, List.set_cons_succ]
  refine wpAnyH_ready (rs := [7]) (by kernel_rfl) (by simp) ?_
  refine AllReadyH.cons rfl (fun K hK => ?_) AllReadyH.nil
  go_simp
  have hb : Below x0.heap.size x0 (x0.alloc (.cells #[.int .u8 (c.toNat : Int)] 5)) := (Below.refl _ _).alloc (Nat.le_refl _) _
  have HCV : Hid (∀ w', Below (x0.alloc (.cells #[.int .u8 (c.toNat : Int)] 5)).heap.size (x0.alloc (.cells #[.int .u8 (c.toNat : Int)] 5)) w' → (convert 23 9 (.slice (some ⟨x0.heap.size, 0, none⟩) 1 1)).run Try.prog w' = .ok (.string (str [c])) w') := Lib.hid (fun w' h => str_of_bs (l := [c]) 1 ((bs_lit x0 [c] (0, 0) #[.int .u8 (c.toNat : Int)] rfl).keep h))
  refine hK.out _ _ hb (fun _ => ?_)
  have B1 := Lib.hid (B0.out.trans (hb.mono B0.out.size))
  generalize hx1 : x0.alloc (.cells #[.int .u8 (c.toNat : Int)] 5) = x1 at *
  refine wpAnyH_more (S' := fun w' => Below x1.heap.size x1 w') (fun w' h => hb.trans (h.mono hb.size)) _ _ _ _ ?_
  have hH1 : Below x1.heap.size x1 x1 := Below.refl _ _
  clear hK K hH0 hx1 hb
  refine held_take (i := 8) (d := 23) (oi := _) (v := ?_) rfl rfl (by kernel_rfl) (by kernel_rfl) (by kernel_rfl) (fun _ _ _ h => h) (Or.inl ⟨by rfl, ?_⟩) (by assumption) ?_
  rotate_left
  · (intro w hSw; have hcvw := HCV.out w hSw; clear hSw; go_simp; (try with_reducible rfl))
  simp only [Act.put, List.setIfInBounds_toArray, List.set_cons_zero, List.set_cons_succ]
  refine held_take (i := 9) (d := 24) (oi := _) (v := ?_) rfl rfl (by kernel_rfl) (by kernel_rfl) (by kernel_rfl) (fun _ _ _ h => h) (Or.inl ⟨by rfl, ?_⟩) (by assumption) ?_
  rotate_left
  · (intro w hSw; clear hSw; go_simp; (try with_reducible rfl))
  simp only [Act.put, List.setIfInBounds_toArray, List.set_cons_zero, List.set_cons_succ]
  refine wpAnyH_ready (rs := [10]) (by kernel_rfl) (by simp) ?_
  refine AllReadyH.cons rfl (fun K hK => ?_) AllReadyH.nil
  go_simp
  go_wp2_with (go_at_call 48; (with_reducible refine (HLG.out _ B1.out).mono ?_); rintro e x' ⟨rfl, rfl⟩)
  refine hK.out _ _ hH1 (fun _ => ?_)
  clear hK K
  refine wpAnyH_ready (rs := [11]) (by kernel_rfl) (by simp) ?_
  refine AllReadyH.cons rfl (fun K hK => ?_) AllReadyH.nil
  go_simp
  go_wp2_with (go_at_call 37; (with_reducible refine (HPL.out _ B1.out).mono ?_); rintro e x' ⟨rfl, rfl⟩)
  refine hK.out _ _ hH1 (fun _ => ?_)
  clear hK K
  refine held_take (i := 12) (d := 6) (oi := _) (v := ?_) rfl rfl (by kernel_rfl) (by kernel_rfl) (by kernel_rfl) (fun _ _ _ h => h) (Or.inl ⟨by rfl, ?_⟩) (by assumption) ?_
  rotate_left
  · (intro w hSw; clear hSw; go_simp; (try with_reducible rfl))
  simp only [Act.put, List.setIfInBounds_toArray, List.set_cons_zero, List.set_cons_succ]
  refine wpAnyH_done (by kernel_rfl) ?_ _
  go_wp2
  go_ret
  exact ⟨rfl, B1.out⟩
theorem rnext_any (w : World) (ps : List Tx) (a : Option Addr) (cap : Nat) (hs : Ss w a ps) (hl : ps.length ≤ 1000000) (hd : ∀ p ∈ ps, p.length ≤ 100000) (n : Int) (c : UInt8) : Calls Try.prog 23 #[.slice a ps.length cap, .int .i64 n, .int .u8 (c.toNat : Int)] w fun e w' => e = .returned (.int .i64 (nextOf ps n c)) ∧ Below w.heap.size w w' := by
  by_cases hin : 0 ≤ n ∧ n < ps.length
  · obtain ⟨i, rfl⟩ : ∃ i : Nat, n = (i : Int) := ⟨n.toNat, by omega⟩
    have hi : i < ps.length := by omega
    rw [next_at hi]
    exact rnext_in w ps a cap hs hl hd i hi c
  · rw [next_out hin]
    refine (rnext_out w a ps.length cap n c hin).mono ?_
    rintro e w' ⟨rfl, rfl⟩
    exact ⟨rfl, Below.refl _ _⟩
end Go.Proofs.Ytnbfdjpmppflmaa.Dfa
