/- The walk of TrieSteps. -/
import Derived.Test.YtljnhkpcodecgaaTk
namespace Go.Proofs.Ytljnhkpcodecgaa.trieSteps
open Go.Proofs.Ytljnhkpcodecgaa.Tri Go.RowKit Go.Maps
attribute [local go_sem ↓] Go.wp_at_zero Go.wp_at_succ

set_option maxRecDepth 100000 in
set_option maxHeartbeats 8000000 in
/-- Texts that are few and short. -/
theorem small (w : World) (xs : List TxV) (a0 : Option Addr) (cap0 : Nat) (hts : Ts w a0 xs) (h0 : xs.length ≤ 12) (hx : ∀ x ∈ xs, x.text.length ≤ 40) (n : Int) (hwn : (Lit.int .i64 n).wf = true) (c : UInt8) (b : Tx) (ab : Option Addr) (capb : Nat) (hb : Bs w w.heap.size ab b) (hb60 : b.length ≤ 60) :
    Calls Try.prog 4 #[.slice a0 xs.length cap0, .int .i64 n, .int .u8 (c.toNat : Int), .slice ab b.length capb] w fun e w' => e = .returned (.bool true) ∧ Below w.heap.size w w' := by
  have hgb : ¬ (60 : Int) < (b.length : Int) := by omega
  have hx' : ∀ x ∈ xs, x.text.length ≤ maxLen := fun x h => Nat.le_trans (hx x h) (by unfold maxLen; omega)
  have htot := few_tot h0 hx
  have hps := few_len htot
  have hsh : ∀ p ∈ paths (xs.map TxV.text), p.length ≤ 40 := fun p hp => path_short (fun x h => by
    obtain ⟨y, hy, rfl⟩ := List.mem_map.1 h
    exact hx y hy) hp
  have HSH := Lib.hid hsh
  have HX := Lib.hid hx
  have HX' := Lib.hid hx'
  clear hx hx' hsh
  go_enter Try.func4, Try.ntmps4
  go_wp2_with fail
  refine (awake_any _).mono ?_
  rintro e' w1 ⟨rfl, hb2⟩
  have ts1 := hts.keep hb2
  go_wp2_with fail
  refine (ltexts_any xs a0 cap0 w1 ts1 (by omega) HX'.out).mono ?_
  rintro e' w2 ⟨hb3, hcase⟩
  rcases hcase with ⟨hbad, _⟩ | ⟨_, aL, cL, rfl, hsL⟩
  · exact absurd HX.out hbad
  rw [decide_eq_true h0]
  have ts2 := ts1.keep hb3
  have B2 := hb2.trans (hb3.mono hb2.size)
  clear hb2 hb3 ts1 hts
  have hbb := (hb.keep B2).more B2.size
  go_wp2_with fail
  refine (build_any w2 xs a0 cap0 ts2 (by omega) (by omega)).mono ?_
  rintro e' W0 ⟨t, rfl, htr, hb4⟩
  obtain ⟨l, hl⟩ : ∃ l, l = xs.map TxV.text := ⟨_, rfl⟩
  have HLN : Hid (xs.length = l.length) := Lib.hid (by rw [hl]; simp)
  rw [← hl] at htr hps HSH hsL htot
  clear hl
  have HB0 := Lib.hid (B2.trans (hb4.mono B2.size))
  have PA := paths_any W0 l aL cL (hsL.keep hb4) (by rw [← HLN.out]; omega) (by omega)
  rw [← HLN.out] at PA
  generalize hpp : paths l = ps at *
  clear hpp
  have hbb0 := (hbb.keep hb4).more hb4.size
  clear ts2 B2 hb4 hsL hbb hb
  go_wp2_with fail
  refine PA.mono ?_
  rintro e' W1 ⟨aP, cP, rfl, hsP, hb5⟩
  have HB := Lib.hid (HB0.out.trans (hb5.mono HB0.out.size))
  have hbb1 := (hbb0.keep hb5).more hb5.size
  have HT : Hid (∀ X, Below W1.heap.size W1 X → Tr X w2.heap.size t ps l) := Lib.hid fun X hX => (htr.keep hb5).keep hX
  have HSP : Hid (∀ X, Below W1.heap.size W1 X → Ss X aP ps) := Lib.hid fun X hX => hsP.keep hX
  have HBB : Hid (∀ X, Below W1.heap.size W1 X → Bs X X.heap.size ab b) := Lib.hid fun X hX => (hbb1.keep hX).more hX.size
  clear hb5 hbb0 hbb1 htr hsP HB0 PA
  generalize w2.heap.size = s at *
  have HWN := Lib.hid hwn
  have HLAST : Hid (∀ X, Below W1.heap.size W1 X → ∀ (z : Int), stepOf ps n c = z → (∀ q, Calls Try.prog 21 #[.pointer (some ⟨t, 0, none⟩), .int .i64 n, .int .u8 (c.toNat : Int)] (X.drewN q) fun e w' => e = .returned (.int .i64 z) ∧ ∃ m, w' = (X.drewN q).drewN m)) := Lib.hid fun X hX z hz q => by
    have := step_any (X.drewN q) s t ps l (HT.out _ (below_drews hX q)) n HWN.out c
    rw [hz] at this
    exact this.mono fun _ _ ⟨e1, e2⟩ => ⟨e1, 0, e2.symm⟩
  have HFI : Hid (∀ X, Below W1.heap.size W1 X → ∀ q, Calls Try.prog 22 #[.pointer (some ⟨t, 0, none⟩), .slice ab b.length capb] (X.drewN q) fun e w' => e = .returned (.int .i64 (place ps b)) ∧ ∃ m, w' = (X.drewN q).drewN m) := Lib.hid fun X hX q =>
    (find_any (X.drewN q) s t ps l (HT.out _ (below_drews hX q)) b ab capb _ (HBB.out _ (below_drews hX q)) (by omega)).mono fun _ _ ⟨e1, e2⟩ => ⟨e1, 0, e2.symm⟩
  have HPL : Hid (∀ X, Below W1.heap.size W1 X → ∀ q, Calls Try.prog 14 #[.slice aP ps.length cP, .string (str b)] (X.drewN q) fun e w' => e = .returned (.int .i64 (place ps b)) ∧ ∃ m, w' = (X.drewN q).drewN m) := Lib.hid fun X hX q =>
    (place_any (X.drewN q) ps aP cP (HSP.out _ (below_drews hX q)) (by omega) b).mono fun _ _ ⟨e1, e2⟩ => ⟨e1, 0, e2.symm⟩
  have HCV : Hid (∀ X, Below W1.heap.size W1 X → ∀ q, (convert 32 9 (.slice ab b.length capb)).run Try.prog (X.drewN q) = .ok (.string (str b)) (X.drewN q)) := Lib.hid fun X hX q => str_of_bs capb (HBB.out _ (below_drews hX q))
  generalize place ps b = pb at *
  by_cases hin : 0 ≤ n ∧ n < ps.length
  · obtain ⟨i, rfl⟩ : ∃ i : Nat, n = (i : Int) := ⟨n.toNat, by omega⟩
    have hi : i < ps.length := by omega
    have hi2 : (i : Int) < (ps.length : Int) := by omega
    have HST := Lib.hid (stepOf_at hi c)
    have h40 := HSH.out _ (List.getElem_mem hi)
    obtain ⟨bP, oP, rfl, hbP, hcP⟩ := HSP.out W1 (Below.refl _ _) (by omega)
    have hcp : W1.drew.cell? ⟨bP, oP + i, none⟩ = some (.string (str ps[i])) := hcP i hi
    have hq := str_append ps[i] [c]
    have hz1 := str_size ps[i]
    have hz2 : (str [c]).size = 1 := str_size _
    have hcv := conv_one W1.drew c
    have PL := Lib.hid (place_any (W1.drew.alloc (.cells #[.int .u8 (c.toNat : Int)] 5)) ps (some ⟨bP, oP, none⟩) cP (HSP.out _ ((below_drews (Below.refl _ _) 1).alloc (Nat.le_refl _) _)) (by omega) (ps[i] ++ [c]))
    have HBD : Hid (Below W1.heap.size W1 (W1.drew.alloc (.cells #[.int .u8 (c.toNat : Int)] 5))) := Lib.hid ((below_drews (Below.refl _ _) 1).alloc (Nat.le_refl _) _)
    have HB1 := Lib.hid (HB.out.trans (HBD.out.mono HB.out.size))
    clear hcP hin
    generalize hpi : ps[i] = p at *
    clear hpi
    have hnb : ¬ 9223372036854775807 < p.length + 1 := by omega
    generalize hy : place ps (p ++ [c]) = y at *
    clear hy
    go_wp2
    refine wp_region_held_drew (S := fun w' => w'.cell? ⟨bP, oP + i, none⟩ = some (.string (str p))) (by kernel_rfl) hcp (fun hH0 => ?_)
    generalize W1.drew = wd at *
    refine held_take (i := 0) (d := 42) (oi := _) (v := ?_) rfl rfl (by kernel_rfl) (by kernel_rfl) (by kernel_rfl) (fun _ _ _ h => h) (Or.inl ⟨by rfl, ?_⟩) (by assumption) ?_
    rotate_left
    · (intro w hSw; (try dsimp only at hSw); go_simp; (try with_reducible rfl))
    simp only [Act.put, List.setIfInBounds_toArray, List.set_cons_zero, List.set_cons_succ]
    refine held_take (i := 1) (d := 43) (oi := _) (v := ?_) rfl rfl (by kernel_rfl) (by kernel_rfl) (by kernel_rfl) (fun _ _ _ h => h) (Or.inl ⟨by rfl, ?_⟩) (by assumption) ?_
    rotate_left
    · (intro w hSw; (try dsimp only at hSw); go_simp; (try with_reducible rfl))
    simp only [Act.put, List.setIfInBounds_toArray, List.set_cons_zero, List.set_cons_succ]
    refine held_take (i := 2) (d := 44) (oi := _) (v := ?_) rfl rfl (by kernel_rfl) (by kernel_rfl) (by kernel_rfl) (fun _ _ _ h => h) (Or.inl ⟨by rfl, ?_⟩) (by assumption) ?_
    rotate_left
    · (intro w hSw; (try dsimp only at hSw); go_simp; (try with_reducible rfl))
    simp only [Act.put, List.setIfInBounds_toArray, List.set_cons_zero, List.set_cons_succ]
    refine held_take (i := 3) (d := 45) (oi := _) (v := ?_) rfl rfl (by kernel_rfl) (by kernel_rfl) (by kernel_rfl) (fun _ _ _ h => h) (Or.inl ⟨by rfl, ?_⟩) (by assumption) ?_
    rotate_left
    · (intro w hSw; (try dsimp only at hSw); go_simp; (try with_reducible rfl))
    simp only [Act.put, List.setIfInBounds_toArray, List.set_cons_zero, List.set_cons_succ]
    refine held_take (i := 4) (d := 46) (oi := _) (v := ?_) rfl rfl (by kernel_rfl) (by kernel_rfl) (by kernel_rfl) (fun _ _ _ h => h) (Or.inl ⟨by rfl, ?_⟩) (by assumption) ?_
    rotate_left
    · (intro w hSw; (try dsimp only at hSw); go_simp; (try with_reducible rfl))
    simp only [Act.put, List.setIfInBounds_toArray, List.set_cons_zero, List.set_cons_succ]
    refine held_take (i := 5) (d := 47) (oi := _) (v := ?_) rfl rfl (by kernel_rfl) (by kernel_rfl) (by kernel_rfl) (fun _ _ _ h => h) (Or.inl ⟨by rfl, ?_⟩) (by assumption) ?_
    rotate_left
    · (intro w hSw; (try dsimp only at hSw); go_simp; (try with_reducible rfl))
    simp only [Act.put, List.setIfInBounds_toArray, List.set_cons_zero, List.set_cons_succ]
    refine wpAnyH_ready (rs := [6]) (by kernel_rfl) (by simp) ?_
    refine AllReadyH.cons rfl (fun K hK => ?_) AllReadyH.nil
    go_simp
    refine hK.out _ _ ?_ (fun hH1 => ?_)
    · exact Lib.cell?_alloc_some _ hH0
    clear hK K
    refine wpAnyH_ready (rs := [7]) (by kernel_rfl) (by simp) ?_
    refine AllReadyH.cons rfl (fun K hK => ?_) AllReadyH.nil
    go_simp
    refine hK.out _ _ ?_ (fun hH2 => ?_)
    · exact hH1
    clear hK K
    refine wpAnyH_ready (rs := [8]) (by kernel_rfl) (by simp) ?_
    refine AllReadyH.cons rfl (fun K hK => ?_) AllReadyH.nil
    go_simp
    refine hK.out _ _ ?_ (fun hH3 => ?_)
    · exact hH1
    clear hK K
    refine wpAnyH_ready (rs := [9]) (by kernel_rfl) (by simp) ?_
    refine AllReadyH.cons rfl (fun K hK => ?_) AllReadyH.nil
    go_simp
    go_wp2_with (go_at_call 14; (with_reducible refine PL.out.mono ?_); rintro e x1 ⟨rfl, rfl⟩)
    refine hK.out _ _ ?_ (fun hH4 => ?_)
    · exact hH1
    clear hK K
    refine held_take (i := 10) (d := 14) (oi := _) (v := ?_) rfl rfl (by kernel_rfl) (by kernel_rfl) (by kernel_rfl) (fun _ _ _ h => h) (Or.inl ⟨by rfl, ?_⟩) (by assumption) ?_
    rotate_left
    · (intro w hSw; (try dsimp only at hSw); go_simp; (try with_reducible rfl))
    simp only [Act.put, List.setIfInBounds_toArray, List.set_cons_zero, List.set_cons_succ]
    refine wpAnyH_done (by kernel_rfl) ?_ _
    have LA := Lib.hid (HLAST.out _ HBD.out y HST.out)
    have FI := Lib.hid (HFI.out _ HBD.out)
    have PL2 := Lib.hid (HPL.out _ HBD.out)
    have hcv2 := HCV.out _ HBD.out
    clear hcv
    generalize W1.drew.alloc (.cells #[.int .u8 (c.toNat : Int)] 5) = W2 at *
    go_wp2
    go_quiet (first | (go_at_call 21; exact Calls.quiet_of (LA.out _)) | (go_at_call 22; exact Calls.quiet_of (FI.out _)) | (go_at_call 14; exact Calls.quiet_of (PL2.out _)))
    go_wp2
    go_ret
    exact ⟨rfl, below_drews HB1.out _⟩
  · have HST : Hid (stepOf ps n c = -1) := Lib.hid ((out_all l hin).2.2.2 c)
    have LA := Lib.hid (HLAST.out W1 (Below.refl _ _) (-1) HST.out)
    have FI := Lib.hid (HFI.out W1 (Below.refl _ _))
    have PL2 := Lib.hid (HPL.out W1 (Below.refl _ _))
    have hcv2 := HCV.out W1 (Below.refl _ _)
    by_cases hneg : 0 ≤ n
    · have hge : ¬ n < (ps.length : Int) := by omega
      clear hin
      go_wp2
      go_quiet (first | (go_at_call 21; exact Calls.quiet_of (LA.out _)) | (go_at_call 22; exact Calls.quiet_of (FI.out _)) | (go_at_call 14; exact Calls.quiet_of (PL2.out _)))
      go_wp2
      go_ret
      exact ⟨rfl, below_drews HB.out _⟩
    · clear hin
      go_wp2
      go_quiet (first | (go_at_call 21; exact Calls.quiet_of (LA.out _)) | (go_at_call 22; exact Calls.quiet_of (FI.out _)) | (go_at_call 14; exact Calls.quiet_of (PL2.out _)))
      go_wp2
      go_ret
      exact ⟨rfl, below_drews HB.out _⟩
theorem walk (w : World) (xs : List TxV) (a0 : Option Addr) (cap0 : Nat) (hz0 : xs.length ≤ 6000000000000) (hx0 : ∀ x ∈ xs, x.text.length ≤ maxLen) (hts : Ts w a0 xs) (n : Int) (hwn : (Lit.int .i64 n).wf = true) (c : UInt8) (b : Tx) (ab : Option Addr) (capb : Nat) (_hbm : b.length ≤ maxLen) (hb : Bs w w.heap.size ab b) :
    Calls Try.prog 4 #[.slice a0 xs.length cap0, .int .i64 n, .int .u8 (c.toNat : Int), .slice ab b.length capb] w fun e w' => e = .returned (.bool true) ∧ Below w.heap.size w w' := by
  by_cases hall : xs.length ≤ 12 ∧ (∀ x ∈ xs, x.text.length ≤ 40)
  · by_cases hb60 : b.length ≤ 60
    · exact small w xs a0 cap0 hts hall.1 hall.2 n hwn c b ab capb hb hb60
    · have hg60 : (60 : Int) < (b.length : Int) := by omega
      have h0 := hall.1
      have HX := Lib.hid hall.2
      have HX0 := Lib.hid hx0
      clear hall hx0 hb60
      unfold maxLen at _hbm
      go_enter Try.func4, Try.ntmps4
      go_wp2_with fail
      refine (awake_any _).mono ?_
      rintro e' w1 ⟨rfl, hb2⟩
      have ts1 := hts.keep hb2
      go_wp2_with fail
      refine (ltexts_any xs a0 cap0 w1 ts1 hz0 HX0.out).mono ?_
      rintro e' w2 ⟨hb3, hcase⟩
      have B2 := hb2.trans (hb3.mono hb2.size)
      rcases hcase with ⟨hbad, _⟩ | ⟨_, aL, cL, rfl, _⟩
      · exact absurd HX.out hbad
      rw [decide_eq_true h0]
      go_wp2
      go_ret
      exact ⟨rfl, B2⟩
  · clear hwn _hbm hb
    have HALL := Lib.hid hall
    have HX := Lib.hid hx0
    clear hall hx0
    go_enter Try.func4, Try.ntmps4
    go_wp2_with fail
    refine (awake_any _).mono ?_
    rintro e' w1 ⟨rfl, hb2⟩
    have ts1 := hts.keep hb2
    go_wp2_with fail
    refine (ltexts_any xs a0 cap0 w1 ts1 hz0 HX.out).mono ?_
    rintro e' w2 ⟨hb3, hcase⟩
    have B2 := hb2.trans (hb3.mono hb2.size)
    rcases hcase with ⟨_, rfl⟩ | ⟨hok, aL, cL, rfl, _⟩
    · go_wp2
      go_ret
      exact ⟨rfl, B2⟩
    · have h12 : ¬ xs.length ≤ 12 := fun h => HALL.out ⟨h, hok⟩
      rw [decide_eq_false h12]
      clear HALL hok
      go_wp2
      go_ret
      exact ⟨rfl, B2⟩
end Go.Proofs.Ytljnhkpcodecgaa.trieSteps
