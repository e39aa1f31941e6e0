/- Build. -/
import Derived.Test.YtgdpelpepgpegaaH7
namespace Go.Proofs.Ytgdpelpepgpegaa.Shf
open Go.RowKit Go.Maps Go.Proofs.Ytgdpelpepgpegaa.Tri Go.Proofs.Ytgdpelpepgpegaa.Lnk Go.Proofs.Ytgdpelpepgpegaa.Cwl Go.Proofs.Ytgdpelpepgpegaa.Bck Go.Proofs.Ytgdpelpepgpegaa.Reg
set_option maxRecDepth 100000
set_option linter.unusedVariables false

theorem zero56 (w : World) : (zeroValue 56).run Try.prog w = .ok (.agg (#[Value.slice none 0 0] ++ Array.replicate 256 (Value.int .i64 0))) w := by kernel_rfl
/-- The cells of one in which nothing is yet. -/
theorem zero_cells : ∃ z : Array Value, (∀ w, (zeroValue 56).run Try.prog w = .ok (.agg z) w) ∧ z.size = 257 ∧ z[0]? = some (.slice none 0 0) ∧ ∀ i, i < 256 → z[1 + i]? = some (.int .i64 0) := by
  refine ⟨#[Value.slice none 0 0] ++ Array.replicate 256 (Value.int .i64 0), zero56, by simp, by simp, fun i hi => ?_⟩
  rw [Array.getElem?_append_right (by simp)]
  simp [hi]
theorem sd_new {w : World} {z : Array Value} (h1 : z.size = 257) (h2 : z[0]? = some (.slice none 0 0)) (h3 : ∀ i, i < 256 → z[1 + i]? = some (.int .i64 0)) : Sd (w.alloc (.cells z 56)) w.heap.size (.slice none 0 0) fun _ => 0 :=
  ⟨z, heap_alloc_new w _, h1, h2, h3⟩
theorem sbuild_none (w : World) : Calls Try.prog 10 #[.pointer none] w (GivesSh w []) := by
  obtain ⟨z, hz, z1, z2, z3⟩ := zero_cells
  have HN := Lib.hid (sd_new (w := w) z1 z2 z3)
  clear z2 z3
  go_enter Try.func10, Try.ntmps10
  go_wp2
  go_ret
  refine ⟨some ⟨w.heap.size, 0, none⟩, rfl, ⟨fun e => (by cases e), fun a ha => ⟨w.heap.size, (Option.some.inj ha).symm, .inr ⟨rfl, HN.out⟩⟩⟩, (Below.refl _ w).alloc (Nat.le_refl _) _⟩
/-- The row of nodes grows. -/
theorem infoS : (Try.prog.info? 59).map (fun i => (i.zero, i.size, i.bytes)) = some (some (.agg #[.int .i64 0, .int .i64 0, .int .i64 0]), 3, 24) := by kernel_rfl
theorem undS : Try.prog.underlying 53 = some (.slice 59) := by kernel_rfl
theorem wp_app_s {w : World} {o : Oper} {a : Act} {K : Act → World → Prop} {Q : Exit → Act → World → Prop} (s x : Operand)
    (ho : o.op = .call { callee := .builtin .append, args := #[s, x], argTypes := #[53, 53] })
    (base : Nat) (v : Value) (n : Nat) (xs : List Sf) (y : Sf) (hs : a.eval s = v) (hown : w.ownsRow base 59 3 v n (rvals xs))
    (ad : Addr) (hx : a.eval x = .slice (some ad) 1 1) (hc : ∀ j u, (scells y)[j]? = some u → w.cell? (ad.add j) = some u)
    (hn : n ≤ 1000000000) (hbase : base ≤ w.heap.size)
    (h : ∀ v' w', w'.ownsRow base 59 3 v' (n + 1) (rvals (xs ++ [y])) → w.grownBy w' v.ownBlock → K (a.put o.dst v') w') : o.wp Try.prog a w K Q := by
  obtain ⟨i0, hi, hz0, hz1, hz2⟩ := info_parts infoS
  rw [rvals_append] at h
  exact wp_append_own w s x 53 ho base 59 i0 (.agg #[.int .i64 0, .int .i64 0, .int .i64 0]) 3 24 undS hi hz0 hz1 hz2 rfl (by decide) v n (rvals xs) hs hown ad 1 1 (rvals [y]) hx (by rw [rvals_length]; rfl) (by simpa [rvals] using hc) (rvals_one [y]) (by unfold maxLen; omega) (by omega) hbase (fun v' w' h1 h2 _ => h v' w' h1 h2)
theorem deep_short {l : List Tx} (h : ∀ y ∈ l, y.length ≤ 1000) : ∀ p ∈ paths (turned l), p.length ≤ 1000 := fun p hp => by
  rcases end_path hp with e | ⟨y, hy, _, hl, _⟩
  · rw [e]; simp
  · have := h y hy; omega
theorem nearK_by (l : List Tx) (c : UInt8) : nearK l c = if 0 < nearOf l c ∧ nearOf l c < Cwl.leastOf l + 1 then nearOf l c else Cwl.leastOf l + 1 := by
  have hmem : ∀ k, k ∈ nearAll l c → 0 < k → ∃ x ∈ l, x[k - 1]? = some c := by
    intro k hk h0
    unfold nearAll at hk
    obtain ⟨x, hx, hk⟩ := List.mem_flatMap.1 hk
    obtain ⟨i, hi, rfl⟩ := List.mem_map.1 hk
    split at h0
    · rename_i h
      refine ⟨x, hx, ?_⟩
      rw [if_pos h, Nat.add_sub_cancel]
      exact h
    · omega
  have hin : ∀ x ∈ l, ∀ i : Nat, x[i]? = some c → i + 1 ∈ nearAll l c := by
    intro x hx i hi
    unfold nearAll
    refine List.mem_flatMap.2 ⟨x, hx, List.mem_map.2 ⟨i, List.mem_range.2 (List.getElem?_eq_some_iff.1 hi).1, if_pos hi⟩⟩
  unfold nearK
  have h1 := min_le (Cwl.leastOf l + 1) (nearAll l c)
  have h2 := min_is (Cwl.leastOf l + 1) (nearAll l c)
  have h3 := min_mem (Cwl.leastOf l + 1) (nearAll l c)
  rcases nearOf_near l c with ⟨h0, hno⟩ | ⟨h0, ⟨x, hx, hn⟩, hle⟩
  · rw [if_neg (by omega)]
    rcases h2 with h2 | ⟨k, hk, hk0, _⟩
    · exact h2
    · obtain ⟨x, hx, hc⟩ := hmem k hk hk0
      exact absurd hc (hno x hx _)
  · have hm := h3 (nearOf l c) (by have := hin x hx _ hn; rwa [Nat.sub_add_cancel (by omega)] at this) h0
    rcases h2 with h2 | ⟨k, hk, hk0, h2⟩
    · split <;> omega
    · obtain ⟨y, hy, hc⟩ := hmem k hk hk0
      have := hle y hy _ hc
      split <;> omega
/-- While the nodes come. -/
def Gr (w : World) (s t : Nat) (vo : Value) (k : Nat) (ps : List Tx) (L : Nat) : Prop := Sd w t vo (fun _ => 0) ∧ w.ownsRow (t + 1) 59 3 vo k (rvals ((tab ps (fun _ => L) fun _ => L).take k))
set_option maxHeartbeats 4000000 in
theorem sbuild_any (w : World) {s0 : Nat} (x : Nat) (l : List Tx) (h : Bk w s0 x l) (hl : tot l ≤ 2000) :
    Calls Try.prog 10 #[.pointer (some ⟨x, 0, none⟩)] w (GivesSh w l) := by
  obtain ⟨z, hz, z1, z2, z3⟩ := zero_cells
  have HN0 := Lib.hid (sd_new (w := w) z1 z2 z3)
  clear z2 z3
  obtain ⟨tt, hx, htr⟩ := h.tree
  obtain ⟨lt, hlt⟩ : ∃ lt, turned l = lt := ⟨_, rfl⟩
  obtain ⟨ps, hps⟩ : ∃ ps, paths lt = ps := ⟨_, rfl⟩
  have hlen : ps.length ≤ 2001 := by
    have h1 := paths_len lt
    have h2 := turned_tot l
    rw [hlt] at h2
    rw [← hps]; omega
  have hdp : ∀ p ∈ ps, p.length ≤ 1000 := fun p hp => by
    rw [← hps, ← hlt] at hp
    obtain ⟨_, _, _, _, h3⟩ := h
    exact deep_short h3 p hp
  have hL : Cwl.leastOf lt ≤ 1000 := by
    by_cases h0 : lt = []
    · rw [h0]; exact Nat.zero_le _
    · obtain ⟨y, hy, e⟩ := Cwl.least_is h0
      rw [e]
      exact hdp y (hps ▸ paths_sub _ y hy)
  have HW : Hid (Wf ps) := Lib.hid (hps ▸ paths_wf lt)
  rw [hlt, hps] at htr
  have HBK : Hid (∀ X, Below w.heap.size w X → Bk X s0 x l) := Lib.hid fun X hX => h.keep hX
  have HX : Hid (∀ X, Below w.heap.size w X → X.cell? ⟨x, 0, none⟩ = some (.pointer (some ⟨tt, 0, none⟩))) := Lib.hid fun X hX => (hX.cell (p := ⟨x, 0, none⟩) (cell_lt0 hx)).trans hx
  have HTR : Hid (∀ X, Below w.heap.size w X → Tr X s0 tt ps lt) := Lib.hid fun X hX => htr.keep hX
  have HLE : Hid (∀ X, Below w.heap.size w X → Calls Try.prog 20 #[.pointer (some ⟨x, 0, none⟩)] X fun e w' => e = .returned (.int .i64 (Cwl.leastOf lt : Int)) ∧ Below X.heap.size X w') := Lib.hid fun X hX => hlt ▸ bleast_any X x l (h.keep hX)
  have HNO : Hid (∀ X, Below w.heap.size w X → _) := Lib.hid fun X hX => nodes_any X s0 tt ps lt (htr.keep hX)
  have HDP := Lib.hid hdp
  have hxl := cell_lt0 hx
  have hpos := HW.out.pos
  have hbw : Below w.heap.size w (w.alloc (.cells z 56)) := (Below.refl _ w).alloc (Nat.le_refl _) _
  have hxa := HX.out _ hbw
  have HBW := Lib.hid hbw
  have hp0 : ((ps.length : Int) == 0) = false := beq_eq_false_iff_ne.2 (by omega)
  clear h htr hdp hbw
  obtain ⟨L, hLe⟩ : ∃ L, Cwl.leastOf lt = L := ⟨_, rfl⟩
  rw [hLe] at HLE hL
  go_enter Try.func10, Try.ntmps10
  go_wp2_with (first
    | (go_at_call 21; (with_reducible refine (HNO.out _ HBW.out).mono ?_); rintro e w0 ⟨rfl, rfl⟩)
    | (go_at_call 20; (with_reducible refine (HLE.out _ HBW.out).mono ?_); rintro e w1 ⟨rfl, hb1⟩; have hS1 := Lib.hid (HN0.out.keep hb1); have hbw1 := HBW.out.trans (hb1.mono (show w.heap.size ≤ (w.alloc (.cells z 56)).heap.size by simp)); clear HBW; have HBW := Lib.hid hbw1; have hxa := HX.out _ hbw1; clear hb1 hbw1))
  clear hxa HLE HNO
  go_loopw [28] (fun v wr => ∃ (k : Nat) (vo : Value), k ≤ ps.length ∧ v = .int .i64 k ∧ Gr wr w.heap.size w.heap.size vo k ps L ∧ Below w.heap.size w wr) (fun v _ => ps.length - (intOf v).toNat)
  case atStart => exact ⟨0, .slice none 0 0, Nat.zero_le _, rfl, ⟨hS1.out, World.ownsRow_nil _ _ _ _⟩, HBW.out⟩
  case round =>
    obtain ⟨k, vo, hk, rfl, hgr, hbel⟩ := hrel
    by_cases hkl : k < ps.length
    · have hkn : (k : Int) < (ps.length : Int) := by omega
      have hbd : Below w.heap.size w wr.drew := below_drews hbel 1
      have hsd : Sd wr.drew w.heap.size vo (fun _ => 0) := hgr.1.keep (below_drews (Below.refl _ _) 1)
      have hod : wr.drew.ownsRow (w.heap.size + 1) 59 3 vo k (rvals ((tab ps (fun _ => L) fun _ => L).take k)) := own_keep hgr.2 (below_drews (Below.refl _ _) 1)
      have HDE : Hid (Calls Try.prog 27 #[.pointer (some ⟨tt, 0, none⟩), .int .i64 (k : Int)] wr.drew fun e w' => e = .returned (.int .i64 (ps[k].length : Int)) ∧ Below wr.drew.heap.size wr.drew w') := Lib.hid (by
        have := depth_any wr.drew s0 tt ps lt (HTR.out _ hbd) (k : Int)
        rwa [pathD_at hkl] at this)
      have hH : wr.drew.cell? ⟨x, 0, none⟩ = some (.pointer (some ⟨tt, 0, none⟩)) := HX.out _ hbd
      have HTK : Hid ((tab ps (fun _ => L) fun _ => L).take (k + 1) = (tab ps (fun _ => L) fun _ => L).take k ++ [⟨ps[k].length, L, L⟩]) := Lib.hid (by
        rw [List.take_succ_eq_append_getElem (by rw [tab_len]; exact hkl), tab_at _ _ _ k hkl])
      -- what the append leaves
      have HGR : Hid (∀ X w4, Below w.heap.size w X → Sd X w.heap.size vo (fun _ => 0) → X.ownsRow (w.heap.size + 1) 59 3 vo k (rvals ((tab ps (fun _ => L) fun _ => L).take k)) → X.cell? ⟨x, 0, none⟩ = some (.pointer (some ⟨tt, 0, none⟩)) → wr.drew.heap.size ≤ X.heap.size →
          (X.alloc (.cells #[.int .i64 (ps[k].length : Int), .int .i64 (L : Int), .int .i64 (L : Int)] 59)).grownBy w4 vo.ownBlock → w4.cell? ⟨x, 0, none⟩ = some (.pointer (some ⟨tt, 0, none⟩)) ∧ Sd w4 w.heap.size vo (fun _ => 0) ∧ Below w.heap.size w w4) := Lib.hid fun X w4 hX hs ho hc hz hg => by
        have hb := (hX.alloc (by have := hX.size; omega) (.cells #[.int .i64 (ps[k].length : Int), .int .i64 (L : Int), .int .i64 (L : Int)] 59)).grown hg (by have := hX.size; simp; omega) (fun j hj => by have := own_ge ho hj; omega)
        refine ⟨HX.out _ hb, ?_, hb⟩
        refine (hs.keep ((Below.refl _ X).alloc (Nat.le_refl _) _)).same (hg.block _ (by have := hs.lt; simp; omega) fun e => ?_)
        have := own_ge ho e.symm
        omega
      have HEN : Hid (∀ w4 v4, w4.cell? ⟨x, 0, none⟩ = some (.pointer (some ⟨tt, 0, none⟩)) → Sd w4 w.heap.size vo (fun _ => 0) → Below w.heap.size w w4 → w4.ownsRow (w.heap.size + 1) 59 3 v4 (k + 1) (rvals ((tab ps (fun _ => L) fun _ => L).take k ++ [⟨ps[k].length, L, L⟩])) →
          (w4.setCell ⟨w.heap.size, 0, none⟩ v4).cell? ⟨x, 0, none⟩ = some (.pointer (some ⟨tt, 0, none⟩)) ∧ Gr (w4.setCell ⟨w.heap.size, 0, none⟩ v4) w.heap.size w.heap.size v4 (k + 1) ps L ∧ Below w.heap.size w (w4.setCell ⟨w.heap.size, 0, none⟩ v4)) := Lib.hid fun w4 v4 hc hs hb ho => by
        have hb5 := hb.setCell (p := ⟨w.heap.size, 0, none⟩) (Nat.le_refl _) v4
        refine ⟨HX.out _ hb5, ⟨hs.put0 v4, ?_⟩, hb5⟩
        rw [HTK.out]
        refine own_far_block ho fun j hj => Below.heap_setCell _ _ _ _ fun e => ?_
        have := own_ge ho hj
        have e2 : j = w.heap.size := e
        omega
      have HS1 := Lib.hid hsd
      have HO1 := Lib.hid hod
      have HBD := Lib.hid hbd
      have c0 := hsd.row
      have hsz0 : w.heap.size ≤ wr.drew.heap.size := by have := hbd.size; omega
      have hxl0 : x < wr.drew.heap.size := by omega
      clear hgr hbel hbd hsd hod
      obtain ⟨D, hD⟩ : ∃ D, ps[k].length = D := ⟨_, rfl⟩
      rw [hD] at HDE HTK HGR HEN
      clear hD
      go_wp2
      refine wp_region_held_drew (S := fun w' => w'.cell? ⟨x, 0, none⟩ = some (.pointer (some ⟨tt, 0, none⟩))) (by kernel_rfl) hH (fun hH0 => ?_)
      clear hH
      generalize wr.drew = x0 at *
      refine held_take (i := 0) (d := 31) (oi := _) (v := ?_) rfl rfl (by kernel_rfl) (by kernel_rfl) (by kernel_rfl) (fun _ _ _ h => h) (Or.inl ⟨by rfl, ?_⟩) (by assumption) ?_
      rotate_left
      · (intro w hSw; go_simp; (try with_reducible rfl))
      simp only [Act.put, List.setIfInBounds_toArray, List.set_cons_zero, List.set_cons_succ]
      refine held_take (i := 1) (d := 32) (oi := _) (v := ?_) rfl rfl (by kernel_rfl) (by kernel_rfl) (by kernel_rfl) (fun _ _ _ h => h) (Or.inl ⟨by rfl, ?_⟩) (by assumption) ?_
      rotate_left
      · (intro w hSw; go_simp; (try with_reducible rfl))
      simp only [Act.put, List.setIfInBounds_toArray, List.set_cons_zero, List.set_cons_succ]
      refine held_take (i := 2) (d := 33) (oi := _) (v := ?_) rfl rfl (by kernel_rfl) (by kernel_rfl) (by kernel_rfl) (fun _ _ _ h => h) (Or.inl ⟨by rfl, ?_⟩) (by assumption) ?_
      rotate_left
      · (intro w hSw; go_simp; (try with_reducible rfl))
      simp only [Act.put, List.setIfInBounds_toArray, List.set_cons_zero, List.set_cons_succ]
      refine held_take (i := 3) (d := 34) (oi := _) (v := ?_) rfl rfl (by kernel_rfl) (by kernel_rfl) (by kernel_rfl) (fun _ _ _ h => h) (Or.inl ⟨by rfl, ?_⟩) (by assumption) ?_
      rotate_left
      · (intro w hSw; go_simp; (try with_reducible rfl))
      simp only [Act.put, List.setIfInBounds_toArray, List.set_cons_zero, List.set_cons_succ]
      refine held_take (i := 5) (d := 36) (oi := _) (v := ?_) rfl rfl (by kernel_rfl) (by kernel_rfl) (by kernel_rfl) (fun _ _ _ h => h) (Or.inl ⟨by rfl, ?_⟩) (by assumption) ?_
      rotate_left
      · (intro w hSw; go_simp; (try with_reducible rfl))
      simp only [Act.put, List.setIfInBounds_toArray, List.set_cons_zero, List.set_cons_succ]
      refine held_take (i := 6) (d := 37) (oi := _) (v := ?_) rfl rfl (by kernel_rfl) (by kernel_rfl) (by kernel_rfl) (fun _ _ _ h => h) (Or.inl ⟨by rfl, ?_⟩) (by assumption) ?_
      rotate_left
      · (intro w hSw; go_simp; (try with_reducible rfl))
      simp only [Act.put, List.setIfInBounds_toArray, List.set_cons_zero, List.set_cons_succ]
      refine held_take (i := 7) (d := 38) (oi := _) (v := ?_) rfl rfl (by kernel_rfl) (by kernel_rfl) (by kernel_rfl) (fun _ _ _ h => h) (Or.inl ⟨by rfl, ?_⟩) (by assumption) ?_
      rotate_left
      · (intro w hSw; go_simp; (try with_reducible rfl))
      simp only [Act.put, List.setIfInBounds_toArray, List.set_cons_zero, List.set_cons_succ]
      refine held_take (i := 8) (d := 39) (oi := _) (v := ?_) rfl rfl (by kernel_rfl) (by kernel_rfl) (by kernel_rfl) (fun _ _ _ h => h) (Or.inl ⟨by rfl, ?_⟩) (by assumption) ?_
      rotate_left
      · (intro w hSw; go_simp; (try with_reducible rfl))
      simp only [Act.put, List.setIfInBounds_toArray, List.set_cons_zero, List.set_cons_succ]
      refine held_take (i := 9) (d := 40) (oi := _) (v := ?_) rfl rfl (by kernel_rfl) (by kernel_rfl) (by kernel_rfl) (fun _ _ _ h => h) (Or.inl ⟨by rfl, ?_⟩) (by assumption) ?_
      rotate_left
      · (intro w hSw; go_simp; (try with_reducible rfl))
      simp only [Act.put, List.setIfInBounds_toArray, List.set_cons_zero, List.set_cons_succ]
      refine held_take (i := 11) (d := 42) (oi := _) (v := ?_) rfl rfl (by kernel_rfl) (by kernel_rfl) (by kernel_rfl) (fun _ _ _ h => h) (Or.inl ⟨by rfl, ?_⟩) (by assumption) ?_
      rotate_left
      · (intro w hSw; go_simp; (try with_reducible rfl))
      simp only [Act.put, List.setIfInBounds_toArray, List.set_cons_zero, List.set_cons_succ]
      refine held_take (i := 12) (d := 43) (oi := _) (v := ?_) rfl rfl (by kernel_rfl) (by kernel_rfl) (by kernel_rfl) (fun _ _ _ h => h) (Or.inl ⟨by rfl, ?_⟩) (by assumption) ?_
      rotate_left
      · (intro w hSw; go_simp; (try with_reducible rfl))
      simp only [Act.put, List.setIfInBounds_toArray, List.set_cons_zero, List.set_cons_succ]
      refine held_take (i := 13) (d := 44) (oi := _) (v := ?_) rfl rfl (by kernel_rfl) (by kernel_rfl) (by kernel_rfl) (fun _ _ _ h => h) (Or.inl ⟨by rfl, ?_⟩) (by assumption) ?_
      rotate_left
      · (intro w hSw; go_simp; (try with_reducible rfl))
      simp only [Act.put, List.setIfInBounds_toArray, List.set_cons_zero, List.set_cons_succ]
      refine wpAnyH_ready (rs := [4, 10]) (by kernel_rfl) (by simp) ?_
      refine AllReadyH.cons rfl (fun K hK => ?_) (AllReadyH.cons rfl (fun K hK => ?_) AllReadyH.nil)
      · go_simp
        refine hK.out _ _ hH0 (fun _ => ?_)
        clear hK K
        refine wpAnyH_ready (rs := [10]) (by kernel_rfl) (by simp) ?_
        refine AllReadyH.cons rfl (fun K hK => ?_) AllReadyH.nil
        go_simp
        go_wp2_with (go_at_call 27; (with_reducible refine HDE.out.mono ?_); rintro e x1 ⟨rfl, hb1⟩)
        have hH1 := (hb1.cell (p := ⟨x, 0, none⟩) hxl0).trans hH0
        have hs1 := HS1.out.keep hb1
        have ho1 := own_keep HO1.out hb1
        have c1 := hs1.row
        have HB2 := Lib.hid (HBD.out.trans (hb1.mono hsz0))
        have hsz1 := hb1.size
        have HSD := Lib.hid hs1
        have HOD := Lib.hid ho1
        clear hb1 hs1 ho1
        refine hK.out _ _ hH1 (fun _ => ?_)
        clear hK K
        refine held_take (i := 14) (d := 45) (oi := _) (v := ?_) rfl rfl (by kernel_rfl) (by kernel_rfl) (by kernel_rfl) (fun _ _ _ h => h) (Or.inl ⟨by rfl, ?_⟩) (by assumption) ?_
        rotate_left
        · (intro w hSw; go_simp; (try with_reducible rfl))
        simp only [Act.put, List.setIfInBounds_toArray, List.set_cons_zero, List.set_cons_succ]
        refine wpAnyH_ready (rs := [15]) (by kernel_rfl) (by simp) ?_
        refine AllReadyH.cons rfl (fun K hK => ?_) AllReadyH.nil
        go_simp
        have hH2 := Lib.cell?_alloc_some (.cells #[.int .i64 (D : Int), .int .i64 (L : Int), .int .i64 (L : Int)] 59) hH1
        have c2 := Lib.cell?_alloc_some (.cells #[.int .i64 (D : Int), .int .i64 (L : Int), .int .i64 (L : Int)] 59) c1
        refine hK.out _ _ hH2 (fun _ => ?_)
        clear hK K
        refine wpAnyH_ready (rs := [16]) (by kernel_rfl) (by simp) ?_
        refine AllReadyH.cons rfl (fun K hK => ?_) AllReadyH.nil
        rw [if_pos (by rfl)]
        refine wp_app_s (.tmp 35) (.tmp 46) rfl (w.heap.size + 1) vo k _ ⟨D, L, L⟩ rfl (HOD.out.alloc _) ⟨x1.heap.size, 0, none⟩ rfl (cells_new3 x1 _ _ _ _) (by omega) (by simp; omega) ?_
        intro v4 w4 hown4 hg4
        obtain ⟨g4, cap4, rfl⟩ := own_succ hown4
        obtain ⟨hH4, hs4, hB4⟩ := HGR.out x1 w4 HB2.out HSD.out HOD.out hH1 hsz1 hg4
        have c4 := hs4.row
        have hf4 := hs4.free 0
        refine hK.out _ _ hH4 (fun _ => ?_)
        clear hK K
        refine held_take (i := 17) (d := 48) (oi := _) (v := ?_) rfl rfl (by kernel_rfl) (by kernel_rfl) (by kernel_rfl) (fun _ _ _ h => h) (Or.inl ⟨by rfl, ?_⟩) (by assumption) ?_
        rotate_left
        · (intro w hSw; go_simp; (try with_reducible rfl))
        simp only [Act.put, List.setIfInBounds_toArray]
        refine held_take (i := 18) (d := 49) (oi := _) (v := ?_) rfl rfl (by kernel_rfl) (by kernel_rfl) (by kernel_rfl) (fun _ _ _ h => h) (Or.inl ⟨by rfl, ?_⟩) (by assumption) ?_
        rotate_left
        · (intro w hSw; go_simp; (try with_reducible rfl))
        simp only [Act.put]
        refine wpAnyH_ready (rs := [19]) (by kernel_rfl) (by simp) ?_
        refine AllReadyH.cons rfl (fun K hK => ?_) AllReadyH.nil
        go_simp
        obtain ⟨hH5, hg5, hB5⟩ := HEN.out w4 _ hH4 hs4 hB4 hown4
        refine hK.out _ _ hH5 (fun _ => ?_)
        clear hK K
        refine wpAnyH_done (by kernel_rfl) ?_ _
        have HG5 := Lib.hid hg5
        have HB5 := Lib.hid hB5
        clear hg5 hB5 hown4 hg4 hs4 hH4 c4 hf4
        go_wp2
        exact ⟨⟨k + 1, _, by omega, by go_num, HG5.out, HB5.out⟩, by simp [intOf]; omega⟩
      · go_simp
        go_wp2_with (go_at_call 27; (with_reducible refine HDE.out.mono ?_); rintro e x1 ⟨rfl, hb1⟩)
        have hH1 := (hb1.cell (p := ⟨x, 0, none⟩) hxl0).trans hH0
        have hs1 := HS1.out.keep hb1
        have ho1 := own_keep HO1.out hb1
        have c1 := hs1.row
        have HB2 := Lib.hid (HBD.out.trans (hb1.mono hsz0))
        have hsz1 := hb1.size
        have HSD := Lib.hid hs1
        have HOD := Lib.hid ho1
        clear hb1 hs1 ho1
        refine hK.out _ _ hH1 (fun _ => ?_)
        clear hK K
        refine held_take (i := 14) (d := 45) (oi := _) (v := ?_) rfl rfl (by kernel_rfl) (by kernel_rfl) (by kernel_rfl) (fun _ _ _ h => h) (Or.inl ⟨by rfl, ?_⟩) (by assumption) ?_
        rotate_left
        · (intro w hSw; go_simp; (try with_reducible rfl))
        simp only [Act.put, List.setIfInBounds_toArray, List.set_cons_zero, List.set_cons_succ]
        refine wpAnyH_ready (rs := [4, 15]) (by kernel_rfl) (by simp) ?_
        refine AllReadyH.cons rfl (fun K hK => ?_) (AllReadyH.cons rfl (fun K hK => ?_) AllReadyH.nil)
        · go_simp
          refine hK.out _ _ hH1 (fun _ => ?_)
          clear hK K
          refine wpAnyH_ready (rs := [15]) (by kernel_rfl) (by simp) ?_
          refine AllReadyH.cons rfl (fun K hK => ?_) AllReadyH.nil
          go_simp
          have hH2 := Lib.cell?_alloc_some (.cells #[.int .i64 (D : Int), .int .i64 (L : Int), .int .i64 (L : Int)] 59) hH1
          have c2 := Lib.cell?_alloc_some (.cells #[.int .i64 (D : Int), .int .i64 (L : Int), .int .i64 (L : Int)] 59) c1
          refine hK.out _ _ hH2 (fun _ => ?_)
          clear hK K
          refine wpAnyH_ready (rs := [16]) (by kernel_rfl) (by simp) ?_
          refine AllReadyH.cons rfl (fun K hK => ?_) AllReadyH.nil
          rw [if_pos (by rfl)]
          refine wp_app_s (.tmp 35) (.tmp 46) rfl (w.heap.size + 1) vo k _ ⟨D, L, L⟩ rfl (HOD.out.alloc _) ⟨x1.heap.size, 0, none⟩ rfl (cells_new3 x1 _ _ _ _) (by omega) (by simp; omega) ?_
          intro v4 w4 hown4 hg4
          obtain ⟨g4, cap4, rfl⟩ := own_succ hown4
          obtain ⟨hH4, hs4, hB4⟩ := HGR.out x1 w4 HB2.out HSD.out HOD.out hH1 hsz1 hg4
          have c4 := hs4.row
          have hf4 := hs4.free 0
          refine hK.out _ _ hH4 (fun _ => ?_)
          clear hK K
          refine held_take (i := 17) (d := 48) (oi := _) (v := ?_) rfl rfl (by kernel_rfl) (by kernel_rfl) (by kernel_rfl) (fun _ _ _ h => h) (Or.inl ⟨by rfl, ?_⟩) (by assumption) ?_
          rotate_left
          · (intro w hSw; go_simp; (try with_reducible rfl))
          simp only [Act.put, List.setIfInBounds_toArray]
          refine held_take (i := 18) (d := 49) (oi := _) (v := ?_) rfl rfl (by kernel_rfl) (by kernel_rfl) (by kernel_rfl) (fun _ _ _ h => h) (Or.inl ⟨by rfl, ?_⟩) (by assumption) ?_
          rotate_left
          · (intro w hSw; go_simp; (try with_reducible rfl))
          simp only [Act.put]
          refine wpAnyH_ready (rs := [19]) (by kernel_rfl) (by simp) ?_
          refine AllReadyH.cons rfl (fun K hK => ?_) AllReadyH.nil
          go_simp
          obtain ⟨hH5, hg5, hB5⟩ := HEN.out w4 _ hH4 hs4 hB4 hown4
          refine hK.out _ _ hH5 (fun _ => ?_)
          clear hK K
          refine wpAnyH_done (by kernel_rfl) ?_ _
          have HG5 := Lib.hid hg5
          have HB5 := Lib.hid hB5
          clear hg5 hB5 hown4 hg4 hs4 hH4 c4 hf4
          go_wp2
          exact ⟨⟨k + 1, _, by omega, by go_num, HG5.out, HB5.out⟩, by simp [intOf]; omega⟩
        · go_simp
          have hH2 := Lib.cell?_alloc_some (.cells #[.int .i64 (D : Int), .int .i64 (L : Int), .int .i64 (L : Int)] 59) hH1
          have c2 := Lib.cell?_alloc_some (.cells #[.int .i64 (D : Int), .int .i64 (L : Int), .int .i64 (L : Int)] 59) c1
          refine hK.out _ _ hH2 (fun _ => ?_)
          clear hK K
          refine wpAnyH_ready (rs := [4]) (by kernel_rfl) (by simp) ?_
          refine AllReadyH.cons rfl (fun K hK => ?_) AllReadyH.nil
          go_simp
          refine hK.out _ _ hH2 (fun _ => ?_)
          clear hK K
          refine wpAnyH_ready (rs := [16]) (by kernel_rfl) (by simp) ?_
          refine AllReadyH.cons rfl (fun K hK => ?_) AllReadyH.nil
          rw [if_pos (by rfl)]
          refine wp_app_s (.tmp 35) (.tmp 46) rfl (w.heap.size + 1) vo k _ ⟨D, L, L⟩ rfl (HOD.out.alloc _) ⟨x1.heap.size, 0, none⟩ rfl (cells_new3 x1 _ _ _ _) (by omega) (by simp; omega) ?_
          intro v4 w4 hown4 hg4
          obtain ⟨g4, cap4, rfl⟩ := own_succ hown4
          obtain ⟨hH4, hs4, hB4⟩ := HGR.out x1 w4 HB2.out HSD.out HOD.out hH1 hsz1 hg4
          have c4 := hs4.row
          have hf4 := hs4.free 0
          refine hK.out _ _ hH4 (fun _ => ?_)
          clear hK K
          refine held_take (i := 17) (d := 48) (oi := _) (v := ?_) rfl rfl (by kernel_rfl) (by kernel_rfl) (by kernel_rfl) (fun _ _ _ h => h) (Or.inl ⟨by rfl, ?_⟩) (by assumption) ?_
          rotate_left
          · (intro w hSw; go_simp; (try with_reducible rfl))
          simp only [Act.put, List.setIfInBounds_toArray]
          refine held_take (i := 18) (d := 49) (oi := _) (v := ?_) rfl rfl (by kernel_rfl) (by kernel_rfl) (by kernel_rfl) (fun _ _ _ h => h) (Or.inl ⟨by rfl, ?_⟩) (by assumption) ?_
          rotate_left
          · (intro w hSw; go_simp; (try with_reducible rfl))
          simp only [Act.put]
          refine wpAnyH_ready (rs := [19]) (by kernel_rfl) (by simp) ?_
          refine AllReadyH.cons rfl (fun K hK => ?_) AllReadyH.nil
          go_simp
          obtain ⟨hH5, hg5, hB5⟩ := HEN.out w4 _ hH4 hs4 hB4 hown4
          refine hK.out _ _ hH5 (fun _ => ?_)
          clear hK K
          refine wpAnyH_done (by kernel_rfl) ?_ _
          have HG5 := Lib.hid hg5
          have HB5 := Lib.hid hB5
          clear hg5 hB5 hown4 hg4 hs4 hH4 c4 hf4
          go_wp2
          exact ⟨⟨k + 1, _, by omega, by go_num, HG5.out, HB5.out⟩, by simp [intOf]; omega⟩
    · obtain rfl : k = ps.length := by omega
      obtain ⟨g, cap, rfl⟩ : ∃ g cap, vo = .slice (some ⟨g, 0, none⟩) ps.length cap := by
        obtain ⟨m, hm⟩ : ∃ m, ps.length = m + 1 := ⟨ps.length - 1, by omega⟩
        have := hgr.2
        rw [hm] at this ⊢
        exact own_succ this
      have hkk : ¬ (ps.length : Int) < (ps.length : Int) := by omega
      have hro := hgr.2
      rw [List.take_of_length_le (by rw [tab_len]; exact Nat.le_refl _)] at hro
      have HFA := Lib.hid (falls_any wr s0 x l (HBK.out _ hbel) ps (by rw [hlt, hps]) (by omega))
      have HFI : Hid (∀ X gf, Below wr.heap.size wr X → X.ownsRow wr.heap.size 3 1 (.slice (some ⟨gf, 0, none⟩) ps.length ps.length) ps.length (ivals (ps.map (failOf ps))) → _) := Lib.hid fun X gf hX ho =>
        fill_any w X s0 x l (HBK.out _ (Below.refl _ _)) ps lt hlt hps w.heap.size w.heap.size g ps.length cap gf (fun _ => 0) rfl (hbel.trans (hX.mono hbel.size)) (hgr.1.keep hX) (by rw [hLe]; exact own_base (own_keep hro hX) (by omega)) (own_base ho hbel.size) rfl (by omega) (fun p hp => Nat.le_trans (HDP.out p hp) (by omega))
      clear hgr hro
      have HBE := Lib.hid hbel
      clear hbel
      go_wp2_with (first
        | (go_at_call 29; (with_reducible refine HFA.out.mono ?_); rintro e w1 ⟨gf, rfl, hrow, hb1⟩; have HFR := Lib.hid hrow; have HB1 := Lib.hid hb1; clear hrow hb1)
        | (go_at_call 28; (with_reducible refine (HFI.out _ _ HB1.out HFR.out).mono ?_); rintro e w2 ⟨⟨v, rfl⟩, hs2, hr2, hb2⟩; have HS2 := Lib.hid hs2; have HR2 := Lib.hid hr2; have HB2 := Lib.hid hb2; clear hs2 hr2 hb2))
      clear HFA HFI HFR HB1 HBE hS1 HBW HN0
      go_loopw [56] (fun v wr => ∃ c : Nat, c ≤ 256 ∧ v = .int .i64 c ∧ Sd wr w.heap.size (.slice (some ⟨g, 0, none⟩) ps.length cap) (fun i => if i < c then nearK lt (UInt8.ofNat i) else 0) ∧ wr.ownsRow w.heap.size 59 3 (.slice (some ⟨g, 0, none⟩) ps.length cap) ps.length (rvals (tab ps (firstOf lt ps) (secondOf lt))) ∧ Below w.heap.size w wr) (fun v _ => 256 - (intOf v).toNat)
      case atStart => exact ⟨0, by omega, rfl, HS2.out.congr (fun i _ => by rw [if_neg (by omega)]), HR2.out, HB2.out⟩
      case round =>
        obtain ⟨c, hc, rfl, hs, hr, hbel⟩ := hrel
        by_cases hcl : c < 256
        · obtain ⟨b, rfl⟩ : ∃ b : UInt8, c = b.toNat := ⟨UInt8.ofNat c, (UInt8.toNat_ofNat_of_lt' hcl).symm⟩
          have c0 := hs.at hcl
          rw [if_neg (Nat.lt_irrefl _)] at c0
          have f0 := hs.free (1 + b.toNat)
          have hp1 : Sd (wr.setCell ⟨w.heap.size, 1 + b.toNat, none⟩ (.int .i64 ((L : Int) + 1))) w.heap.size (.slice (some ⟨g, 0, none⟩) ps.length cap) (fun i => if i < b.toNat then nearK lt (UInt8.ofNat i) else if i = b.toNat then L + 1 else 0) :=
            (hs.congr fun i _ => rfl).put hcl (fun i hi => by simp only [if_neg hi]) (by rw [if_neg (Nat.lt_irrefl _), if_pos rfl]; omega)
          have hr1 : (wr.setCell ⟨w.heap.size, 1 + b.toNat, none⟩ (.int .i64 ((L : Int) + 1))).ownsRow w.heap.size 59 3 (.slice (some ⟨g, 0, none⟩) ps.length cap) ps.length (rvals (tab ps (firstOf lt ps) (secondOf lt))) :=
            own_far_block hr fun j hj => Below.heap_setCell _ _ _ _ fun e => by
              obtain ⟨_, _, cs, hh⟩ := own_block_lt hr hj
              obtain ⟨cells, h5, _⟩ := hs
              have e2 : j = w.heap.size := e
              rw [e2] at hh
              have := hh.symm.trans h5
              simp at this
          have hb1 := hbel.setCell (p := ⟨w.heap.size, 1 + b.toNat, none⟩) (Nat.le_refl _) (.int .i64 ((L : Int) + 1))
          have HNR : Hid (∀ X, Below w.heap.size w X → Calls Try.prog 30 #[.pointer (some ⟨x, 0, none⟩), .int .u8 (b.toNat : Int)] X fun e w' => e = .returned (.int .i64 (nearOf lt b : Int)) ∧ Below X.heap.size X w') := Lib.hid fun X hX => hlt ▸ bnear_any X x l (HBK.out X hX) b
          have HP1 := Lib.hid hp1
          have HR1 := Lib.hid hr1
          have HB1 := Lib.hid hb1
          have HNK := Lib.hid (hLe ▸ nearK_by lt b)
          have hbl : (b.toNat : Int) < 256 := by omega
          have hwl : wrap64 ((L : Int) + 1) = (L : Int) + 1 := by unfold wrap64; omega
          clear hs hr hbel hp1 hr1 hb1 HS2 HR2 HB2
          generalize nearOf lt b = m at *
          -- what is known behind the round
          have HEND : Hid (∀ X : World, ∀ u : Nat, Sd X w.heap.size (.slice (some ⟨g, 0, none⟩) ps.length cap) (fun i => if i < b.toNat then nearK lt (UInt8.ofNat i) else if i = b.toNat then u else 0) → u = nearK lt b → Sd X w.heap.size (.slice (some ⟨g, 0, none⟩) ps.length cap) (fun i => if i < b.toNat + 1 then nearK lt (UInt8.ofNat i) else 0)) := Lib.hid fun X u hX hu => hX.congr fun i hi => by
            by_cases h1 : i < b.toNat
            · rw [if_pos h1, if_pos (by omega)]
            · by_cases h2 : i = b.toNat
              · rw [if_neg h1, if_pos h2, if_pos (by omega), h2, UInt8.ofNat_toNat, hu]
              · rw [if_neg h1, if_neg h2, if_neg (by omega)]
          by_cases hm0 : 0 < m
          · have hmi : (0 : Int) < (m : Int) := by omega
            go_wp2_with (go_at_call 30; (with_reducible refine (HNR.out _ HB1.out).mono ?_); rintro e w3 ⟨rfl, hb3⟩; have hs3 := HP1.out.keep hb3; have c3 := hs3.at hcl; have f3 := hs3.free (1 + b.toNat); have HS3 := Lib.hid hs3; have HR3 := Lib.hid (own_keep HR1.out hb3); have HB3 := Lib.hid (HB1.out.trans (hb3.mono (show w.heap.size ≤ (wr.setCell ⟨w.heap.size, 1 + b.toNat, none⟩ (.int .i64 ((L : Int) + 1))).heap.size by have := HB1.out.size; simpa using this))); clear hs3 hb3)
            have hs5 : Sd (w3.setCell ⟨w.heap.size, 1 + b.toNat, none⟩ (.int .i64 (min (m : Int) ((L : Int) + 1)))) w.heap.size (.slice (some ⟨g, 0, none⟩) ps.length cap) (fun i => if i < b.toNat then nearK lt (UInt8.ofNat i) else if i = b.toNat then min m (L + 1) else 0) :=
              HS3.out.put hcl (fun i hi => by simp only [if_neg hi]) (by rw [if_neg (Nat.lt_irrefl _), if_pos rfl]; omega)
            have hr5 : (w3.setCell ⟨w.heap.size, 1 + b.toNat, none⟩ (.int .i64 (min (m : Int) ((L : Int) + 1)))).ownsRow w.heap.size 59 3 (.slice (some ⟨g, 0, none⟩) ps.length cap) ps.length (rvals (tab ps (firstOf lt ps) (secondOf lt))) :=
              own_far_block HR3.out fun j hj => Below.heap_setCell _ _ _ _ fun e => by
                obtain ⟨_, _, cs, hh⟩ := own_block_lt HR3.out hj
                obtain ⟨cells, h5, _⟩ := HS3.out
                have e2 : j = w.heap.size := e
                rw [e2] at hh
                have := hh.symm.trans h5
                simp at this
            refine ⟨⟨b.toNat + 1, by omega, by go_num, HEND.out _ _ hs5 ?_, hr5, HB3.out.setCell (p := ⟨w.heap.size, 1 + b.toNat, none⟩) (Nat.le_refl _) _⟩, by simp [intOf]; omega⟩
            rw [HNK.out]
            split <;> omega
          · have hmi : ¬ (0 : Int) < (m : Int) := by omega
            go_wp2_with (go_at_call 30; (with_reducible refine (HNR.out _ HB1.out).mono ?_); rintro e w3 ⟨rfl, hb3⟩; have HS3 := Lib.hid (HP1.out.keep hb3); have HR3 := Lib.hid (own_keep HR1.out hb3); have HB3 := Lib.hid (HB1.out.trans (hb3.mono (show w.heap.size ≤ (wr.setCell ⟨w.heap.size, 1 + b.toNat, none⟩ (.int .i64 ((L : Int) + 1))).heap.size by have := HB1.out.size; simpa using this))); clear hb3)
            exact ⟨⟨b.toNat + 1, by omega, by go_num, HEND.out _ _ HS3.out (by rw [HNK.out, if_neg (by omega)]), HR3.out, HB3.out⟩, by simp [intOf]; omega⟩
        · obtain rfl : c = 256 := by omega
          have HS := Lib.hid hs
          have HR := Lib.hid hr
          have HB := Lib.hid hbel
          clear hs hr hbel HS2 HR2 HB2
          go_wp2
          go_ret
          refine ⟨some ⟨w.heap.size, 0, none⟩, rfl, ⟨fun e => (by cases e), fun a ha => ⟨w.heap.size, (Option.some.inj ha).symm, .inl ⟨g, cap, ?_, ?_, (own_block_lt HR.out (g := g) rfl).2.1, ?_⟩⟩⟩, HB.out⟩
          · rw [hlt, hps]
            exact HS.out.congr fun i hi => if_pos hi
          · rw [hlt, hps]
            exact fun p hp => Nat.le_trans (HDP.out p hp) (by omega)
          · rw [hlt, hps]
            exact own_rw HR.out (by rw [tab_len])
end Go.Proofs.Ytgdpelpepgpegaa.Shf
