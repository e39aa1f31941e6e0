/- Scan. -/
import Derived.Test.YtcoghcfhkndijaaJ5
namespace Go.Proofs.Ytcoghcfhkndijaa.Two
open Go.RowKit Go.Maps Go.Proofs.Ytcoghcfhkndijaa.Crt Go.Proofs.Ytcoghcfhkndijaa.Suf Go.Proofs.Ytcoghcfhkndijaa.Prs Go.Proofs.Ytcoghcfhkndijaa.Reg
set_option maxRecDepth 100000
set_option linter.unusedVariables false

/-- A pair appended to a row of the call's own. -/
theorem wp_app_ps1 {w : World} {o : Oper} {a : Act} {K : Act → World → Prop} {Q : Exit → Act → World → Prop} (s x : Operand)
    (ho : o.op = .call { callee := .builtin .append, args := #[s, x], argTypes := #[30, 30] })
    (base : Nat) (v : Value) (n : Nat) (xs : List Pr) (p : Pr) (hs : a.eval s = v) (hown : w.ownsRow base 35 2 v n (cellsOf xs))
    (ad : Addr) (hx : a.eval x = .slice (some ad) 1 1) (hc : ∀ j u, (cellsOf [p])[j]? = some u → w.cell? (ad.add j) = some u)
    (hn : n ≤ 100000000) (hbase : base ≤ w.heap.size)
    (h : ∀ v' w', w'.ownsRow base 35 2 v' (n + 1) (cellsOf (xs ++ [p])) → w.grownBy w' v.ownBlock → K (a.put o.dst v') w') : o.wp Try.prog a w K Q := by
  obtain ⟨i0, hi, hz0, hz1, hz2⟩ := info_parts info27
  rw [cells_append] at h
  exact wp_append_own w s x 30 ho base 35 i0 (.agg #[.int .i64 0, .int .i64 0]) 2 16 Try.underlying30 hi hz0 hz1 hz2 rfl (by decide) v n (cellsOf xs) hs hown ad 1 1 (cellsOf [p]) hx (by rw [cells_length]; rfl) hc (cells_one [p]) (by unfold maxLen; omega) (by omega) hbase (fun v' w' h1 h2 _ => h v' w' h1 h2)
/-- What has been found, in a variable of the call's own; the text, in another. -/
def Coll (w : World) (B g gt t : Nat) (l : List Pr) (X : World) : Prop :=
  ∃ v, X.heap[g]? = some (.cells #[v] 30 (0, 0)) ∧ X.heap[gt]? = some (.cells #[.pointer (some ⟨t, 0, none⟩)] 25 (0, 0)) ∧ X.ownsRow B 35 2 v l.length (cellsOf l) ∧ B ≤ X.heap.size ∧ Below w.heap.size w X
theorem Coll.drewN {w X : World} {B g gt t : Nat} {l : List Pr} (h : Coll w B g gt t l X) (q : Nat) : Coll w B g gt t l (X.drewN q) := by
  obtain ⟨v, h1, h2, h3, h4, h5⟩ := h
  exact ⟨v, h1, h2, h3, h4, below_drews h5 q⟩
set_option maxHeartbeats 2000000 in
theorem tell_scan (w X : World) (B g gt s t : Nat) (l : List Pr) (b line : Tx) (a : Option Addr) (c : Nat) (al : Option Addr) (cl : Nat) (hX : Coll w B g gt t l X) (hF : Fx s t b a c line al cl X) (hs : w.heap.size ≤ g) (hg : g < B) (hgt : gt < B) (hne : g ≠ gt) (ht : t < w.heap.size)
    (p : Nat) (hp : p ≤ 1000) (hl : b.length ≤ 1000) (hll : l.length ≤ 100000000) :
    Calls Try.prog 23 #[.int .i64 (p : Int), .pointer (some ⟨g, 0, none⟩), .pointer (some ⟨gt, 0, none⟩)] X fun e W' => e = .returned (.bool true) ∧ Coll w B g gt t (l ++ [pieceAt b p]) W' := by
  obtain ⟨v, h1, h2, h3, h4, h5⟩ := hX
  obtain ⟨E, hE⟩ : ∃ E, E = p + b.length := ⟨_, rfl⟩
  have hwE : IntKind.i64.wrap ((p : Int) + (b.length : Int)) = (E : Int) := by rw [IntWalk.i64_in _ (by omega)]; omega
  have hrow := hF.row
  obtain ⟨d1, d2⟩ := cell_of1 h1
  obtain ⟨d3, _⟩ := cell_of1 h2
  have d4 : X.cell? ⟨t, 0, none⟩ = some (.slice a b.length c) := by rw [cell_of_row X t 0 _ 51 (0, 0) hrow]; rfl
  have hS0 : X.drew.cell? ⟨gt, 0, none⟩ = some (.pointer (some ⟨t, 0, none⟩)) ∧ X.drew.cell? ⟨t, 0, none⟩ = some (.slice a b.length c) := ⟨d3, d4⟩
  have c1 : X.drew.cell? ⟨g, 0, none⟩ = some v := d1
  have HF1 : Hid (X.drew.frozen? ⟨g, 0, none⟩ = false) := Lib.hid d2
  have HR1 : Hid (X.drew.heap[g]? = some (.cells #[v] 30 (0, 0))) := Lib.hid h1
  have HR2 : Hid (X.drew.heap[gt]? = some (.cells #[.pointer (some ⟨t, 0, none⟩)] 25 (0, 0))) := Lib.hid h2
  have HR3 : Hid (X.drew.heap[t]? = some (.cells (twCells b a c) 51 (0, 0))) := Lib.hid hrow
  have HOWN : Hid (X.drew.ownsRow B 35 2 v l.length (cellsOf l)) := Lib.hid h3
  have HSZ : Hid (B ≤ X.drew.heap.size) := Lib.hid h4
  have HB : Hid (Below w.heap.size w X.drew) := Lib.hid (below_drews h5 1)
  have HLL := Lib.hid hll
  have HCELL : Hid (∀ j u, (cellsOf [pieceAt b p])[j]? = some u → (X.drew.alloc (.cells #[.int .i64 (p : Int), .int .i64 (E : Int)] 35)).cell? ((⟨X.drew.heap.size, 0, none⟩ : Addr).add j) = some u) := Lib.hid fun j u hj => by
    have hcl : cellsOf [pieceAt b p] = [.int .i64 (p : Int), .int .i64 (E : Int)] := by rw [hE]; rfl
    rw [hcl] at hj
    rw [add_at, cell_of_row _ X.drew.heap.size _ _ 35 (0, 0) (heap_alloc_new X.drew _)]
    match j, hj with
    | 0, hj => simpa using hj
    | 1, hj => simpa using hj
    | j + 2, hj => simp at hj
  have HHA : Hid ((X.drew.alloc (.cells #[.int .i64 (p : Int), .int .i64 (E : Int)] 35)).cell? ⟨gt, 0, none⟩ = some (.pointer (some ⟨t, 0, none⟩)) ∧ (X.drew.alloc (.cells #[.int .i64 (p : Int), .int .i64 (E : Int)] 35)).cell? ⟨t, 0, none⟩ = some (.slice a b.length c)) := Lib.hid ⟨Lib.cell?_alloc_some _ hS0.1, Lib.cell?_alloc_some _ hS0.2⟩
  have HC2 : Hid ((X.drew.alloc (.cells #[.int .i64 (p : Int), .int .i64 (E : Int)] 35)).cell? ⟨g, 0, none⟩ = some v) := Lib.hid (Lib.cell?_alloc_some _ c1)
  clear h1 h2 h3 h4 h5 d1 d2 d3 d4 hrow hF hll hE
  go_enter Try.func23, Try.ntmps23
  go_wp2
  refine wp_region_held_drew (S := fun w' => w'.cell? ⟨gt, 0, none⟩ = some (.pointer (some ⟨t, 0, none⟩)) ∧ w'.cell? ⟨t, 0, none⟩ = some (.slice a b.length c)) (by kernel_rfl) hS0 (fun hH0 => ?_)
  generalize X.drew = wd at *
  refine held_take (i := 1) (d := 6) (oi := _) (v := ?_) rfl rfl (by kernel_rfl) (by kernel_rfl) (by kernel_rfl) (fun _ _ _ h => h) (Or.inl ⟨by rfl, ?_⟩) (by assumption) ?_
  rotate_left
  · (intro w hSw; clear hSw; go_simp; (try with_reducible rfl))
  simp only [Act.put, List.setIfInBounds_toArray, List.set_cons_zero, List.set_cons_succ]
  refine held_take (i := 2) (d := 7) (oi := _) (v := ?_) rfl rfl (by kernel_rfl) (by kernel_rfl) (by kernel_rfl) (fun _ _ _ h => h) (Or.inl ⟨by rfl, ?_⟩) (by assumption) ?_
  rotate_left
  · (intro w hSw; clear hSw; go_simp; (try with_reducible rfl))
  simp only [Act.put, List.setIfInBounds_toArray, List.set_cons_zero, List.set_cons_succ]
  refine held_take (i := 3) (d := 8) (oi := _) (v := ?_) rfl rfl (by kernel_rfl) (by kernel_rfl) (by kernel_rfl) (fun _ _ _ h => h) (Or.inl ⟨by rfl, ?_⟩) (by assumption) ?_
  rotate_left
  · (intro w hSw; obtain ⟨hS1, hS2⟩ := hSw; go_simp; (try with_reducible rfl))
  simp only [Act.put, List.setIfInBounds_toArray, List.set_cons_zero, List.set_cons_succ]
  refine held_take (i := 4) (d := 9) (oi := _) (v := ?_) rfl rfl (by kernel_rfl) (by kernel_rfl) (by kernel_rfl) (fun _ _ _ h => h) (Or.inl ⟨by rfl, ?_⟩) (by assumption) ?_
  rotate_left
  · (intro w hSw; clear hSw; go_simp; (try with_reducible rfl))
  simp only [Act.put, List.setIfInBounds_toArray, List.set_cons_zero, List.set_cons_succ]
  refine held_take (i := 5) (d := 10) (oi := _) (v := ?_) rfl rfl (by kernel_rfl) (by kernel_rfl) (by kernel_rfl) (fun _ _ _ h => h) (Or.inl ⟨by rfl, ?_⟩) (by assumption) ?_
  rotate_left
  · (intro w hSw; clear hSw; go_simp; (try with_reducible rfl))
  simp only [Act.put, List.setIfInBounds_toArray, List.set_cons_zero, List.set_cons_succ]
  refine held_take (i := 6) (d := 11) (oi := _) (v := ?_) rfl rfl (by kernel_rfl) (by kernel_rfl) (by kernel_rfl) (fun _ _ _ h => h) (Or.inl ⟨by rfl, ?_⟩) (by assumption) ?_
  rotate_left
  · (intro w hSw; obtain ⟨hS1, hS2⟩ := hSw; go_simp; (try with_reducible rfl))
  simp only [Act.put, List.setIfInBounds_toArray, List.set_cons_zero, List.set_cons_succ]
  refine held_take (i := 7) (d := 12) (oi := _) (v := ?_) rfl rfl (by kernel_rfl) (by kernel_rfl) (by kernel_rfl) (fun _ _ _ h => h) (Or.inl ⟨by rfl, ?_⟩) (by assumption) ?_
  rotate_left
  · (intro w hSw; clear hSw; go_simp; (try with_reducible rfl))
  simp only [Act.put, List.setIfInBounds_toArray, List.set_cons_zero, List.set_cons_succ]
  refine held_take (i := 8) (d := 13) (oi := _) (v := ?_) rfl rfl (by kernel_rfl) (by kernel_rfl) (by kernel_rfl) (fun _ _ _ h => h) (Or.inl ⟨by rfl, ?_⟩) (by assumption) ?_
  rotate_left
  · (intro w hSw; clear hSw; go_simp; (try with_reducible rfl))
  simp only [Act.put, List.setIfInBounds_toArray, List.set_cons_zero, List.set_cons_succ]
  refine held_take (i := 9) (d := 14) (oi := _) (v := ?_) rfl rfl (by kernel_rfl) (by kernel_rfl) (by kernel_rfl) (fun _ _ _ h => h) (Or.inl ⟨by rfl, ?_⟩) (by assumption) ?_
  rotate_left
  · (intro w hSw; clear hSw; go_simp; (try with_reducible rfl))
  simp only [Act.put, List.setIfInBounds_toArray, List.set_cons_zero, List.set_cons_succ]
  refine wpAnyH_ready (rs := [0, 10]) (by kernel_rfl) (by simp) ?_
  refine AllReadyH.cons rfl (fun K hK => ?_) (AllReadyH.cons rfl (fun K hK => ?_) AllReadyH.nil)
  · go_simp
    refine hK.out _ _ hH0 (fun _ => ?_)
    clear hK K
    refine wpAnyH_ready (rs := [10]) (by kernel_rfl) (by simp) ?_
    refine AllReadyH.cons rfl (fun K hK => ?_) AllReadyH.nil
    go_simp
    refine hK.out _ _ HHA.out (fun _ => ?_)
    clear hK K
    refine wpAnyH_ready (rs := [11]) (by kernel_rfl) (by simp) ?_
    refine AllReadyH.cons rfl (fun K hK => ?_) AllReadyH.nil
    rw [if_pos (by rfl)]
    refine wp_app_ps1 (.tmp 5) (.tmp 15) rfl B v l.length l (pieceAt b p) rfl (HOWN.out.alloc _) ⟨wd.heap.size, 0, none⟩ rfl HCELL.out HLL.out (by simp; have := HSZ.out; omega) ?_
    intro v4 w4 hown4 hg4
    obtain ⟨g4, cap4, rfl⟩ := Tri.own_succ hown4
    have HO4 := Lib.hid hown4
    have HG4 := Lib.hid hg4
    clear hown4 hg4
    have hgb : ∀ k : Nat, k < B → w4.heap[k]? = wd.heap[k]? := fun k h1 => (HG4.out.block k (by have := HSZ.out; simp; omega) (Tri.own_far HOWN.out k h1)).trans (Below.heap_alloc wd _ k (by have := HSZ.out; omega))
    have HZ4 : Hid (B ≤ w4.heap.size) := Lib.hid (by have h6 := HG4.out.size; have := HSZ.out; simp at h6; omega)
    have HRG := Lib.hid ((hgb g hg).trans HR1.out)
    have HRT := Lib.hid ((hgb gt hgt).trans HR2.out)
    have HRR := Lib.hid ((hgb t (by omega)).trans HR3.out)
    obtain ⟨c40, f40⟩ := cell_of1 HRG.out
    have hHb : w4.cell? ⟨gt, 0, none⟩ = some (.pointer (some ⟨t, 0, none⟩)) ∧ w4.cell? ⟨t, 0, none⟩ = some (.slice a b.length c) := ⟨(cell_of1 HRT.out).1, by rw [cell_of_row w4 t 0 _ 51 (0, 0) HRR.out]; rfl⟩
    have hRT5 := (Below.heap_setCell w4 ⟨g, 0, none⟩ (.slice (some ⟨g4, 0, none⟩) (l.length + 1) cap4) gt (show gt ≠ g from fun e => hne e.symm)).trans HRT.out
    have hHc : (w4.setCell ⟨g, 0, none⟩ (.slice (some ⟨g4, 0, none⟩) (l.length + 1) cap4)).cell? ⟨gt, 0, none⟩ = some (.pointer (some ⟨t, 0, none⟩)) ∧ (w4.setCell ⟨g, 0, none⟩ (.slice (some ⟨g4, 0, none⟩) (l.length + 1) cap4)).cell? ⟨t, 0, none⟩ = some (.slice a b.length c) := ⟨(cell_of1 hRT5).1, by rw [cell_of_row _ t 0 _ 51 (0, 0) ((Below.heap_setCell w4 ⟨g, 0, none⟩ (.slice (some ⟨g4, 0, none⟩) (l.length + 1) cap4) t (show t ≠ g by omega)).trans HRR.out)]; rfl⟩
    have HFIN : Hid (Coll w B g gt t (l ++ [pieceAt b p]) (w4.setCell ⟨g, 0, none⟩ (.slice (some ⟨g4, 0, none⟩) (l.length + 1) cap4))) := Lib.hid ⟨_, heap_set_same HRG.out, hRT5, by rw [List.length_append]; exact ownsRow_setCell_below HO4.out hg _, by rw [World.size_setCell]; exact HZ4.out, (((HB.out.alloc (by have := HSZ.out; omega) _).grown HG4.out (by have := HSZ.out; simp; omega) (fun k hk => by have := own_ge HOWN.out hk; omega)).setCell (p := ⟨g, 0, none⟩) hs _)⟩
    refine hK.out _ _ hHb (fun _ => ?_)
    clear hK K hgb hRT5
    simp only [Act.put, List.setIfInBounds_toArray]
    refine wpAnyH_ready (rs := [12]) (by kernel_rfl) (by simp) ?_
    refine AllReadyH.cons rfl (fun K hK => ?_) AllReadyH.nil
    go_simp
    refine hK.out _ _ hHc (fun _ => ?_)
    clear hK K
    refine wpAnyH_done (by kernel_rfl) ?_ _
    go_wp2
    go_ret
    exact ⟨rfl, HFIN.out⟩
  · go_simp
    refine hK.out _ _ HHA.out (fun _ => ?_)
    clear hK K
    refine wpAnyH_ready (rs := [0]) (by kernel_rfl) (by simp) ?_
    refine AllReadyH.cons rfl (fun K hK => ?_) AllReadyH.nil
    have c2 := HC2.out
    go_simp
    refine hK.out _ _ HHA.out (fun _ => ?_)
    clear hK K c2
    refine wpAnyH_ready (rs := [11]) (by kernel_rfl) (by simp) ?_
    refine AllReadyH.cons rfl (fun K hK => ?_) AllReadyH.nil
    rw [if_pos (by rfl)]
    refine wp_app_ps1 (.tmp 5) (.tmp 15) rfl B v l.length l (pieceAt b p) rfl (HOWN.out.alloc _) ⟨wd.heap.size, 0, none⟩ rfl HCELL.out HLL.out (by simp; have := HSZ.out; omega) ?_
    intro v4 w4 hown4 hg4
    obtain ⟨g4, cap4, rfl⟩ := Tri.own_succ hown4
    have HO4 := Lib.hid hown4
    have HG4 := Lib.hid hg4
    clear hown4 hg4
    have hgb : ∀ k : Nat, k < B → w4.heap[k]? = wd.heap[k]? := fun k h1 => (HG4.out.block k (by have := HSZ.out; simp; omega) (Tri.own_far HOWN.out k h1)).trans (Below.heap_alloc wd _ k (by have := HSZ.out; omega))
    have HZ4 : Hid (B ≤ w4.heap.size) := Lib.hid (by have h6 := HG4.out.size; have := HSZ.out; simp at h6; omega)
    have HRG := Lib.hid ((hgb g hg).trans HR1.out)
    have HRT := Lib.hid ((hgb gt hgt).trans HR2.out)
    have HRR := Lib.hid ((hgb t (by omega)).trans HR3.out)
    obtain ⟨c40, f40⟩ := cell_of1 HRG.out
    have hHb : w4.cell? ⟨gt, 0, none⟩ = some (.pointer (some ⟨t, 0, none⟩)) ∧ w4.cell? ⟨t, 0, none⟩ = some (.slice a b.length c) := ⟨(cell_of1 HRT.out).1, by rw [cell_of_row w4 t 0 _ 51 (0, 0) HRR.out]; rfl⟩
    have hRT5 := (Below.heap_setCell w4 ⟨g, 0, none⟩ (.slice (some ⟨g4, 0, none⟩) (l.length + 1) cap4) gt (show gt ≠ g from fun e => hne e.symm)).trans HRT.out
    have hHc : (w4.setCell ⟨g, 0, none⟩ (.slice (some ⟨g4, 0, none⟩) (l.length + 1) cap4)).cell? ⟨gt, 0, none⟩ = some (.pointer (some ⟨t, 0, none⟩)) ∧ (w4.setCell ⟨g, 0, none⟩ (.slice (some ⟨g4, 0, none⟩) (l.length + 1) cap4)).cell? ⟨t, 0, none⟩ = some (.slice a b.length c) := ⟨(cell_of1 hRT5).1, by rw [cell_of_row _ t 0 _ 51 (0, 0) ((Below.heap_setCell w4 ⟨g, 0, none⟩ (.slice (some ⟨g4, 0, none⟩) (l.length + 1) cap4) t (show t ≠ g by omega)).trans HRR.out)]; rfl⟩
    have HFIN : Hid (Coll w B g gt t (l ++ [pieceAt b p]) (w4.setCell ⟨g, 0, none⟩ (.slice (some ⟨g4, 0, none⟩) (l.length + 1) cap4))) := Lib.hid ⟨_, heap_set_same HRG.out, hRT5, by rw [List.length_append]; exact ownsRow_setCell_below HO4.out hg _, by rw [World.size_setCell]; exact HZ4.out, (((HB.out.alloc (by have := HSZ.out; omega) _).grown HG4.out (by have := HSZ.out; simp; omega) (fun k hk => by have := own_ge HOWN.out hk; omega)).setCell (p := ⟨g, 0, none⟩) hs _)⟩
    refine hK.out _ _ hHb (fun _ => ?_)
    clear hK K hgb hRT5
    simp only [Act.put, List.setIfInBounds_toArray]
    refine wpAnyH_ready (rs := [12]) (by kernel_rfl) (by simp) ?_
    refine AllReadyH.cons rfl (fun K hK => ?_) AllReadyH.nil
    go_simp
    refine hK.out _ _ hHc (fun _ => ?_)
    clear hK K
    refine wpAnyH_done (by kernel_rfl) ?_ _
    go_wp2
    go_ret
    exact ⟨rfl, HFIN.out⟩
theorem scan_none (w : World) (A : Option Addr) (n c : Nat) :
    Calls Try.prog 13 #[.pointer none, .slice A n c] w (GivesPcs w []) := by
  go_enter Try.func13, Try.ntmps13
  go_wp2
  go_ret
  exact ⟨none, 0, rfl, fun h => by simp at h, (Below.refl _ _).alloc (Nat.le_refl _) _⟩
set_option maxHeartbeats 1000000 in
theorem scan_some (w : World) {s : Nat} (t : Nat) (b : Tx) (ht : Tw w s t b) (h0 : b ≠ []) (hl : b.length ≤ 1000) (line : Tx) (al : Option Addr) (cl : Nat) (hb : Ln w al line cl) (hll : line.length ≤ 1000) :
    Calls Try.prog 13 #[.pointer (some ⟨t, 0, none⟩), .slice al line.length cl] w (GivesPcs w (pcs b line)) := by
  obtain ⟨a, c, hfx⟩ := tw_fx ht hb
  have HFX := Lib.hid hfx
  have hmf : ∀ (fn : Fn) (first cap : Array Value) (w : World), (Instr.makeFunc fn first cap).run Try.prog w = .ok (.func fn first cap) w := fun _ _ _ _ => rfl
  have hcs := call_srch b
  have htl := txt_lt hfx.row
  obtain ⟨gt, hgt⟩ : ∃ gt, gt = w.heap.size := ⟨_, rfl⟩
  obtain ⟨g, hg⟩ : ∃ g, g = w.heap.size + 1 := ⟨_, rfl⟩
  obtain ⟨W2, hW2⟩ : ∃ W2, W2 = ((w.alloc (.cells #[.pointer (some ⟨t, 0, none⟩)] 25)).alloc (.cells #[.slice none 0 0] 30)) := ⟨_, rfl⟩
  have hba : Below w.heap.size w W2 := by rw [hW2]; exact ((Below.refl _ _).alloc (Nat.le_refl _) _).alloc (by simp) _
  have hsz : W2.heap.size = w.heap.size + 2 := by rw [hW2]; simp
  have hr1 : W2.heap[gt]? = some (.cells #[.pointer (some ⟨t, 0, none⟩)] 25 (0, 0)) := by rw [hW2, hgt]; exact heap_alloc2_old _ _ _
  have hr2 : W2.heap[g]? = some (.cells #[.slice none 0 0] 30 (0, 0)) := by
    rw [hW2, hg]
    have := heap_alloc_new (w.alloc (.cells #[.pointer (some ⟨t, 0, none⟩)] 25)) (.cells #[.slice none 0 0] 30)
    rwa [World.size_alloc] at this
  have hfx2 := hfx.keep hba
  have hS0 : W2.drew.cell? ⟨gt, 0, none⟩ = some (.pointer (some ⟨t, 0, none⟩)) ∧ W2.drew.cell? ⟨t, 4, none⟩ = some (.func (.func (srch b)) #[] #[]) := ⟨(cell_of1 hr1).1, hfx2.search⟩
  have HC0 : Hid (Coll w (w.heap.size + 2) g gt t (pcsTo b line 0) W2.drew) := Lib.hid ⟨.slice none 0 0, hr2, hr1, ⟨rfl, Or.inl ⟨rfl, rfl⟩⟩, by show _ ≤ W2.heap.size; omega, below_drews hba 1⟩
  have HGT := Lib.hid hgt
  have HG := Lib.hid hg
  have HTL := Lib.hid htl
  clear hfx ht hb hba hr1 hr2 hfx2 hsz htl
  go_enter Try.func13, Try.ntmps13
  go_wp2_with fail
  rw [← hg, ← hW2, ← hgt]
  clear hgt hg hW2
  refine wp_region_held_drew (S := fun w' => w'.cell? ⟨gt, 0, none⟩ = some (.pointer (some ⟨t, 0, none⟩)) ∧ w'.cell? ⟨t, 4, none⟩ = some (.func (.func (srch b)) #[] #[])) (by kernel_rfl) hS0 (fun hH0 => ?_)
  generalize W2.drew = wd at *
  refine held_take (i := 0) (d := 8) (oi := _) (v := ?_) rfl rfl (by kernel_rfl) (by kernel_rfl) (by kernel_rfl) (fun _ _ _ h => h) (Or.inl ⟨by rfl, ?_⟩) (by assumption) ?_
  rotate_left
  · (intro w hSw; obtain ⟨hS1, hS2⟩ := hSw; go_simp; (try with_reducible rfl))
  simp only [Act.put, List.setIfInBounds_toArray, List.set_cons_zero, List.set_cons_succ]
  refine held_take (i := 1) (d := 9) (oi := _) (v := ?_) rfl rfl (by kernel_rfl) (by kernel_rfl) (by kernel_rfl) (fun _ _ _ h => h) (Or.inl ⟨by rfl, ?_⟩) (by assumption) ?_
  rotate_left
  · (intro w hSw; clear hSw; go_simp; (try with_reducible rfl))
  simp only [Act.put, List.setIfInBounds_toArray, List.set_cons_zero, List.set_cons_succ]
  refine held_take (i := 2) (d := 10) (oi := _) (v := ?_) rfl rfl (by kernel_rfl) (by kernel_rfl) (by kernel_rfl) (fun _ _ _ h => h) (Or.inl ⟨by rfl, ?_⟩) (by assumption) ?_
  rotate_left
  · (intro w hSw; clear hSw; go_simp; (try with_reducible rfl))
  simp only [Act.put, List.setIfInBounds_toArray, List.set_cons_zero, List.set_cons_succ]
  refine held_take (i := 3) (d := 11) (oi := _) (v := ?_) rfl rfl (by kernel_rfl) (by kernel_rfl) (by kernel_rfl) (fun _ _ _ h => h) (Or.inl ⟨by rfl, ?_⟩) (by assumption) ?_
  rotate_left
  · (intro w hSw; obtain ⟨hS1, hS2⟩ := hSw; go_simp; (try with_reducible rfl))
  simp only [Act.put, List.setIfInBounds_toArray, List.set_cons_zero, List.set_cons_succ]
  refine held_take (i := 4) (d := 12) (oi := _) (v := ?_) rfl rfl (by kernel_rfl) (by kernel_rfl) (by kernel_rfl) (fun _ _ _ h => h) (Or.inl ⟨by rfl, ?_⟩) (by assumption) ?_
  rotate_left
  · (intro w hSw; obtain ⟨hS1, hS2⟩ := hSw; go_simp; (try with_reducible rfl))
  simp only [Act.put, List.setIfInBounds_toArray, List.set_cons_zero, List.set_cons_succ]
  refine held_take (i := 5) (d := 13) (oi := _) (v := ?_) rfl rfl (by kernel_rfl) (by kernel_rfl) (by kernel_rfl) (fun _ _ _ h => h) (Or.inl ⟨by rfl, ?_⟩) (by assumption) ?_
  rotate_left
  · (intro w hSw; clear hSw; go_simp; (try with_reducible rfl))
  simp only [Act.put, List.setIfInBounds_toArray, List.set_cons_zero, List.set_cons_succ]
  refine held_take (i := 6) (d := 14) (oi := _) (v := ?_) rfl rfl (by kernel_rfl) (by kernel_rfl) (by kernel_rfl) (fun _ _ _ h => h) (Or.inl ⟨by rfl, ?_⟩) (by assumption) ?_
  rotate_left
  · (intro w hSw; clear hSw; go_simp; (try with_reducible rfl))
  simp only [Act.put, List.setIfInBounds_toArray, List.set_cons_zero, List.set_cons_succ]
  refine wpAnyH_ready (rs := [7]) (by kernel_rfl) (by simp) ?_
  refine AllReadyH.cons rfl (fun K hK => ?_) AllReadyH.nil
  go_simp
  have HI1 : Hid (∀ X, Below w.heap.size w X → Fx s t b a c line al cl X) := Lib.hid fun X h => HFX.out.keep h
  refine (search_any wd b line 23 #[.pointer (some ⟨g, 0, none⟩), .pointer (some ⟨gt, 0, none⟩)] (fun fr X => Coll w (w.heap.size + 2) g gt t (pcsTo b line fr) X) (fun _ => False) s t a c al cl ⟨call23, fun fr X q h => h.drewN q, ?_⟩ (fun fr X h => by obtain ⟨_, _, _, _, _, h⟩ := h; exact HI1.out X h) (fun X h => h.elim) h0 hl hll 0 (by omega) HC0.out).mono ?_
  · intro fr p X hX hf hp
    have hc := pcsTo_len b line fr
    have hfp := hf.1
    have hFX : Fx s t b a c line al cl X := by obtain ⟨_, _, _, _, _, h⟩ := hX; exact HI1.out X h
    refine (tell_scan w X _ g gt s t _ b line a c al cl hX hFX (by have := HG.out; omega) (by have := HG.out; omega) (by have := HGT.out; omega) (by have := HG.out; have := HGT.out; omega) HTL.out p (by omega) hl (by omega)).mono ?_
    rintro e W' ⟨rfl, hC⟩
    exact Or.inl ⟨rfl, by rw [pcsTo_hit hf]; exact hC⟩
  · rintro e w1 ⟨rfl, (⟨fr, ⟨v, h1, h2, h3, h4, h5⟩, hno⟩ | h)⟩
    · rw [pcsTo_over h0 hno] at h3
      obtain ⟨A, cp, rfl, h6, h7, h8⟩ := own_ps h3 rfl
      have hS1 : w1.cell? ⟨gt, 0, none⟩ = some (.pointer (some ⟨t, 0, none⟩)) ∧ w1.cell? ⟨t, 4, none⟩ = some (.func (.func (srch b)) #[] #[]) := ⟨(cell_of1 h2).1, (HI1.out w1 h5).search⟩
      refine hK.out _ _ hS1 (fun _ => ?_)
      clear hK K
      refine wpAnyH_done (by kernel_rfl) ?_ _
      obtain ⟨d1, _⟩ := cell_of1 h1
      have HP := Lib.hid h8
      have HB := Lib.hid h5
      clear h1 h2 h3 h4 h5 h6 h7 h8 hno
      go_wp2
      go_ret
      exact ⟨A, cp, rfl, HP.out, HB.out⟩
    · exact h.elim
end Go.Proofs.Ytcoghcfhkndijaa.Two
