/- fill. -/
import Derived.Test.YtgdpelpepgpegaaH5
namespace Go.Proofs.Ytgdpelpepgpegaa.Shf
open Go.RowKit Go.Maps Go.Proofs.Ytgdpelpepgpegaa.Tri Go.Proofs.Ytgdpelpepgpegaa.Lnk Go.Proofs.Ytgdpelpepgpegaa.Cwl Go.Proofs.Ytgdpelpepgpegaa.Bck Go.Proofs.Ytgdpelpepgpegaa.Reg
set_option maxRecDepth 100000
set_option linter.unusedVariables false

/-- While the two are filled in: the struct, the row of nodes, the variable that the closures have, the row of falls. -/
def Fi (w : World) (s t g n cap b0 gf : Nat) (nr : Nat → Nat) (ps : List Tx) (F G : Tx → Nat) : Prop :=
  Sd w t (.slice (some ⟨g, 0, none⟩) n cap) nr ∧ w.ownsRow s 59 3 (.slice (some ⟨g, 0, none⟩) n cap) n (rvals (tab ps F G)) ∧
    Blk1 w b0 27 (.pointer (some ⟨t, 0, none⟩)) ∧ w.ownsRow s 3 1 (.slice (some ⟨gf, 0, none⟩) n n) n (ivals (ps.map (failOf ps)))
theorem Fi.keep {w w' : World} {s t g n cap b0 gf : Nat} {nr : Nat → Nat} {ps : List Tx} {F G : Tx → Nat} (h : Fi w s t g n cap b0 gf nr ps F G) (hb : Below w.heap.size w w') : Fi w' s t g n cap b0 gf nr ps F G := by
  obtain ⟨h1, h2, h3, h4⟩ := h
  exact ⟨h1.keep hb, own_keep h2 hb, (hb.block _ h3.lt).trans h3, own_keep h4 hb⟩
theorem Fi.congr {w : World} {s t g n cap b0 gf : Nat} {nr : Nat → Nat} {ps : List Tx} {F F' G G' : Tx → Nat} (h : Fi w s t g n cap b0 gf nr ps F G) (hF : ∀ p ∈ ps, F p = F' p) (hG : ∀ p ∈ ps, G p = G' p) : Fi w s t g n cap b0 gf nr ps F' G' := by
  obtain ⟨h1, h2, h3, h4⟩ := h
  refine ⟨h1, ?_, h3, h4⟩
  rw [← tab_congr hF hG]
  exact h2
theorem Fi.row {w : World} {s t g n cap b0 gf : Nat} {nr : Nat → Nat} {ps : List Tx} {F G : Tx → Nat} (h : Fi w s t g n cap b0 gf nr ps F G) (hn : ps.length = n) {i : Nat} (hi : i < ps.length) :
    w.cell? ⟨g, i * 3, none⟩ = some (.int .i64 (ps[i].length : Int)) ∧ w.cell? ⟨g, i * 3 + 1, none⟩ = some (.int .i64 (F ps[i] : Int)) ∧ w.cell? ⟨g, i * 3 + 2, none⟩ = some (.int .i64 (G ps[i] : Int)) ∧ ∀ j, w.frozen? ⟨g, j, none⟩ = false := by
  obtain ⟨_, h2, _, _⟩ := h
  obtain ⟨c0, c1, c2⟩ := own_rw h2 (by rw [tab_len]; exact hn) i (by rw [tab_len]; exact hi)
  rw [tab_at _ _ _ i hi] at c0 c1 c2
  exact ⟨c0, c1, c2, fun j => h2.frozenAt j⟩
theorem Fi.fall {w : World} {s t g n cap b0 gf : Nat} {nr : Nat → Nat} {ps : List Tx} {F G : Tx → Nat} (h : Fi w s t g n cap b0 gf nr ps F G) (hn : ps.length = n) {i : Nat} (hi : i < ps.length) :
    w.cell? ⟨gf, i, none⟩ = some (.int .i64 (failOf ps ps[i])) := by
  rw [h.2.2.2.cellAt i (by omega), ivals_at _ _ (by simpa using hi)]
  simp
theorem Fi.far {w : World} {s t g n cap b0 gf : Nat} {nr : Nat → Nat} {ps : List Tx} {F G : Tx → Nat} (h : Fi w s t g n cap b0 gf nr ps F G) : t ≠ g ∧ b0 ≠ g ∧ gf ≠ g ∧ s ≤ g ∧ g < w.heap.size := by
  obtain ⟨h1, h2, h3, h4⟩ := h
  obtain ⟨hsg, hgz, cs, hh⟩ := own_block_lt h2 (g := g) rfl
  obtain ⟨_, _, cf, hf⟩ := own_block_lt h4 (g := gf) rfl
  obtain ⟨c1, e1, _⟩ := h1
  refine ⟨fun e => ?_, fun e => ?_, fun e => ?_, hsg, hgz⟩
  · subst e; have := hh.symm.trans e1; simp at this
  · subst e; have := hh.symm.trans h3; simp at this
  · subst e; have := hh.symm.trans hf; simp at this
theorem Fi.put1 {w : World} {s t g n cap b0 gf : Nat} {nr : Nat → Nat} {ps : List Tx} {F G F' : Tx → Nat} (h : Fi w s t g n cap b0 gf nr ps F G) (hd : ps.Nodup) {i : Nat} (hi : i < ps.length) (hF : ∀ p ∈ ps, p ≠ ps[i] → F' p = F p) {x : Int} (hx : x = (F' ps[i] : Int)) :
    Fi (w.setCell ⟨g, i * 3 + 1, none⟩ (.int .i64 x)) s t g n cap b0 gf nr ps F' G := by
  obtain ⟨f1, f2, f3, _, _⟩ := h.far
  obtain ⟨h1, h2, h3, h4⟩ := h
  refine ⟨h1.same (Below.heap_setCell _ _ _ _ f1), ?_, (Below.heap_setCell _ _ _ _ f2).trans h3, own_far_block h4 fun k hk => Below.heap_setCell _ _ _ _ fun e => ?_⟩
  · have h5 := (h2.stored (i * 3 + 1) (.int .i64 x)).1
    rw [hx, rvals_put1 _ i (by rw [tab_len]; exact hi)] at h5
    rw [tab_at _ _ _ i hi] at h5
    rw [tab_put1 hd F G F' hi hF] at h5
    rw [hx]
    exact h5
  · have e1 : gf = k := by simpa [Value.ownBlock] using hk
    have e2 : k = g := e
    omega
theorem Fi.put2 {w : World} {s t g n cap b0 gf : Nat} {nr : Nat → Nat} {ps : List Tx} {F G G' : Tx → Nat} (h : Fi w s t g n cap b0 gf nr ps F G) (hd : ps.Nodup) {i : Nat} (hi : i < ps.length) (hG : ∀ p ∈ ps, p ≠ ps[i] → G' p = G p) {x : Int} (hx : x = (G' ps[i] : Int)) :
    Fi (w.setCell ⟨g, i * 3 + 2, none⟩ (.int .i64 x)) s t g n cap b0 gf nr ps F G' := by
  obtain ⟨f1, f2, f3, _, _⟩ := h.far
  obtain ⟨h1, h2, h3, h4⟩ := h
  refine ⟨h1.same (Below.heap_setCell _ _ _ _ f1), ?_, (Below.heap_setCell _ _ _ _ f2).trans h3, own_far_block h4 fun k hk => Below.heap_setCell _ _ _ _ fun e => ?_⟩
  · have h5 := (h2.stored (i * 3 + 2) (.int .i64 x)).1
    rw [hx, rvals_put2 _ i (by rw [tab_len]; exact hi)] at h5
    rw [tab_at _ _ _ i hi] at h5
    rw [tab_put2 hd F G G' hi hG] at h5
    rw [hx]
    exact h5
  · have e1 : gf = k := by simpa [Value.ownBlock] using hk
    have e2 : k = g := e
    omega
/-- The closures, while it is filled in. -/
theorem Fi.ahead {w : World} {s t g n cap b0 gf : Nat} {nr : Nat → Nat} {ps : List Tx} {F G : Tx → Nat} (h : Fi w s t g n cap b0 gf nr ps F G) (hn : ps.length = n) {i j : Nat} (hi : i < ps.length) (hj : j < ps.length) (hd : ∀ p ∈ ps, p.length ≤ 1000000) :
    Calls Try.prog 43 #[.int .i64 (i : Int), .int .i64 (j : Int), .pointer (some ⟨b0, 0, none⟩)] w fun e w' => e = .returned (.int .i64 ((ps[i].length : Int) - ps[j].length)) ∧ ∃ q, w' = w.drewN q :=
  ahead_any w b0 t g n cap i j _ _ h.2.2.1.cell h.1.row (by omega) (by omega) (h.row hn hi).1 (h.row hn hj).1 (hd _ (List.getElem_mem hi)) (hd _ (List.getElem_mem hj))
theorem Fi.first {w : World} {s t g n cap b0 gf : Nat} {nr : Nat → Nat} {ps : List Tx} {F G F' : Tx → Nat} (h : Fi w s t g n cap b0 gf nr ps F G) (hn : ps.length = n) (hd : ps.Nodup) {i : Nat} (hi : i < ps.length) (y : Int) (hF : ∀ p ∈ ps, p ≠ ps[i] → F' p = F p) (hy : (F' ps[i] : Int) = min (F ps[i] : Int) y) :
    Calls Try.prog 42 #[.int .i64 0, .int .i64 (i : Int), .int .i64 y, .pointer (some ⟨b0, 0, none⟩)] w fun e w' => (∃ v, e = .returned v) ∧ Fi w' s t g n cap b0 gf nr ps F' G ∧ ∀ s0 w0, Below s0 w0 w → s0 ≤ s → Below s0 w0 w' := by
  obtain ⟨_, c1, _, cf⟩ := h.row hn hi
  refine (keep_any w b0 t g n cap i 0 _ y h.2.2.1.cell h.1.row (by omega) (by omega) c1 (cf _)).mono ?_
  rintro e w' ⟨he, rfl⟩
  refine ⟨he, ?_, fun s0 w0 hb hs => ?_⟩
  · exact (h.put1 hd hi hF hy.symm).keep (below_drews (Below.refl _ _) 1)
  · exact below_drews (hb.setCell (p := ⟨g, i * 3 + 1 + 0, none⟩) (Nat.le_trans hs h.far.2.2.2.1) _) 1
theorem Fi.second {w : World} {s t g n cap b0 gf : Nat} {nr : Nat → Nat} {ps : List Tx} {F G G' : Tx → Nat} (h : Fi w s t g n cap b0 gf nr ps F G) (hn : ps.length = n) (hd : ps.Nodup) {i : Nat} (hi : i < ps.length) (y : Int) (hG : ∀ p ∈ ps, p ≠ ps[i] → G' p = G p) (hy : (G' ps[i] : Int) = min (G ps[i] : Int) y) :
    Calls Try.prog 42 #[.int .i64 1, .int .i64 (i : Int), .int .i64 y, .pointer (some ⟨b0, 0, none⟩)] w fun e w' => (∃ v, e = .returned v) ∧ Fi w' s t g n cap b0 gf nr ps F G' ∧ ∀ s0 w0, Below s0 w0 w → s0 ≤ s → Below s0 w0 w' := by
  obtain ⟨_, _, c2, cf⟩ := h.row hn hi
  refine (keep_any w b0 t g n cap i 1 _ y h.2.2.1.cell h.1.row (by omega) (by omega) c2 (cf _)).mono ?_
  rintro e w' ⟨he, rfl⟩
  refine ⟨he, ?_, fun s0 w0 hb hs => ?_⟩
  · exact (h.put2 hd hi hG hy.symm).keep (below_drews (Below.refl _ _) 1)
  · exact below_drews (hb.setCell (p := ⟨g, i * 3 + 1 + 1, none⟩) (Nat.le_trans hs h.far.2.2.2.1) _) 1
/-- Second, once the ways are gone down: of the nodes ahead of k. -/
def wayTo (ps l : List Tx) (L k : Nat) (p : Tx) : Nat := if place ps p < (k : Int) then secondOf l p else base l L p
theorem way_one {ps l : List Tx} (hw : Wf ps) {p : Tx} (hp : p ∈ ps) : base l (Cwl.leastOf l) p = wayTo ps l (Cwl.leastOf l) 1 p := by
  unfold wayTo
  split
  · rename_i h
    obtain ⟨i, hi, e, e2, _⟩ := place_mem hp
    have : i = 0 := by omega
    subst this
    have : p = [] := by rw [← e2]; exact hw.at0
    subst this
    exact (second_root l).symm
  · rfl
theorem way_all {ps l : List Tx} {L : Nat} (p : Tx) : wayTo ps l L ps.length p = secondOf l p := by
  unfold wayTo
  exact if_pos (place_lt ps p)
theorem way_step {ps l : List Tx} (hw : Wf ps) {k : Nat} (hk : k < ps.length) (h0 : 0 < k) :
    (∀ p ∈ ps, p ≠ ps[k] → wayTo ps l (Cwl.leastOf l) (k + 1) p = wayTo ps l (Cwl.leastOf l) k p) ∧ wayTo ps l (Cwl.leastOf l) (k + 1) ps[k] = min (wayTo ps l (Cwl.leastOf l) k ps[k]) (secondOf l ps[k].dropLast) ∧
      ∃ j, ∃ hj : j < ps.length, j < k ∧ upOf ps (k : Int) = (j : Int) ∧ ps[j] = ps[k].dropLast ∧ wayTo ps l (Cwl.leastOf l) k ps[j] = secondOf l ps[k].dropLast := by
  have hne : ps[k] ≠ [] := fun e => by have := (hw.nil_iff hk).1 e; omega
  have hm := hw.closed_drop (List.getElem_mem hk) hne
  obtain ⟨j, hj, e1, e2, _⟩ := place_mem hm
  have hjk : j < k := by
    obtain ⟨i, hi, e3⟩ := hw.up k hk hne
    have := nd_inj hw.nodup (i := i) (j := j) (hi := by omega) (hj := hj) (by rw [e2, e3])
    omega
  refine ⟨fun p hp hpk => ?_, ?_, j, hj, hjk, by rw [upOf_at hk, if_neg hne, e1], e2, ?_⟩
  · unfold wayTo
    obtain ⟨i, hi, e3, e4, _⟩ := place_mem hp
    have : i ≠ k := fun e => by subst e; exact hpk e4.symm
    rw [e3]
    by_cases h : i < k
    · rw [if_pos (by omega), if_pos (by omega)]
    · rw [if_neg (by omega), if_neg (by omega)]
  · unfold wayTo
    rw [place_at hw.nodup hk, if_pos (by omega), if_neg (by omega)]
    have e := List.dropLast_concat_getLast hne
    conv => lhs; rw [← e, second_snoc, e]
  · unfold wayTo
    rw [place_at hw.nodup hj, if_pos (by omega), e2]
end Go.Proofs.Ytgdpelpepgpegaa.Shf
