/- The contract of add. -/
import Derived.Test.YtkooanahgffjgaaTc
import Derived.Deep.RegionLaw
import Derived.Deep.AppendLies
namespace Go.Proofs.Ytkooanahgffjgaa.Tri
open Go.RowKit Go.Maps
set_option maxRecDepth 100000

theorem ncell_new (w : World) (r : Nd) : ∀ j u, (ncells r)[j]? = some u → (w.alloc (.cells #[.int .i64 r.up, .int .u8 (r.last.toNat : Int), .int .i64 (r.deep : Int), .int .i64 r.word] 75)).cell? ((⟨w.heap.size, 0, none⟩ : Addr).add j) = some u := by
  intro j u h
  rw [add_at, Nat.zero_add, cell_of_row _ w.heap.size _ _ 75 (0, 0) (heap_alloc_new w _)]
  simpa [ncells] using h
theorem block_app {W W' : World} {g : Nat} {v : Value} {O : Obj} (hg : (W.alloc O).drew.grownBy W' v.ownBlock) (hlt : some g ≠ v.ownBlock) (hW : g < W.heap.size) : W'.heap[g]? = W.heap[g]? :=
  (hg.block g (by show g < (W.alloc O).heap.size; simp; omega) hlt).trans (Below.heap_alloc W O g hW)
/-- Behind the append, and the store of what came of it. -/
theorem add_done {w w4 : World} {s t i : Nat} {ps l : List Tx} {c : UInt8} {g' cap' m' n g4 cap4 : Nat} {O : Obj} (hi : i < ps.length) (hq : ps[i] ++ [c] ∉ ps) (h0 : s ≤ t) (hw : Wf ps) (hl : ∀ x ∈ l, x ∈ ps) (hn : ps.length < 1000000000)
    (h1 : Blk2 w t 80 (.slice (some ⟨g', 0, none⟩) ps.length cap') (.map (some m'))) (h2 : w.ownsRow s 75 4 (.slice (some ⟨g', 0, none⟩) ps.length cap') ps.length (nvals (nds ps l))) (h3 : MapT w m' n (stepOf ps)) (h4 : s ≤ m') (h5 : n ≤ ps.length)
    (hg4 : (w.alloc O).drew.grownBy w4 (Value.slice (some ⟨g', 0, none⟩) ps.length cap').ownBlock)
    (hown4 : w4.ownsRow s 75 4 (.slice (some ⟨g4, 0, none⟩) (ps.length + 1) cap4) (ps.length + 1) (nvals (nds ps l) ++ ncells ⟨(i : Int), c, ps[i].length + 1, -1⟩)) :
    MapT (w4.setCell ⟨t, 0, none⟩ (.slice (some ⟨g4, 0, none⟩) (ps.length + 1) cap4)) m' n (stepOf ps) ∧ (w4.setCell ⟨t, 0, none⟩ (.slice (some ⟨g4, 0, none⟩) (ps.length + 1) cap4)).cell? ⟨t, 1, none⟩ = some (.map (some m')) ∧
    ∀ w6, MapT w6 m' (n + 1) (fun s' d => if (i : Int) = s' ∧ c = d then (ps.length : Int) else stepOf ps s' d) → (w4.setCell ⟨t, 0, none⟩ (.slice (some ⟨g4, 0, none⟩) (ps.length + 1) cap4)).grownBy w6 (some m') → Tr w6 s t (ps ++ [ps[i] ++ [c]]) l ∧ Below s w w6 := by
  have hne1 : some t ≠ (Value.slice (some ⟨g', 0, none⟩) ps.length cap').ownBlock := fun e => by
    obtain ⟨_, _, cs, hh⟩ := own_block_lt h2 e.symm
    have := hh.symm.trans h1
    simp at this
  have hne2 : some m' ≠ (Value.slice (some ⟨g', 0, none⟩) ps.length cap').ownBlock := fun e => by
    obtain ⟨_, _, cs, hh⟩ := own_block_lt h2 e.symm
    exact h3.not hh
  have hmt : m' ≠ t := fun e => by subst e; exact h3.not h1
  have hbk4 := h1.same (block_app hg4 hne1 h1.lt)
  have hm4 := h3.same (block_app hg4 hne2 h3.lt)
  have hg4t : g4 ≠ t := fun e => by
    obtain ⟨_, _, cs, hh⟩ := own_block_lt hown4 (g := g4) rfl
    rw [e] at hh
    have := hh.symm.trans hbk4
    simp at this
  have hg4m : g4 ≠ m' := fun e => by
    obtain ⟨_, _, cs, hh⟩ := own_block_lt hown4 (g := g4) rfl
    rw [e] at hh
    exact hm4.not hh
  have hbk5 := hbk4.put0 (.slice (some ⟨g4, 0, none⟩) (ps.length + 1) cap4)
  have hm5 := hm4.same (Below.heap_setCell w4 ⟨t, 0, none⟩ (.slice (some ⟨g4, 0, none⟩) (ps.length + 1) cap4) m' hmt)
  have hown5 := hown4.kept (grown_set w4 t 0 (.slice (some ⟨g4, 0, none⟩) (ps.length + 1) cap4)) (.inr (fun e => hg4t (by simpa [Value.ownBlock] using e)))
  refine ⟨hm5, hbk5.cells.2, fun w6 hm6 hg6 => ⟨⟨h0, hw.snoc (List.getElem_mem hi) hq, fun x hx => List.mem_append_left _ (hl x hx), by simp; omega, g4, cap4, m', n + 1, ?_, ?_, hm6.cong fun a b => (stepOf_snoc hw hi hq a b).symm, h4, by simp; omega⟩, ?_⟩⟩
  · rw [List.length_append, List.length_singleton]
    exact hbk5.grown hg6 (fun e => hmt (by simpa using e.symm))
  · rw [List.length_append, List.length_singleton, nds_snoc hw hl hi hq, nvals_append]
    have e : nvals [⟨(i : Int), c, ps[i].length + 1, -1⟩] = ncells ⟨(i : Int), c, ps[i].length + 1, -1⟩ := by simp [nvals]
    rw [e]
    exact hown5.kept hg6 (.inr (fun e => hg4m (by simpa [Value.ownBlock] using e)))
  · have ht := h1.lt
    have hz4 : w.heap.size + 1 ≤ w4.heap.size := by
      have := hg4.size
      have e : (w.alloc O).drew.heap.size = w.heap.size + 1 := by show (w.alloc O).heap.size = _; simp
      omega
    have hb4 : Below s w w4 := ⟨hg4.os, hg4.tape, hg4.output, by omega, fun k hk => block_app hg4 (own_far h2 k hk) (by omega)⟩
    exact (hb4.setCell (p := ⟨t, 0, none⟩) h0 _).grown hg6 (by simp; omega) (fun k hk => by cases hk; exact h4)
set_option maxHeartbeats 4000000 in
theorem add_any (w : World) (s t : Nat) (ps l : List Tx) (h : Tr w s t ps l) (i : Nat) (hi : i < ps.length) (c : UInt8) (hq : ps[i] ++ [c] ∉ ps) (hn : ps.length < 1000000000) (hd : ps[i].length ≤ 1000000000) :
    Calls Try.prog 55 #[.pointer (some ⟨t, 0, none⟩), .int .i64 (i : Int), .int .u8 (c.toNat : Int)] w fun e w' => e = .returned (.int .i64 (ps.length : Int)) ∧ Tr w' s t (ps ++ [ps[i] ++ [c]]) l ∧ Below s w w' := by
  obtain ⟨g', cap', m', hb', hn', hg', hc⟩ := h.row
  obtain ⟨h0, hw, hl, hn2, g, cap, m, n, h1, h2, h3, h4, h5⟩ := h
  have egc : g' = g ∧ cap' = cap ∧ m' = m := by
    have := hb'.symm.trans h1
    simp at this
    exact ⟨this.1.1, this.1.2, this.2⟩
  obtain ⟨rfl, rfl, rfl⟩ := egc
  obtain ⟨c0, c1⟩ := h1.cells
  obtain ⟨f0, f1⟩ := h1.free
  obtain ⟨_, _, d2, _⟩ := hc i hi
  have hdeep : (ndOf ps l ps[i]).deep = ps[i].length := rfl
  rw [hdeep] at d2
  have hin : (i : Int) < (ps.length : Int) := by omega
  have ht := h1.lt
  have hsz : s ≤ w.heap.size := by omega
  have hne1 : some t ≠ (Value.slice (some ⟨g', 0, none⟩) ps.length cap').ownBlock := fun e => by
    obtain ⟨_, _, cs, hh⟩ := own_block_lt h2 e.symm
    have := hh.symm.trans h1
    simp at this
  have hne2 : some m' ≠ (Value.slice (some ⟨g', 0, none⟩) ps.length cap').ownBlock := fun e => by
    obtain ⟨_, _, cs, hh⟩ := own_block_lt h2 e.symm
    exact h3.not hh
  have HNE1 := Lib.hid hne1
  have HT := Lib.hid h1
  have HO := Lib.hid h2
  have HD := Lib.hid (fun (w4 : World) g4 cap4 O => add_done (w4 := w4) (g4 := g4) (cap4 := cap4) (O := O) hi hq h0 hw hl hn h1 h2 h3 h4 h5)
  have hq0 : IntKind.i64.wrap ((ps[i].length : Int) + 1) = ((ps[i].length + 1 : Nat) : Int) := by rw [IntWalk.i64_in _ (by omega)]; omega
  have HWI : Hid ((Lit.int .i64 (i : Int)).wf = true) := Lib.hid (wf_nat (by omega) (by omega))
  have HWN : Hid ((Lit.int .i64 (ps.length : Int)).wf = true) := Lib.hid (wf_nat (by omega) (by omega))
  clear hb' hc hdeep h1 h2 h3 hw hl hne1 hne2
  obtain ⟨i0, hi0, hz0, hz1, hz2⟩ := info_parts info44
  generalize hdd : ps[i].length = d at *
  clear hdd hq
  go_enter Try.func55, Try.ntmps55
  go_wp2
  go_region_law
    ((refine step_append_lies _ (by rfl) _ _ _ (by rfl) s 75 i0 (.agg #[.int .i64 0, .int .u8 0, .int .i64 0, .int .i64 0]) 4 32 Try.underlying77 hi0 hz0 hz1 hz2 rfl (by decide) (.slice (some ⟨g', 0, none⟩) ps.length cap') ps.length (nvals (nds ps l)) (by rfl) (HO.out.alloc _) ⟨w.heap.size, 0, none⟩ 1 1 (ncells ⟨(i : Int), c, d + 1, -1⟩) (by rfl) rfl (ncell_new _ _) (by simp [ncells, Value.oneCell']) (by omega) (by unfold maxLen; omega) (by omega) (by simp; omega) (w.heap.size + 1) (by simp) ?_; intro g4 cap4 w4 hown4 hg4 hat4 hlt4; have hbk4 := HT.out.same (block_app hg4 HNE1.out ht); obtain ⟨c40, c41⟩ := hbk4.cells; obtain ⟨f40, f41⟩ := hbk4.free))
  all_goals
    obtain ⟨hm5, hc5, hend⟩ := HD.out w4 g4 cap4 _ hg4 hown4
    clear hbk4 c40 c41 f40 f41 hg4 hown4 hat4 hlt4 HD HT HO HNE1 c0 c1 f0 f1 d2
    have HM5 := Lib.hid hm5
    have HE := Lib.hid hend
    clear hm5 hend
    generalize w4.setCell ⟨t, 0, none⟩ (.slice (some ⟨g4, 0, none⟩) (ps.length + 1) cap4) = w5 at *
    go_wp2_with (at_mapUpdate; (with_reducible refine put_map rfl _ _ _ rfl m' n (stepOf ps) rfl HM5.out (i : Int) c (ps.length : Int) (by omega) HWI.out HWN.out rfl rfl (by unfold maxLen; omega) ?_); intro w6 hm6 hg6; have HM6 := Lib.hid hm6; have HG6 := Lib.hid hg6; clear hm6 hg6)
    go_ret
    exact ⟨rfl, HE.out w6 HM6.out HG6.out⟩
end Go.Proofs.Ytkooanahgffjgaa.Tri
