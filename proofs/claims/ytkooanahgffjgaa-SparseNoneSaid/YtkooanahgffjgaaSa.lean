import Derived.Test.YtkooanahgffjgaaSMath
import Derived.Test.YtkooanahgffjgaaLf
import Derived.Test.YtkooanahgffjgaaMi
import Derived.Test.YtkooanahgffjgaaPe
import Derived.Test.YtkooanahgffjgaaReg
/- The edges of a tree, as rows. -/
namespace Go.Proofs.Ytkooanahgffjgaa.Spa
open Go.RowKit Go.Maps
open Go.Proofs.Ytkooanahgffjgaa.Tri Go.Proofs.Ytkooanahgffjgaa.Lnk
set_option maxRecDepth 100000
abbrev Rw := Met.Rw
def rowsOf (ps : List Tx) (k : Nat) : List Rw := (kidsOf ps (k : Int)).map fun c => ⟨(k : Int), c, stepOf ps (k : Int) c⟩
def edgesTo (ps : List Tx) : Nat → List Rw
  | 0 => []
  | k + 1 => edgesTo ps k ++ rowsOf ps k
def edges (ps : List Tx) : List Rw := edgesTo ps ps.length
theorem spar_rows (k : Int) (f : UInt8 → Int) (s : Int) (c : UInt8) : ∀ (cs : List UInt8) (l : List Rw), Met.spar (l ++ cs.map fun c => ⟨k, c, f c⟩) s c = if k = s ∧ c ∈ cs then f c else Met.spar l s c
  | [], l => by simp
  | x :: cs, l => by
    have e : l ++ (x :: cs).map (fun c => (⟨k, c, f c⟩ : Rw)) = (l ++ [⟨k, x, f x⟩]) ++ cs.map fun c => ⟨k, c, f c⟩ := by simp
    rw [e, spar_rows k f s c cs, Met.spar_snoc]
    by_cases h1 : k = s
    · by_cases h2 : c ∈ cs
      · simp [h1, h2]
      · by_cases h3 : x = c
        · subst h3; simp [h1]
        · have : ¬ c = x := fun e => h3 e.symm
          simp [h1, h2, h3, this]
    · simp [h1]
theorem spar_to {ps : List Tx} (s : Int) (c : UInt8) : ∀ k, k ≤ ps.length → Met.spar (edgesTo ps k) s c = if 0 ≤ s ∧ s < (k : Int) then stepOf ps s c else -1
  | 0, _ => by
    rw [if_neg (by omega)]; rfl
  | k + 1, h => by
    rw [edgesTo, rowsOf, spar_rows, spar_to s c k (by omega)]
    by_cases e : (k : Int) = s
    · subst e
      rw [if_pos (show 0 ≤ (k : Int) ∧ (k : Int) < ((k + 1 : Nat) : Int) by omega), if_neg (by omega : ¬ (0 ≤ (k : Int) ∧ (k : Int) < (k : Int)))]
      by_cases hc : c ∈ kidsOf ps (k : Int)
      · rw [if_pos ⟨rfl, hc⟩]
      · rw [if_neg (fun q => hc q.2)]
        have h1 : ¬ (0 ≤ stepOf ps (k : Int) c) := fun q => hc ((mem_kidsTo _ c).2 (by simpa using q))
        have h2 := stepOf_ge ps (k : Int) c
        omega
    · rw [if_neg (fun q => e q.1)]
      by_cases h2 : 0 ≤ s ∧ s < (k : Int)
      · rw [if_pos h2, if_pos (by omega)]
      · rw [if_neg h2, if_neg (by omega)]
theorem spar_edges (ps : List Tx) (s : Int) (c : UInt8) : Met.spar (edges ps) s c = stepOf ps s c := by
  rw [edges, spar_to s c _ (Nat.le_refl _)]
  by_cases h : 0 ≤ s ∧ s < (ps.length : Int)
  · rw [if_pos h]
  · rw [if_neg h, stepOf, pathOf_none h]
theorem kidsOf_len (ps : List Tx) (n : Int) : (kidsOf ps n).length ≤ 256 := kidsTo_len _ 256
theorem edgesTo_len (ps : List Tx) : ∀ k, (edgesTo ps k).length ≤ k * 256
  | 0 => by simp [edgesTo]
  | k + 1 => by
    have := edgesTo_len ps k
    have h2 := kidsOf_len ps (k : Int)
    rw [edgesTo, List.length_append, rowsOf, List.length_map]; omega
theorem edges_len (ps : List Tx) (h : ps.length ≤ 3900) : (edges ps).length ≤ 1000000 := by
  have := edgesTo_len ps ps.length
  unfold edges; omega
theorem edges_wf (ps : List Tx) (h : ps.length ≤ 3900) : ∀ k, k ≤ ps.length → Met.WfR (edgesTo ps k)
  | 0, _ => fun r hr => by cases hr
  | k + 1, hk => fun r hr => by
    rw [edgesTo] at hr
    rcases List.mem_append.1 hr with hr | hr
    · exact edges_wf ps h k (by omega) r hr
    · obtain ⟨c, _, rfl⟩ := List.mem_map.1 hr
      have h1 := stepOf_ge ps (k : Int) c
      have h2 := stepOf_lt ps (k : Int) c
      exact ⟨wf_nat (show -1 ≤ (k : Int) by omega) (show (k : Int) ≤ 1000000000000 by omega), wf_nat h1 (show stepOf ps (k : Int) c ≤ 1000000000000 by omega)⟩
theorem rows_snoc (ps : List Tx) (k q : Nat) (h : q < (kidsOf ps (k : Int)).length) : (rowsOf ps k).take (q + 1) = (rowsOf ps k).take q ++ [⟨(k : Int), (kidsOf ps (k : Int))[q], stepOf ps (k : Int) (kidsOf ps (k : Int))[q]⟩] := by
  have h2 : q < (rowsOf ps k).length := by rw [rowsOf, List.length_map]; exact h
  rw [List.take_succ_eq_append_getElem h2]
  simp [rowsOf]
theorem rows_all (ps : List Tx) (k : Nat) : (rowsOf ps k).take (kidsOf ps (k : Int)).length = rowsOf ps k := List.take_of_length_le (by rw [rowsOf, List.length_map]; exact Nat.le_refl _)
theorem rows_take_len (ps : List Tx) (k q : Nat) : ((rowsOf ps k).take q).length ≤ 256 := by
  have := kidsOf_len ps (k : Int)
  rw [List.length_take, rowsOf, List.length_map]; omega
/-! Rows in memory. -/
theorem info91 : (Try.prog.info? 91).map (fun i => (i.zero, i.size, i.bytes)) = some (some (.agg #[.int .i64 0, .int .u8 0, .int .i64 0]), 3, 24) := by kernel_rfl
theorem rvals_one (l : List Rw) : ∀ v ∈ Met.rvals l, v.oneCell' = true := by
  intro v hv
  obtain ⟨r, _, h⟩ := List.mem_flatMap.1 hv
  simp [Met.rcells] at h
  rcases h with rfl | rfl | rfl <;> rfl
theorem own_rs {W : World} {base n : Nat} {v : Value} {xs : List Rw} (h : W.ownsRow base 91 3 v n (Met.rvals xs)) (hn : n = xs.length) :
    ∃ a cap, v = .slice a xs.length cap ∧ Met.Rs W W.heap.size a xs := by
  subst hn
  rcases h.2 with ⟨rfl, h0⟩ | ⟨g, cap, cur, rfl, hg, hh, hnc, _, hs, htk⟩
  · exact ⟨none, 0, by rw [h0], fun h1 => by omega⟩
  · refine ⟨some ⟨g, 0, none⟩, cap, rfl, fun _ => ⟨g, 0, rfl, txt_lt hh, fun i hi => ?_⟩⟩
    have key : ∀ j, j < 3 → W.cell? ⟨g, 0 + i * 3 + j, none⟩ = (Met.rcells xs[i])[j]? := fun j hj => by
      rw [cell_of_row W g _ _ 91 (0, 0) hh, Nat.zero_add, ← Met.rvals_at xs i j hj hi, ← htk, List.getElem?_take_of_lt (by omega), Array.getElem?_toList]
    exact ⟨key 0 (by omega), key 1 (by omega), key 2 (by omega)⟩
theorem rcell_new (w : World) (r : Rw) : ∀ j u, (Met.rcells r)[j]? = some u → (w.alloc (.cells #[.int .i64 r.s, .int .u8 (r.b.toNat : Int), .int .i64 r.t] 91)).cell? ((⟨w.heap.size, 0, none⟩ : Addr).add j) = some u := by
  intro j u h
  have ea : (⟨w.heap.size, 0, none⟩ : Addr).add j = ⟨w.heap.size, j, none⟩ := by unfold Addr.add; split <;> simp_all
  rw [ea, cell_of_row _ w.heap.size _ _ 91 (0, 0) (heap_alloc_new w _)]
  simpa [Met.rcells] using h
theorem app_rs {w : World} {ops : Array Oper} {rest : List Oper} {o : Oper} {a : Act} {Q : Exit → Act → World → Prop} (hgd : o.guard = none) (s x : Operand)
    (ho : o.op = .call { callee := .builtin .append, args := #[s, x], argTypes := #[61, 61] })
    (base : Nat) (v : Value) (n : Nat) (xs : List Rw) (y : Rw) (hs : a.eval s = v) (hown : w.ownsRow base 91 3 v n (Met.rvals xs))
    (ad : Addr) (hx : a.eval x = .slice (some ad) 1 1) (hc : ∀ j u, (Met.rcells y)[j]? = some u → w.cell? (ad.add j) = some u)
    (hn : n ≤ 1000000000) (hbase : base ≤ w.heap.size)
    (h : ∀ v' w', w'.ownsRow base 91 3 v' (n + 1) (Met.rvals (xs ++ [y])) → w.grownBy w' v.ownBlock → wpList Try.prog ops Q rest (a.put o.dst v') w') : wpList Try.prog ops Q (o :: rest) a w := by
  obtain ⟨i0, hi, hz0, hz1, hz2⟩ := info_parts info91
  rw [Met.rvals_append] at h
  have e1 : Met.rvals [y] = Met.rcells y := by simp [Met.rvals]
  rw [e1] at h
  refine wpList_append_own w hgd s x 61 ho base 91 i0 (.agg #[.int .i64 0, .int .u8 0, .int .i64 0]) 3 24 Try.underlying61 hi hz0 hz1 hz2 rfl (by decide) v n (Met.rvals xs) hs hown ad 1 1 (Met.rcells y) hx (by rfl) hc ?_ (by unfold maxLen; omega) (by omega) hbase (fun v' w' h1 h2 _ => h v' w' h1 h2)
  intro u hu
  exact rvals_one [y] u (by rw [e1]; exact hu)
def GivesRs (w : World) (xs : List Rw) (e : Ending) (w' : World) : Prop := ∃ v, e = .returned v ∧ w'.ownsRow w.heap.size 91 3 v xs.length (Met.rvals xs) ∧ Below w.heap.size w w'
set_option maxHeartbeats 4000000 in
theorem edges_any (w : World) (s t : Nat) (ps l : List Tx) (h : Tr w s t ps l) (hn : ps.length ≤ 3900) : Calls Try.prog 28 #[.pointer (some ⟨t, 0, none⟩)] w (GivesRs w (edges ps)) := by
  have HH := Lib.hid h
  clear h
  have HN : Hid (Calls Try.prog 36 #[.pointer (some ⟨t, 0, none⟩)] w fun e w' => e = .returned (.int .i64 (ps.length : Int)) ∧ w = w') := Lib.hid (nodes_any w s t ps l HH.out)
  go_enter Try.func28, Try.ntmps28
  go_wp2_with (go_at_call 36; (with_reducible refine HN.out.mono ?_); rintro e w2 ⟨rfl, rfl⟩)
  go_loopw [3, 9] (fun v i wr => ∃ k : Nat, k ≤ ps.length ∧ i = .int .i64 (k : Int) ∧ wr.ownsRow w.heap.size 91 3 v (edgesTo ps k).length (Met.rvals (edgesTo ps k)) ∧ Below w.heap.size w wr) (fun _ i _ => ps.length - (intOf i).toNat)
  case atStart => exact ⟨0, by omega, rfl, World.ownsRow_nil _ _ _ _, Below.refl _ _⟩
  case round =>
    obtain ⟨k, hk, rfl, hown, hbel⟩ := hrel
    have hkl := edgesTo_len ps k
    have HO := Lib.hid hown
    have HB := Lib.hid hbel
    clear hown hbel
    by_cases hlt : k < ps.length
    · have hlt2 : (k : Int) < (ps.length : Int) := by omega
      have HK : Hid (Calls Try.prog 42 #[.pointer (some ⟨t, 0, none⟩), .int .i64 (k : Int)] wr (GivesText wr (kidsOf ps (k : Int)))) := Lib.hid (kids_any wr s t ps l (HH.out.keep HB.out) (k : Int) (wf_nat (by omega) (by omega)))
      go_wp2_with (go_at_call 42; (with_reducible refine HK.out.mono ?_); rintro e w2 ⟨a2, cap2, rfl, ht2, hc2, _, hb2⟩)
      have hL := kidsOf_len ps (k : Int)
      have HS : Hid (∀ q (h : q < (kidsOf ps (k : Int)).length), (rowsOf ps k).take (q + 1) = (rowsOf ps k).take q ++ [⟨(k : Int), (kidsOf ps (k : Int))[q], stepOf ps (k : Int) (kidsOf ps (k : Int))[q]⟩]) := Lib.hid (rows_snoc ps k)
      have HA := Lib.hid (rows_all ps k)
      generalize kidsOf ps (k : Int) = cs at *
      have HT2 := Lib.hid ht2
      have HB2 := Lib.hid (HB.out.trans (hb2.mono HB.out.size))
      have HO2 := Lib.hid (own_keep HO.out hb2)
      clear ht2 hb2 hc2
      go_loopw [3, 16] (fun v i wi => ∃ q : Nat, q ≤ cs.length ∧ i = .int .i64 (q : Int) ∧ wi.ownsRow w.heap.size 91 3 v (edgesTo ps k ++ (rowsOf ps k).take q).length (Met.rvals (edgesTo ps k ++ (rowsOf ps k).take q)) ∧ Txt wi 0 a2 cs ∧ Below w.heap.size w wi) (fun _ i _ => cs.length - (intOf i).toNat)
      case atStart => exact ⟨0, by omega, rfl, by simpa using HO2.out, HT2.out.less (by omega), HB2.out⟩
      case round =>
        obtain ⟨q, hq, rfl, ho, ht, hb⟩ := hrel
        have hr := rows_take_len ps k q
        have HO3 := Lib.hid ho
        have HT3 := Lib.hid ht
        have HB3 := Lib.hid hb
        clear ho ht hb
        by_cases hq2 : q < cs.length
        · have hq3 : (q : Int) < (cs.length : Int) := by omega
          have HC : Hid (Calls Try.prog 43 #[.pointer (some ⟨t, 0, none⟩), .int .i64 (k : Int), .int .u8 (cs[q].toNat : Int)] wr fun e w' => e = .returned (.int .i64 (stepOf ps (k : Int) cs[q])) ∧ wr = w') := Lib.hid (step_any wr s t ps l (HH.out.keep HB3.out) (k : Int) (wf_nat (by omega) (by omega)) cs[q])
          obtain ⟨b3, off3, e3, hb3, hc3⟩ := HT3.out.bs (by omega)
          have hcell := hc3 q hq2
          subst e3
          have HN3 := Lib.hid (HS.out q hq2)
          clear hc3
          have hsz := HB3.out.size
          generalize cs[q] = c at *
          generalize stepOf ps (k : Int) c = x at *
          go_wp2_with (first
            | (go_at_call 43; (with_reducible refine HC.out.mono ?_); rintro e w2 ⟨rfl, rfl⟩)
            | (at_builtin; refine app_rs rfl _ _ rfl w.heap.size _ _ (edgesTo ps k ++ (rowsOf ps k).take q) ⟨(k : Int), c, x⟩ rfl (HO3.out.alloc _) ⟨wr.heap.size, 0, none⟩ rfl (rcell_new wr ⟨(k : Int), c, x⟩) (by simp only [List.length_append]; omega) (by simp; omega) ?_; intro v4 w4 hown4 hg4))
          go_roundw
          case rel =>
            refine ⟨q + 1, by omega, by go_num, ?_, ?_, (HB3.out.alloc hsz _).grown hg4 (by simp; omega) (fun j hj => own_ge HO3.out hj)⟩
            · rw [HN3.out, ← List.append_assoc, List.length_append (bs := [_])]
              exact hown4
            · refine txt_grown (HT3.out.keep ((Below.refl _ _).alloc (Nat.le_refl _) _)) hg4 fun r cs' fr e he => ?_
              obtain ⟨_, hlt4, _, hh⟩ := own_block_lt HO3.out e
              rw [Below.heap_alloc _ _ _ hlt4, hh] at he
              simp at he
          case measure => simp [intOf]; omega
        · have hqe : q = cs.length := by omega
          have hq3 : ¬ (q : Int) < (cs.length : Int) := by omega
          have HQ : Hid (edgesTo ps k ++ (rowsOf ps k).take q = edgesTo ps (k + 1)) := Lib.hid (by rw [hqe, HA.out, edgesTo])
          clear hqe
          go_wp2
          go_roundw
          case rel => exact ⟨k + 1, by omega, by go_num, by rw [← HQ.out]; exact HO3.out, HB3.out⟩
          case measure => simp [intOf]; omega
    · have hke : k = ps.length := by omega
      have hk2 : ¬ (k : Int) < (ps.length : Int) := by omega
      have HE : Hid (edgesTo ps k = edges ps) := Lib.hid (by rw [edges, hke])
      clear hke
      go_wp2
      go_ret
      exact ⟨_, rfl, by rw [← HE.out]; exact HO.out, HB.out⟩
end Go.Proofs.Ytkooanahgffjgaa.Spa
