/- Numbers in blocks of the call's own; how a dense table looks. -/
import Derived.Test.YteadlgmajakomaaMi
import Derived.Deep.WholeRow
namespace Go.Proofs.Yteadlgmajakomaa
open Go.RowKit Go.Maps

/-- What a dense table tells, by the class of a byte. -/
def dk (k wd : Int) (nx : List Int) (s : Int) : Int := if s < 0 ∨ k < 0 ∨ wd ≤ k then -1 else nx.getD (s * wd + k).toNat (-1)
theorem dk_out (k wd : Int) (nx : List Int) (s : Int) (h : s < 0 ∨ k < 0 ∨ wd ≤ k) : dk k wd nx s = -1 := if_pos h
theorem dk_far (k wd : Int) (nx : List Int) (s : Int) (h : (nx.length : Int) ≤ s * wd + k) : dk k wd nx s = -1 := by
  unfold dk
  split
  · rfl
  · rw [List.getD_eq_getElem?_getD, List.getElem?_eq_none (by omega)]; rfl
theorem dk_in (k wd : Int) (nx : List Int) (s : Int) (h1 : 0 ≤ s) (h2 : 0 ≤ k) (h3 : k < wd) (i : Nat) (hi : i < nx.length) (e : s * wd + k = i) : dk k wd nx s = nx[i] := by
  unfold dk
  rw [if_neg (by omega), e, List.getD_eq_getElem?_getD]
  simp [hi]
/-- Far states: the product is never made. -/
theorem far_state (s wd n : Int) (hw : 0 < wd) (h : n / wd < s) : n ≤ s * wd := by
  have h1 : n / wd + 1 ≤ s := h
  have h2 : (n / wd + 1) * wd ≤ s * wd := Int.mul_le_mul_of_nonneg_right h1 (by omega)
  have h3 := Int.lt_mul_of_ediv_lt hw (Int.lt_succ (n / wd))
  omega
theorem near_state (s wd n : Int) (hw : 0 < wd) (hs : 0 ≤ s) (h : s ≤ n / wd) : 0 ≤ s * wd ∧ s * wd ≤ n := by
  refine ⟨Int.mul_nonneg hs (by omega), ?_⟩
  have h2 : s * wd ≤ n / wd * wd := Int.mul_le_mul_of_nonneg_right h (by omega)
  have h3 := Int.ediv_mul_le n (show wd ≠ 0 by omega)
  omega
set_option maxRecDepth 100000 in
set_option maxHeartbeats 2000000 in
theorem dense_look (w : World) (s : Int) (c : UInt8) (g1 g2 g3 : Nat) (k wd : Int) (nx : List Int) (a : Option Addr) (cap B : Nat) (hn : nx.length ≤ 1000000)
    (h1 : w.cell? ⟨g1, c.toNat, none⟩ = some (.int .i64 k)) (h2 : w.cell? ⟨g2, 0, none⟩ = some (.int .i64 wd)) (h3 : w.cell? ⟨g3, 0, none⟩ = some (.slice a nx.length cap)) (hI : Is w B a nx) :
    Calls Try.prog 25 #[.int .i64 s, .int .u8 (c.toNat : Int), .pointer (some ⟨g1, 0, none⟩), .pointer (some ⟨g2, 0, none⟩), .pointer (some ⟨g3, 0, none⟩)] w fun e w' => e = .returned (.int .i64 (dk k wd nx s)) ∧ w = w' := by
  have hc : (c.toNat : Int) < 256 := by have := c.toNat_lt; omega
  have HI := Lib.hid hI
  clear hI
  by_cases q1 : s < 0
  · have HD := Lib.hid (dk_out k wd nx s (Or.inl q1))
    go_enter Try.func25, Try.ntmps25
    go_wp2
    go_ret
    exact ⟨ret_int HD.out.symm, rfl⟩
  have q1' : 0 ≤ s := by omega
  by_cases q2 : k < 0
  · have HD := Lib.hid (dk_out k wd nx s (Or.inr (Or.inl q2)))
    go_enter Try.func25, Try.ntmps25
    go_wp2
    go_ret
    exact ⟨ret_int HD.out.symm, rfl⟩
  have q2' : 0 ≤ k := by omega
  by_cases q3 : wd ≤ k
  · have HD := Lib.hid (dk_out k wd nx s (Or.inr (Or.inr q3)))
    go_enter Try.func25, Try.ntmps25
    go_wp2
    go_ret
    exact ⟨ret_int HD.out.symm, rfl⟩
  have q3' : k < wd := by omega
  have q4 : 0 < wd := by omega
  clear q1 q2 q3
  have hD0 : 0 ≤ (nx.length : Int) / wd := Int.ediv_nonneg (by omega) (by omega)
  have hD1 : (nx.length : Int) / wd ≤ nx.length := Int.ediv_le_self _ (by omega)
  have e1 : wrap64 ((nx.length : Int) / wd) = (nx.length : Int) / wd := IntWalk.wrap64_in _ (by omega)
  have FS := Lib.hid (far_state s wd nx.length q4)
  have NS := Lib.hid (near_state s wd nx.length q4 q1')
  obtain ⟨D, hD⟩ : ∃ D, D = (nx.length : Int) / wd := ⟨_, rfl⟩
  rw [← hD] at hD0 hD1 e1 FS NS
  rw [hD] at e1
  have e1' : wrap64 ((nx.length : Int) / wd) = D := by rw [e1, ← hD]
  clear e1 hD
  by_cases q5 : D < s
  · have HD := Lib.hid (dk_far k wd nx s (by have := FS.out q5; omega))
    go_enter Try.func25, Try.ntmps25
    go_wp2
    go_ret
    exact ⟨ret_int HD.out.symm, rfl⟩
  obtain ⟨n1, n2⟩ := NS.out (by omega)
  have q5' : s ≤ D := by omega
  have e2 : wrap64 (s * wd) = s * wd := IntWalk.wrap64_in _ (by omega)
  have HF := Lib.hid (dk_far k wd nx s)
  have HIN : Hid (∀ (i : Nat) (hi : i < nx.length), s * wd + k = i → dk k wd nx s = nx[i]) := Lib.hid (fun i hi e => dk_in k wd nx s q1' q2' q3' i hi e)
  obtain ⟨M, hM⟩ : ∃ M, M = s * wd := ⟨_, rfl⟩
  rw [← hM] at n1 n2 HF HIN
  have e2' : wrap64 (s * wd) = M := by rw [e2, ← hM]
  clear e2 hM FS NS q5
  by_cases q6 : (nx.length : Int) - M ≤ k
  · have HD := Lib.hid (HF.out (by omega))
    go_enter Try.func25, Try.ntmps25
    go_wp2
    go_ret
    exact ⟨ret_int HD.out.symm, rfl⟩
  obtain ⟨i, hi⟩ : ∃ i : Nat, M + k = i := ⟨(M + k).toNat, by omega⟩
  have hil : i < nx.length := by omega
  have HD := Lib.hid (HIN.out i hil hi)
  obtain ⟨bb, off, rfl, _, hcs⟩ := HI.out (by omega)
  have hcell := hcs i hil
  have hil' : (i : Int) < (nx.length : Int) := by omega
  have q6' : k < (nx.length : Int) - M := by omega
  have hk0 : k ≤ 1000000 := by omega
  clear hcs q6 HF HIN
  go_enter Try.func25, Try.ntmps25
  go_wp2
  go_ret
  exact ⟨ret_int HD.out.symm, rfl⟩
/-- Numbers as cells. -/
def ivals (l : List Int) : List Value := l.map fun x => Value.int .i64 x
def icells (l : List Int) : Array Value := (ivals l).toArray
theorem icells_size (l : List Int) : (icells l).size = l.length := by simp [icells, ivals]
theorem icells_at (l : List Int) (i : Nat) (h : i < l.length) : (icells l)[i]? = some (.int .i64 l[i]) := by simp [icells, ivals, h]
theorem icells_one (l : List Int) : (icells l).all (·.oneCell') = true := by
  rw [Array.all_eq_true_iff_forall_mem]
  intro v hv
  simp only [icells, ivals, List.mem_toArray, List.mem_map] at hv
  obtain ⟨x, _, rfl⟩ := hv
  rfl
theorem icells_set (l : List Int) (i : Nat) (x : Int) : (icells l).setIfInBounds i (.int .i64 x) = icells (l.set i x) := by
  simp [icells, ivals]
theorem ivals_one (l : List Int) : ∀ v ∈ ivals l, v.oneCell' = true := by
  intro v hv
  simp only [ivals, List.mem_map] at hv
  obtain ⟨c, _, rfl⟩ := hv
  rfl
theorem info3 : (Try.prog.info? 3).map (fun i => (i.zero, i.size, i.bytes)) = some (some (.int .i64 0), 1, 8) := by kernel_rfl
theorem und23 : Try.prog.underlying 23 = some (.slice 3) := by kernel_rfl
/-- Numbers that lie in a block of their own. -/
def It (w : World) (a : Option Addr) (l : List Int) : Prop :=
  0 < l.length → ∃ b cs, a = some ⟨b, 0, none⟩ ∧ w.heap[b]? = some (.cells cs 3 (0, 0)) ∧ ∀ i (h : i < l.length), cs[i]? = some (.int .i64 l[i])
theorem It.is {w : World} {a : Option Addr} {l : List Int} (h : It w a l) : Is w w.heap.size a l := fun h0 => by
  obtain ⟨b, cs, rfl, hh, hc⟩ := h h0
  refine ⟨b, 0, rfl, txt_lt hh, fun i hi => ?_⟩
  rw [Nat.zero_add, cell_of_row w b _ _ 3 (0, 0) hh]
  exact hc i hi
theorem It.keep {w w' : World} {a : Option Addr} {l : List Int} (h : It w a l) (hb : Below w.heap.size w w') : It w' a l := fun h0 => by
  obtain ⟨b, cs, e, hh, hc⟩ := h h0
  exact ⟨b, cs, e, (hb.block b (txt_lt hh)).trans hh, hc⟩
theorem It.adds {w w' : World} {q : Option Addr} {a : Option Addr} {l : List Int} {s t h m : Int} (hi : It w a l) (hg : w.grownBy w' (blk q)) (hM : Mt w q s t h m) : It w' a l := fun h0 => by
  obtain ⟨b, cs, e, hh, hc⟩ := hi h0
  exact ⟨b, cs, e, (hg.block b (txt_lt hh) (hM.not hh (by decide))).trans hh, hc⟩
theorem own_it {w : World} {base n : Nat} {v : Value} {l : List Int} (h : w.ownsRow base 3 1 v n (ivals l)) : ∃ a cap, v = .slice a l.length cap ∧ It w a l := by
  have hn : l.length = n := by have := h.1; simpa [ivals] using this
  rcases h.2 with ⟨rfl, h0⟩ | ⟨g, cap, cur, rfl, hg, hh, hnc, _, hs, ht⟩
  · exact ⟨none, 0, by rw [hn, h0], (fun h1 => by omega)⟩
  · refine ⟨some ⟨g, 0, none⟩, cap, by rw [hn], fun _ => ⟨g, cur, rfl, hh, fun i hi => ?_⟩⟩
    have e : (cur.toList.take (n * 1))[i]? = (ivals l)[i]? := by rw [ht]
    rw [List.getElem?_take_of_lt (by omega)] at e
    rw [← Array.getElem?_toList, e]
    simp [ivals, hi]
theorem eql_nil23 : ∀ (w : World) (a : Option Addr) (n c n' c' : Nat), (binOp .eql 23 (.slice a n c) (.slice none n' c')).run Try.prog w = .ok (.bool a.isNone) w :=
  fun w a n c n' c' => Lib.run_eql_slice_nil w _ _ a n c n' c' und23
def GivesInts (w : World) (l : List Int) (e : Ending) (w' : World) : Prop := ∃ a cap, e = .returned (.slice a l.length cap) ∧ It w' a l ∧ Below w.heap.size w w'
set_option maxHeartbeats 2000000 in
theorem iclone_some (l : List Int) (ad : Addr) (cap : Nat) (w : World) (hl : l.length ≤ 1000000) (hb : Is w w.heap.size (some ad) l) :
    Calls Try.prog 24 #[.slice (some ad) l.length cap] w (GivesInts w l) := by
  obtain ⟨i0, hi, hz0, hz1, hz2⟩ := info_parts info3
  have q23 := eql_nil23
  have HB := Lib.hid hb
  clear hb
  go_enter Try.func24, Try.ntmps24
  go_wp2_with (at_builtin; refine wpList_append_own _ rfl _ _ 23 rfl w.heap.size 3 i0 (.int .i64 0) 1 8 und23 hi hz0 hz1 hz2 rfl (by decide) _ _ _ rfl (World.ownsRow_made w #[] 0 (Nat.le_refl _) (Nat.zero_le _) rfl) ad l.length cap (ivals l) rfl ?qc1 ?qc2 ?qc3 ?qc4 ?qc5 ?qc6 ?_)
  case qc1 => simp [ivals]
  case qc2 =>
    intro j u hj
    have hjn : j < l.length := by have := (List.getElem?_eq_some_iff.1 hj).1; simpa [ivals] using this
    obtain ⟨b, off, e, hlt, hc⟩ := HB.out (by omega)
    cases e
    have ea : (⟨b, off, none⟩ : Addr).add j = ⟨b, off + j, none⟩ := by unfold Addr.add; split <;> simp_all
    rw [ea]
    have hcc := hc j hjn
    refine Lib.cell?_alloc_some _ ?_
    rw [hcc]
    simpa [ivals, hjn] using hj
  case qc3 => intro u hu; obtain ⟨x, _, rfl⟩ := List.mem_map.1 hu; rfl
  case qc4 => unfold maxLen; omega
  case qc5 => omega
  case qc6 => simp
  intro v' w1 hown hgrow hnil
  go_wp2
  go_ret
  obtain ⟨a, c, rfl, ht⟩ := own_it (l := l) (by simpa using hown)
  exact ⟨a, c, rfl, ht, ((Below.refl _ w).alloc (Nat.le_refl _) _).grown hgrow (by simp) (by intro k hk; simp [Value.ownBlock] at hk; omega)⟩
set_option maxHeartbeats 1000000 in
theorem iclone_none (n cap : Nat) (w : World) : Calls Try.prog 24 #[.slice none n cap] w (GivesInts w []) := by
  have q23 := eql_nil23
  go_enter Try.func24, Try.ntmps24
  go_wp2
  go_ret
  exact ⟨none, 0, rfl, (fun h => absurd h (by simp)), Below.refl _ _⟩
theorem iclone_any (l : List Int) (a : Option Addr) (cap : Nat) (w : World) (hl : l.length ≤ 1000000) (hb : Is w w.heap.size a l) :
    Calls Try.prog 24 #[.slice a l.length cap] w (GivesInts w l) := by
  cases a with
  | some ad => exact iclone_some l ad cap w hl hb
  | none =>
    rcases Nat.eq_zero_or_pos l.length with h0 | h0
    · obtain rfl := List.eq_nil_of_length_eq_zero h0
      exact iclone_none _ cap w
    · obtain ⟨b, off, e, _⟩ := hb h0
      cases e
end Go.Proofs.Yteadlgmajakomaa
