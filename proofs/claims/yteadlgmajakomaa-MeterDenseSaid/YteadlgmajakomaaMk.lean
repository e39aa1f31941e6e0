/- The contracts of Dense, of Look at what it makes, and of the reference's Dense. -/
import Derived.Test.YteadlgmajakomaaMj
namespace Go.Proofs.Yteadlgmajakomaa
open Go.RowKit Go.Maps

/-- A handle on a dense table. -/
def Td (w : World) (t : Nat) (p : Option Addr) (cl : List Int) (wd : Int) (nx : List Int) : Prop :=
  ∃ g1 g2 g3 a cap, Blk2 w t 68 (.pointer p) (.func (.func 25) #[] #[.pointer (some ⟨g1, 0, none⟩), .pointer (some ⟨g2, 0, none⟩), .pointer (some ⟨g3, 0, none⟩)]) ∧ w.heap[g1]? = some (.cells (icells cl) 48 (0, 0)) ∧ w.heap[g2]? = some (.cells #[.int .i64 wd] 3 (0, 0)) ∧
    w.heap[g3]? = some (.cells #[.slice a nx.length cap] 23 (0, 0)) ∧ It w a nx
theorem Td.adds {w w' : World} {t : Nat} {p q : Option Addr} {cl nx : List Int} {wd a b c d : Int} (h : Td w t p cl wd nx) (hg : w.grownBy w' (blk q)) (hM : Mt w q a b c d) : Td w' t p cl wd nx := by
  obtain ⟨g1, g2, g3, a1, cap, h1, h2, h3, h4, h5⟩ := h
  exact ⟨g1, g2, g3, a1, cap, h1.same (hg.block t h1.lt (hM.not h1 (by decide))), (hg.block g1 (txt_lt h2) (hM.not h2 (by decide))).trans h2, (hg.block g2 (txt_lt h3) (hM.not h3 (by decide))).trans h3, (hg.block g3 (txt_lt h4) (hM.not h4 (by decide))).trans h4, h5.adds hg hM⟩
theorem Td.keep {w w' : World} {t : Nat} {p : Option Addr} {cl nx : List Int} {wd : Int} (h : Td w t p cl wd nx) (hb : Below w.heap.size w w') : Td w' t p cl wd nx := by
  obtain ⟨g1, g2, g3, a1, cap, h1, h2, h3, h4, h5⟩ := h
  exact ⟨g1, g2, g3, a1, cap, h1.same (hb.block t h1.lt), (hb.block g1 (txt_lt h2)).trans h2, (hb.block g2 (txt_lt h3)).trans h3, (hb.block g3 (txt_lt h4)).trans h4, h5.keep hb⟩
def GivesTd (w : World) (p : Option Addr) (cl : List Int) (wd : Int) (nx : List Int) (e : Ending) (w' : World) : Prop := ∃ t, e = .returned (.pointer (some ⟨t, 0, none⟩)) ∧ Td w' t p cl wd nx ∧ Below w.heap.size w w'
set_option maxRecDepth 100000 in
set_option maxHeartbeats 1000000 in
theorem dense_any (w : World) (p : Option Addr) (cl : List Int) (wd : Int) (nx : List Int) (a : Option Addr) (cap : Nat) (hn : nx.length ≤ 1000000) (hI : Is w w.heap.size a nx) :
    Calls Try.prog 17 #[.pointer p, .agg (icells cl), .int .i64 wd, .slice a nx.length cap] w (GivesTd w p cl wd nx) := by
  have hmf : ∀ (fn : Fn) (first cap : Array Value) (w : World), (Instr.makeFunc fn first cap).run Try.prog w = .ok (.func fn first cap) w := fun _ _ _ _ => rfl
  have b1 := below_new w (.cells (icells cl) 48)
  have b2 := below_new (w.alloc (.cells (icells cl) 48)) (.cells #[.int .i64 wd] 3)
  have b12 : Below w.heap.size w ((w.alloc (.cells (icells cl) 48)).alloc (.cells #[.int .i64 wd] 3)) := b1.trans (b2.mono (by simp))
  have C := Lib.hid (iclone_any nx a cap ((w.alloc (.cells (icells cl) 48)).alloc (.cells #[.int .i64 wd] 3)) hn (fun h0 => by obtain ⟨b, off, e, hlt, hc⟩ := hI.keep b12 h0; exact ⟨b, off, e, by simp; omega, hc⟩))
  have D1 := Lib.hid (heap_alloc2_old w (.cells (icells cl) 48) (.cells #[.int .i64 wd] 3))
  have D2 := Lib.hid (heap_alloc2_new w (.cells (icells cl) 48) (.cells #[.int .i64 wd] 3))
  have D3 := Lib.hid b12
  clear hI b1 b2 b12
  go_enter Try.func17, Try.ntmps17
  go_wp2_with (go_at_call 24; (with_reducible refine C.out.mono ?_); rintro e w1 ⟨a1, cap1, rfl, ht, hb1⟩; have HT := Lib.hid ht; have HB := Lib.hid hb1; clear ht hb1)
  go_ret
  have hs := HB.out.size
  simp only [World.size_alloc] at hs
  have n1 := below_new w1 (.cells #[.slice a1 nx.length cap1] 23)
  have n2 := below_new (w1.alloc (.cells #[.slice a1 nx.length cap1] 23)) (.cells #[.pointer p, .func (.func 25) #[] #[.pointer (some ⟨w.heap.size, 0, none⟩), .pointer (some ⟨w.heap.size + 1, 0, none⟩), .pointer (some ⟨w1.heap.size, 0, none⟩)]] 68)
  have n12 := n1.trans (n2.mono (by simp))
  refine ⟨_, rfl, ⟨w.heap.size, w.heap.size + 1, w1.heap.size, a1, cap1, ?_, ?_, ?_, ?_, HT.out.keep n12⟩, ?_⟩
  · exact (heap_alloc2_new w1 _ _)
  · rw [n12.block _ (by omega), HB.out.block _ (by simp only [World.size_alloc]; omega)]
    exact D1.out
  · rw [n12.block _ (by omega), HB.out.block _ (by simp only [World.size_alloc]; omega)]
    exact D2.out
  · exact heap_alloc2_old w1 _ _
  · exact (D3.out.trans (HB.out.mono (by simp; omega))).trans (n12.mono (by omega))
set_option maxHeartbeats 1000000 in
theorem lookd_some (w : World) (t : Nat) (p : Option Addr) (cl : List Int) (wd : Int) (nx : List Int) (hn : nx.length ≤ 1000000) (h : Td w t p cl wd nx) (s : Int) (c : UInt8) (k : Int) (hk : cl[c.toNat]? = some k) (a b e d : Int) (hM : Mt w p a b e d) (ha : 0 ≤ a ∧ a ≤ 1000000000000) (hb : 0 ≤ b ∧ b ≤ 1000000000000) (hc : 0 ≤ e ∧ e ≤ 1000000000000) (hd : 0 ≤ d ∧ d ≤ 1000000000000) :
    Calls Try.prog 15 #[.pointer (some ⟨t, 0, none⟩), .int .i64 s, .int .u8 (c.toNat : Int)] w (Adds w p a (b + 1) e d (.int .i64 (dk k wd nx s))) := by
  have C := Lib.hid (add_look w p a b e d hM ha hb hc hd)
  have HM := Lib.hid hM
  have HK : Hid ((icells cl)[c.toNat]? = some (.int .i64 k)) := Lib.hid (by simp [icells, ivals, hk])
  obtain ⟨g1, g2, g3, a1, cap, h1, h2, h3, h4, h5⟩ := h
  obtain ⟨c0, c1⟩ := h1.cells
  have H2 := Lib.hid h2
  have H3 := Lib.hid h3
  have H4 := Lib.hid h4
  have H5 := Lib.hid h5
  have hf := eql_nilfunc
  clear hM h2 h3 h4 h5 hk
  go_enter Try.func15, Try.ntmps15
  go_wp2_with (first
    | (go_at_call 22; (with_reducible refine C.out.mono ?_); rintro e w1 ⟨rfl, hM1, hg1⟩; have k1 := h1.same (hg1.block t h1.lt (HM.out.not h1 (by decide))); have L := Lib.hid (dense_look w1 s c g1 g2 g3 _ wd nx a1 cap w1.heap.size hn ((cell_of_row w1 g1 _ _ 48 (0, 0) ((hg1.block g1 (txt_lt H2.out) (HM.out.not H2.out (by decide))).trans H2.out)).trans HK.out) (cell_one ((hg1.block g2 (txt_lt H3.out) (HM.out.not H3.out (by decide))).trans H3.out)) (cell_one ((hg1.block g3 (txt_lt H4.out) (HM.out.not H4.out (by decide))).trans H4.out)) (H5.out.adds hg1 HM.out).is); obtain ⟨e0, e1⟩ := k1.cells; clear k1 c0 c1; have HM1 := Lib.hid hM1; have HG1 := Lib.hid hg1; clear hM1 hg1)
    | (go_at_call 25; (with_reducible refine L.out.mono ?_); rintro e w2 ⟨rfl, rfl⟩))
  go_ret
  exact ⟨rfl, HM1.out, HG1.out⟩
/-- How far the reference's loop came. -/
theorem step_mul (m : Nat) (wd : Int) : ((m + 1 : Nat) : Int) * wd = (m : Int) * wd + wd := by
  rw [show ((m + 1 : Nat) : Int) = (m : Int) + 1 by omega, Int.add_mul, Int.one_mul]
theorem beyond (m : Nat) (s wd n : Int) (h0 : 0 < wd) (hm : (m : Int) ≤ s) (h : n ≤ (m : Int) * wd) : n ≤ s * wd := by
  have := Int.mul_le_mul_of_nonneg_right hm (show 0 ≤ wd by omega)
  omega
theorem wide (s wd n : Int) (h1 : 1 ≤ s) (h0 : 0 < wd) (h : n < wd) : n ≤ s * wd := by
  have := Int.mul_le_mul_of_nonneg_right h1 (show 0 ≤ wd by omega)
  omega
set_option maxRecDepth 100000 in
set_option maxHeartbeats 2000000 in
theorem rdense_any (w : World) (cl : List Int) (ac : Option Addr) (cc : Nat) (Bc : Nat) (hC : Is w Bc ac cl) (wd : Int) (nx : List Int) (hn : nx.length ≤ 1000000) (an : Option Addr) (cn Bn : Nat) (hN : Is w Bn an nx) (s : Int) (c : UInt8) (k : Int) (hc : c.toNat < cl.length) (hk : cl[c.toNat] = k) :
    Calls Try.prog 18 #[.slice ac cl.length cc, .int .i64 wd, .slice an nx.length cn, .int .i64 s, .int .u8 (c.toNat : Int)] w fun e w' => e = .returned (.int .i64 (dk k wd nx s)) ∧ w = w' := by
  have hc' : (c.toNat : Int) < (cl.length : Int) := by omega
  obtain ⟨bc, oc, rfl, _, hcs⟩ := hC (by omega)
  have h1 := hcs c.toNat hc
  rw [hk] at h1
  have HN := Lib.hid hN
  clear hN hcs hC hk
  by_cases q1 : s < 0
  · have HD := Lib.hid (dk_out k wd nx s (Or.inl q1))
    go_enter Try.func18, Try.ntmps18
    go_wp2
    go_ret
    exact ⟨ret_int HD.out.symm, rfl⟩
  have q1' : 0 ≤ s := by omega
  by_cases q2 : k < 0
  · have HD := Lib.hid (dk_out k wd nx s (Or.inr (Or.inl q2)))
    go_enter Try.func18, Try.ntmps18
    go_wp2
    go_ret
    exact ⟨ret_int HD.out.symm, rfl⟩
  have q2' : 0 ≤ k := by omega
  by_cases q3 : wd ≤ k
  · have HD := Lib.hid (dk_out k wd nx s (Or.inr (Or.inr q3)))
    go_enter Try.func18, Try.ntmps18
    go_wp2
    go_ret
    exact ⟨ret_int HD.out.symm, rfl⟩
  have q3' : k < wd := by omega
  have q4 : 0 < wd := by omega
  have d1 : decide (s < 0) = false := by simpa using q1'
  have d2 : decide (k < 0) = false := by simpa using q2'
  have d3 : decide (wd ≤ k) = false := by simpa using q3'
  clear q1 q2 q3
  have HF := Lib.hid (dk_far k wd nx s)
  have HIN : Hid (∀ (i : Nat) (hi : i < nx.length), s * wd + k = i → dk k wd nx s = nx[i]) := Lib.hid (fun i hi e => dk_in k wd nx s q1' q2' q3' i hi e)
  go_enter Try.func18, Try.ntmps18
  go_wp2
  go_loop [11, 12] (fun x i => ∃ (m : Nat) (A : Int), (m : Int) ≤ s ∧ i = .int .i64 m ∧ x = .int .i64 A ∧ A = (m : Int) * wd ∧ 0 ≤ A ∧ A ≤ 2 * nx.length ∧ (m : Int) ≤ A) (fun x _ => 2 * nx.length + 1 - (intOf x).toNat)
  case atStart => exact ⟨0, 0, by omega, rfl, rfl, by simp, by omega, by omega, by omega⟩
  case round =>
    obtain ⟨m, A, hm, rfl, rfl, hA, hA0, hA1, hA2⟩ := hrel
    have HA := Lib.hid hA
    clear hA
    by_cases t1 : (m : Int) < s
    · by_cases t2 : A < nx.length
      · by_cases t3 : (nx.length : Int) < wd
        · have HD := Lib.hid (HF.out (by have := wide s wd nx.length (by omega) q4 t3; omega))
          go_wp2
          go_ret
          exact ⟨ret_int HD.out.symm, rfl⟩
        · go_wp2
          go_round
          case rel => exact ⟨m + 1, A + wd, by omega, by go_num, rfl, by rw [step_mul, HA.out], by omega, by omega, by omega⟩
          case measure => simp [intOf]; omega
      · have HD := Lib.hid (HF.out (by have := beyond m s wd nx.length q4 hm (by have := HA.out; omega); omega))
        have t4 : (nx.length : Int) - A ≤ k := by omega
        go_wp2
        go_ret
        exact ⟨ret_int HD.out.symm, rfl⟩
    · have hms : (m : Int) = s := by omega
      have HS : Hid (A = s * wd) := Lib.hid (by rw [← hms]; exact HA.out)
      clear hms
      by_cases t4 : (nx.length : Int) - A ≤ k
      · have HD := Lib.hid (HF.out (by have := HS.out; omega))
        go_wp2
        go_ret
        exact ⟨ret_int HD.out.symm, rfl⟩
      · obtain ⟨i, hi⟩ : ∃ i : Nat, A + k = i := ⟨(A + k).toNat, by omega⟩
        have hil : i < nx.length := by omega
        have HD := Lib.hid (HIN.out i hil (by rw [← HS.out]; exact hi))
        obtain ⟨bb, off, rfl, _, hcs⟩ := HN.out (by omega)
        have hcell := hcs i hil
        have hil' : (i : Int) < (nx.length : Int) := by omega
        have t5 : k < (nx.length : Int) - A := by omega
        have hk0 : k ≤ 1000000 := by omega
        clear hcs t4
        go_wp2
        go_ret
        exact ⟨ret_int HD.out.symm, rfl⟩
end Go.Proofs.Yteadlgmajakomaa
