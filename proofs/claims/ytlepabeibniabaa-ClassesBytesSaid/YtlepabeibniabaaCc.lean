/- The contract of the bytes that stand in texts. -/
import Derived.Test.YtlepabeibniabaaCb
import Derived.Test.YtlepabeibniabaaTBase
namespace Go.Proofs.Ytlepabeibniabaa.Cls
open Go.RowKit Go.Maps Go.Proofs.Ytlepabeibniabaa.Reg
set_option maxRecDepth 100000

/-- The set of the bytes of texts. -/
def setT (l : List Tx) : Nat := setOf l.flatten
theorem setOf_append (a b : Tx) : setOf (a ++ b) = setOf a ||| setOf b := by
  apply Nat.eq_of_testBit_eq
  intro i
  rw [Nat.testBit_or, setOf_bit, setOf_bit, setOf_bit, List.any_append]
theorem setT_nil : setT [] = 0 := rfl
theorem setT_snoc (l : List Tx) (t : Tx) : setT (l ++ [t]) = setT l ||| setOf t := by
  simp only [setT, List.flatten_append, List.flatten_cons, List.flatten_nil, List.append_nil]
  exact setOf_append _ _
theorem setT_lt (l : List Tx) : setT l < 2 ^ 256 := setOf_lt _
theorem setT_bit (l : List Tx) (c : UInt8) : (setT l).testBit c.toNat = stands l c := by
  rw [setT, setOf_bit, stands_flat, Bool.eq_iff_iff, List.any_eq_true, List.contains_iff_mem]
  constructor
  · rintro ⟨x, hx, e⟩
    have e2 : x.toNat = c.toNat := by simpa using e
    rw [← UInt8.toNat_inj.1 e2]; exact hx
  · intro h
    exact ⟨c, h, by simp⟩
def every : Nat := 2 ^ 256 - 1
theorem every_lt : every < 2 ^ 256 := by decide
theorem every_bit (k : Nat) : every.testBit k = decide (k < 256) := Nat.testBit_two_pow_sub_one 256 k
theorem or_every (N : Nat) (h : N < 2 ^ 256) : every ||| N = every := by
  apply Nat.eq_of_testBit_eq
  intro i
  rw [Nat.testBit_or, every_bit]
  by_cases hi : i < 256
  · simp [hi]
  · rw [Nat.testBit_lt_two_pow (Nat.lt_of_lt_of_le h (Nat.pow_le_pow_right (by decide) (by omega)))]
    simp
theorem setT_full (l : List Tx) (k : Nat) (h : setT (l.take k) = every) : setT l = every := by
  have e : setT l = setT (l.take k) ||| setT (l.drop k) := by
    unfold setT
    rw [← setOf_append, ← List.flatten_append, List.take_append_drop]
  rw [e, h, or_every _ (setT_lt _)]
theorem every_wd (i : Nat) (h : i < 4) : wd every i = 18446744073709551615 := by
  match i, h with
  | 0, _ => decide
  | 1, _ => decide
  | 2, _ => decide
  | 3, _ => decide
theorem list_up (l : List Tx) : listTo (setT l) 256 = upTo (stands l) 256 := by
  have key : ∀ k, k ≤ 256 → listTo (setT l) k = upTo (stands l) k := by
    intro k
    induction k with
    | zero => intro _; rfl
    | succ k ih =>
      intro hk
      have hb := setT_bit l (UInt8.ofNat k)
      rw [ofNat_u8 k (by omega)] at hb
      rw [upTo_succ]
      cases hq : stands l (UInt8.ofNat k) with
      | true => rw [listTo_yes _ _ (by rw [hb, hq]), ih (by omega)]; rfl
      | false => rw [listTo_no _ _ (by rw [hb, hq]), ih (by omega)]; rfl
  exact key 256 (Nat.le_refl _)
set_option maxHeartbeats 4000000 in
theorem standing_any (xs : List TxV) (a : Option Addr) (cap : Nat) (w : World) (hts : Ts w a xs) (hl : xs.length ≤ 6000000000000) (hm : ∀ x ∈ xs, x.text.length ≤ 1000000000000) :
    Calls Try.prog 17 #[.slice a xs.length cap] w fun e w' => e = .returned (setV (setT (xs.map TxV.text))) ∧ Below w.heap.size w w' := by
  have HT := Lib.hid hts
  have HM := Lib.hid hm
  clear hts hm
  go_enter Try.func17, Try.ntmps17
  go_wp2
  go_loopw [10] (fun i wr => ∃ k : Nat, k ≤ xs.length ∧ i = .int .i64 (k : Int) ∧ Blk4 wr w.heap.size 0 ∧ Blk4 wr (w.heap.size + 1) every ∧ Blk4 wr (w.heap.size + 1 + 1) (setT ((xs.map TxV.text).take k)) ∧ Below w.heap.size w wr)
    (fun i _ => xs.length - (intOf i).toNat)
  case atStart =>
    refine ⟨0, Nat.zero_le _, rfl, ?_, ?_, ?_, ?_⟩
    · unfold Blk4
      rw [heap_alloc_old _ _ (by simp; omega), heap_alloc2_old]
      rfl
    · unfold Blk4
      rw [heap_alloc_old _ _ (by simp), heap_alloc2_new, every_wd 0 (by decide), every_wd 1 (by decide), every_wd 2 (by decide), every_wd 3 (by decide)]
      rfl
    · rw [List.take_zero, setT_nil]
      have h := heap_alloc2_new (w.alloc (.cells #[.int .u64 0, .int .u64 0, .int .u64 0, .int .u64 0] 43)) (.cells #[.int .u64 18446744073709551615, .int .u64 18446744073709551615, .int .u64 18446744073709551615, .int .u64 18446744073709551615] 43) (.cells #[.int .u64 0, .int .u64 0, .int .u64 0, .int .u64 0] 43)
      rw [World.size_alloc] at h
      exact h
    · exact (((Below.refl _ _).alloc (Nat.le_refl _) _).alloc (by simp) _).alloc (by simp; omega) _
  case round =>
    obtain ⟨k, hk, rfl, hr, hev, hs, hbel⟩ := hrel
    obtain ⟨N, hN⟩ : ∃ N, N = setT ((xs.map TxV.text).take k) := ⟨_, rfl⟩
    rw [← hN] at hs
    have HN := Lib.hid hN
    have HR := Lib.hid hr
    have HE := Lib.hid hev
    have HS := Lib.hid hs
    have HBL := Lib.hid hbel
    obtain ⟨b0, b1, b2, b3⟩ := hs.cells
    clear hr hev hN
    by_cases hlt : k < xs.length
    · obtain ⟨⟨b, off, rfl, hbl, hc⟩, hbs⟩ : (∃ b off, a = some ⟨b, off, none⟩ ∧ b < w.heap.size ∧ ∀ i (h : i < xs.length), w.cell? ⟨b, off + i, none⟩ = some (.slice xs[i].a xs[i].text.length xs[i].cap)) ∧ Bs w w.heap.size xs[k].a xs[k].text :=
        ⟨HT.out.1 (by omega), HT.out.2 _ (List.getElem_mem hlt)⟩
      have hck : wr.cell? ⟨b, off + k, none⟩ = some (.slice xs[k].a xs[k].text.length xs[k].cap) := (hbel.cell (p := ⟨b, off + k, none⟩) hbl).trans (hc k hlt)
      have hkl : (k : Int) < (xs.length : Int) := by omega
      have HBS : Hid (Bs wr.drew wr.drew.heap.size xs[k].a xs[k].text) := Lib.hid ((hbs.keep hbel).more hbel.size)
      have HXM := Lib.hid (HM.out _ (List.getElem_mem hlt))
      have HSN : Hid (setT ((xs.map TxV.text).take (k + 1)) = N ||| setOf xs[k].text) := Lib.hid (by
        rw [HN.out, List.take_succ_eq_append_getElem (by simpa using hlt), setT_snoc]; simp)
      have HB0 := Lib.hid (below_drews HBL.out 1)
      change Hid (Below _ _ wr.drew) at HB0
      have HR0 : Hid (Blk4 wr.drew w.heap.size 0) := Lib.hid HR.out
      have HE0 : Hid (Blk4 wr.drew (w.heap.size + 1) every) := Lib.hid HE.out
      have HS0 : Hid (Blk4 wr.drew (w.heap.size + 1 + 1) N) := Lib.hid HS.out
      have HU : Hid (∀ x1, Calls Try.prog 22 #[.agg #[.int .u64 (wd N 0), .int .u64 (wd N 1), .int .u64 (wd N 2), .int .u64 (wd N 3)], setV (setOf xs[k].text)] x1 fun e w' => e = .returned (setV (N ||| setOf xs[k].text)) ∧ Below x1.heap.size x1 w') := Lib.hid (fun x1 => union_any N (setOf xs[k].text) x1)
      clear hc hbs hs hbel HR HE HS HBL
      go_wp2
      go_region_with (first
        | (go_at_call 23; (with_reducible refine (of_any xs[k].text xs[k].a xs[k].cap _ HXM.out HBS.out).mono ?_); rintro e x1 ⟨rfl, hb1⟩; have HS1 := Lib.hid (HS0.out.keep hb1 HS0.out.lt); have HB1 := Lib.hid hb1; clear hb1; obtain ⟨c0, c1, c2, c3⟩ := HS1.out.cells)
        | (go_at_call 22; (with_reducible refine (HU.out _).mono ?_); rintro e x2 ⟨rfl, hb2⟩; have HS2 := Lib.hid (HS1.out.keep hb2 HS1.out.lt); have HB2 := Lib.hid (HB1.out.trans (hb2.mono HB1.out.size)); clear hb2; rw [setV_eq (N ||| setOf xs[k].text)]; obtain ⟨f0, f1, f2, f3⟩ := HS2.out.free; obtain ⟨d0, d1, d2, d3⟩ := HS2.out.cells))
      all_goals
        have s0 := HB0.out.size
        have R1 := (HR0.out.keep HB2.out HR0.out.lt).far (g' := w.heap.size + 1 + 1) (by omega) (N ||| setOf xs[k].text)
        have R2 := (HE0.out.keep HB2.out HE0.out.lt).far (g' := w.heap.size + 1 + 1) (by omega) (N ||| setOf xs[k].text)
        have R3 := HS2.out.put (N ||| setOf xs[k].text)
        have R4 := below_put4 (g := w.heap.size + 1 + 1) (HB0.out.trans (HB2.out.mono s0)) (by omega) (N ||| setOf xs[k].text)
        change Exit.then _ _ _ _ (put4 x2 (w.heap.size + 1 + 1) (N ||| setOf xs[k].text))
        generalize put4 x2 (w.heap.size + 1 + 1) (N ||| setOf xs[k].text) = W at *
        have HML : Hid (N ||| setOf xs[k].text < 2 ^ 256) := Lib.hid (by rw [← HSN.out]; exact setT_lt _)
        clear HS1 HB1 HS2 HB2 f0 f1 f2 f3 d0 d1 d2 d3 HR0 HE0 HS0 HB0 HU x2
        generalize hMM : N ||| setOf xs[k].text = M at *
        clear hMM
        obtain ⟨e0, e1, e2, e3⟩ := R2.cells
        obtain ⟨m0, m1, m2, m3⟩ := R3.cells
        have hq := equal_sets HML.out every_lt W 9998
        rw [show 9998 + 2 = 10000 from rfl, setV_eq, setV_eq] at hq
        have H1 := Lib.hid R1
        have H2 := Lib.hid R2
        have H3 := Lib.hid R3
        have H4 := Lib.hid R4
        clear R1 R2 R3 R4
        by_cases hx : M = every
        · have hb : (M == every) = true := by simp [hx]
          have HX := Lib.hid hx
          obtain ⟨f0, f1, f2, f3⟩ := H1.out.free
          obtain ⟨d0, d1, d2, d3⟩ := H1.out.cells
          clear hx
          go_wp2
          refine bodyPost_ret (v := setV M) ?_ rfl ⟨?_, below_put4 H4.out (Nat.le_refl _) M⟩
          · obtain ⟨g0, g1, g2, g3⟩ := (H1.out.put M).cells
            unfold put4 at g0 g1 g2 g3
            simp [results, Try.results17, go_sem, setV, g0, g1, g2, g3]
          · rw [setT_full (xs.map TxV.text) (k + 1) (by rw [HSN.out, HX.out]), HX.out]
        · have hb : (M == every) = false := by simp [hx]
          clear hx
          go_wp2
          go_roundw
          case rel => exact ⟨k + 1, by omega, by go_num, H1.out, H2.out, by rw [HSN.out]; exact H3.out, H4.out⟩
          case measure => simp [intOf]; omega
    · obtain ⟨f0, f1, f2, f3⟩ := HR.out.free
      obtain ⟨d0, d1, d2, d3⟩ := HR.out.cells
      go_wp2
      refine bodyPost_ret (v := setV N) ?_ rfl ⟨?_, below_put4 HBL.out (Nat.le_refl _) N⟩
      · obtain ⟨g0, g1, g2, g3⟩ := (HR.out.put N).cells
        unfold put4 at g0 g1 g2 g3
        simp [results, Try.results17, go_sem, setV, g0, g1, g2, g3]
      · rw [HN.out, List.take_of_length_le (by simp; omega)]
end Go.Proofs.Ytlepabeibniabaa.Cls
