/- What package cuts answers: Each. -/
import Derived.Test.YtlpjghhmacobdaaCutA2
namespace Go.Proofs.Ytlpjghhmacobdaa.Cts
open Go.Proofs.Ytlpjghhmacobdaa.Tri Go.Proofs.Ytlpjghhmacobdaa.Lnk Go.Proofs.Ytlpjghhmacobdaa.Reg Go.RowKit Go.Maps
set_option maxRecDepth 100000
set_option linter.unusedVariables false

theorem chunks_nil (n : Nat) : ∀ f : Nat, chunks n f [] = []
  | 0 => rfl
  | f + 1 => by rw [chunks, if_pos rfl]
theorem chunks_fuel {n : Nat} (hn : 1 ≤ n) : ∀ (f g : Nat) (t : Tx), t.length ≤ f → t.length ≤ g → chunks n f t = chunks n g t
  | 0, g, t, hf, _ => by
    obtain rfl := List.eq_nil_of_length_eq_zero (show t.length = 0 by omega)
    rw [chunks_nil, chunks_nil]
  | f + 1, 0, t, _, hg => by
    obtain rfl := List.eq_nil_of_length_eq_zero (show t.length = 0 by omega)
    rw [chunks_nil, chunks_nil]
  | f + 1, g + 1, t, hf, hg => by
    rw [chunks, chunks]
    split
    · rfl
    · rename_i e
      have hp := List.length_pos_iff.2 e
      rw [chunks_fuel hn f g (t.drop n) (by rw [List.length_drop]; omega) (by rw [List.length_drop]; omega)]
theorem chunks_step {n : Nat} (hn : 1 ≤ n) (t : Tx) {f q : Nat} (hf : f < t.length) (hq : q = min (f + n) t.length) :
    chunks n t.length (t.drop f) = (t.drop f).take (q - f) :: chunks n t.length (t.drop q) := by
  have hl : (t.drop f).length = t.length - f := List.length_drop
  rw [chunks_fuel hn t.length (t.length - f - 1 + 1) (t.drop f) (by omega) (by omega), chunks, if_neg (fun e => by rw [e] at hl; simp at hl; omega)]
  have e1 : (t.drop f).take n = (t.drop f).take (q - f) := by
    by_cases h : f + n ≤ t.length
    · congr 1; omega
    · rw [List.take_of_length_le (by omega), List.take_of_length_le (by omega)]
  have e2 : (t.drop f).drop n = t.drop q := by
    rw [List.drop_drop]
    by_cases h : f + n ≤ t.length
    · congr 1; omega
    · rw [List.drop_of_length_le (by omega), List.drop_of_length_le (by omega)]
  rw [e1, e2, chunks_fuel hn _ t.length (t.drop q) (by rw [List.length_drop]; omega) (by rw [List.length_drop]; omega)]
theorem each_small {t : Tx} {n : Int} (h : n < 1) : each t n = chunks t.length t.length t := by
  unfold each
  split
  · rename_i e; rw [e]; rfl
  · rename_i e
    have hp := List.length_pos_iff.2 e
    obtain ⟨k, hk⟩ : ∃ k, t.length = k + 1 := ⟨t.length - 1, by omega⟩
    generalize hm : t.length = m at *
    subst hk
    rw [chunks, if_neg e, List.take_of_length_le (by omega), List.drop_of_length_le (by omega), chunks_nil]
theorem each_more {t : Tx} {n : Nat} (h : ¬ (n : Int) < 1) : each t (n : Int) = chunks n t.length t := by
  unfold each
  split
  · rename_i e; rw [e]; rfl
  · rw [Int.toNat_natCast]
set_option maxHeartbeats 4000000 in
theorem each_any (w : World) (t : Tx) (at_ : Option Addr) (ct : Nat) (ht : Bs w w.heap.size at_ t) (hct : at_ = none → ct = 0) (htl : t.length ≤ 1000000) (n : Int) (hn : (Lit.int .i64 n).wf = true) :
    Calls Try.prog 14 #[.slice at_ t.length ct, .int .i64 n] w (GivesPcs w (each t n)) := by
  have HT := Lib.hid ht
  have hnb : n ≤ 9223372036854775807 := by
    simp [Lit.wf, IntKind.min, IntKind.max, IntKind.bits, IntKind.signed] at hn
    omega
  clear ht
  by_cases hn1 : n < 1
  · have hE := each_small (t := t) hn1
    go_enter Try.func14, Try.ntmps14
    go_wp2_with (first
      | (go_at_call 15; (with_reducible refine (Met.clone_any t _ _ _ (by omega) HT.out).mono ?_); rintro e w1 ⟨a1, c1, rfl, ht1, hc1, hn1, hb1⟩; have HT1 := Lib.hid ht1; have HC1 := Lib.hid hc1; have HN1 := Lib.hid hn1; have HB1 := Lib.hid hb1; clear ht1 hc1 hn1 hb1))
    go_loopw [6, 7] (fun v fr wr => ∃ (f : Nat) (xs : List TxV), f ≤ t.length ∧ (f = 0 ∨ t.length ≤ f ∨ f = t.length) ∧ fr = .int .i64 (f : Int) ∧ wr.ownsRow w1.heap.size 22 1 v xs.length (tvals xs) ∧ xs.length ≤ f ∧ xs.map TxV.text ++ chunks t.length t.length (t.drop f) = chunks t.length t.length t ∧ (∀ x ∈ xs, Pc w.heap.size w1.heap.size wr x) ∧ Below w1.heap.size w1 wr) (fun _ fr _ => t.length - (intOf fr).toNat)
    case atStart => exact ⟨0, [], Nat.zero_le _, Or.inl rfl, rfl, World.ownsRow_nil _ _ _ _, Nat.le_refl _, by simp, by simp, Below.refl _ _⟩
    case round =>
      obtain ⟨f, xs, hf, hfz, rfl, hown, hxl, hxt, hxp, hbel⟩ := hrel
      have HO := Lib.hid hown
      have HX := Lib.hid hxt
      have HP := Lib.hid hxp
      have HB := Lib.hid hbel
      have hsz := hbel.size
      clear hown hxt hxp hbel
      by_cases hlt : f < t.length
      · have hkl : (f : Int) < (t.length : Int) := by omega
        have hN1 : 1 ≤ t.length := by omega
        obtain ⟨q, hq⟩ : ∃ q, q = min (f + t.length) t.length := ⟨_, rfl⟩
        have hst : min ((f : Int) + (t.length : Int)) (t.length : Int) = (q : Int) := by omega
        have hu1 : f ≤ q := by omega
        have hu2 : q ≤ t.length := by omega
        have hu3 : f < q := by omega
        have hu4 : q = 0 ∨ t.length ≤ q ∨ q = t.length := by omega
        have hov : (f : Int) + (t.length : Int) ≤ 9223372036854775807 := by omega
        have HM := Lib.hid (chunks_step hN1 t hlt hq)
        clear hq
        obtain ⟨x, hx1, hx2, hx3, hx4, hx5, hx6⟩ := piece_bs HT1.out HN1.out hu1 hu2
        have HPC : Hid (Calls Try.prog 16 #[.slice a1 (List.length t) c1, .int .i64 (f : Int), .int .i64 (q : Int)] wr fun e w' => e = .returned (.slice x.a x.text.length x.cap) ∧ wr = w') := Lib.hid (by rw [hx1, hx3, hx4]; exact (piece_any wr t a1 c1 HC1.out HN1.out f q hu1 hu2 htl).mono fun _ _ h => ⟨h.1, h.2.symm⟩)
        have HPX : Hid (Pc w.heap.size w1.heap.size wr x) := Lib.hid ⟨by rw [hx4, hx3], hx5.keep HB.out, hx6⟩
        rw [← hx2] at HM
        clear hx1 hx2 hx3 hx4 hx5 hx6
        go_wp2_with (first
          | (go_at_call 16; (with_reducible refine HPC.out.mono ?_); rintro e w' ⟨rfl, rfl⟩)
          | (at_builtin; refine app_ts rfl _ _ rfl w1.heap.size _ _ xs x rfl (HO.out.alloc _) ⟨wr.heap.size, 0, none⟩ rfl (cell_new_at _ _ rfl) (by omega) (by simp; omega) ?_; intro v5 w5 hown5 hg5; have HO5 := Lib.hid hown5; have HB5 := Lib.hid (((Below.refl w1.heap.size wr).alloc hsz _).grown hg5 (by simp; omega) (fun q hq => own_ge HO.out hq)); clear hown5 hg5))
        go_roundw
        case rel => exact ⟨q, xs ++ [x], hu2, hu4, rfl, by rw [List.length_append]; exact HO5.out, by rw [List.length_append]; simp; omega, by rw [← HX.out, HM.out, List.map_append, List.append_assoc]; rfl, fun y hy => by
          rcases List.mem_append.1 hy with hy | hy
          · obtain ⟨q1, q2, q3⟩ := HP.out y hy
            exact ⟨q1, q2.keep HB5.out, q3⟩
          · rw [List.mem_singleton.1 hy]
            obtain ⟨q1, q2, q3⟩ := HPX.out
            exact ⟨q1, q2.keep HB5.out, q3⟩, HB.out.trans HB5.out⟩
        case measure => simp [intOf]; omega
      · obtain rfl : f = t.length := by omega
        rw [List.drop_length, chunks_nil, List.append_nil] at HX
        go_wp2
        go_ret
        obtain ⟨a5, c5, e5, hts, _, _⟩ := own_ts HO.out (fun x hx => ((HP.out x hx).2.1).more hsz)
        exact ⟨xs, a5, c5, by rw [← e5]; rfl, by rw [HX.out], hts, fun x hx => (HP.out x hx).1, fun x hx => (HP.out x hx).2.2, HB1.out.trans (HB.out.mono HB1.out.size)⟩
  · obtain ⟨N, rfl⟩ : ∃ N : Nat, n = (N : Int) := ⟨n.toNat, by omega⟩
    have hE := each_more (t := t) hn1
    go_enter Try.func14, Try.ntmps14
    go_wp2_with (first
      | (go_at_call 15; (with_reducible refine (Met.clone_any t _ _ _ (by omega) HT.out).mono ?_); rintro e w1 ⟨a1, c1, rfl, ht1, hc1, hn1, hb1⟩; have HT1 := Lib.hid ht1; have HC1 := Lib.hid hc1; have HN1 := Lib.hid hn1; have HB1 := Lib.hid hb1; clear ht1 hc1 hn1 hb1))
    go_loopw [6, 7] (fun v fr wr => ∃ (f : Nat) (xs : List TxV), f ≤ t.length ∧ (f = 0 ∨ N ≤ f ∨ f = t.length) ∧ fr = .int .i64 (f : Int) ∧ wr.ownsRow w1.heap.size 22 1 v xs.length (tvals xs) ∧ xs.length ≤ f ∧ xs.map TxV.text ++ chunks N t.length (t.drop f) = chunks N t.length t ∧ (∀ x ∈ xs, Pc w.heap.size w1.heap.size wr x) ∧ Below w1.heap.size w1 wr) (fun _ fr _ => t.length - (intOf fr).toNat)
    case atStart => exact ⟨0, [], Nat.zero_le _, Or.inl rfl, rfl, World.ownsRow_nil _ _ _ _, Nat.le_refl _, by simp, by simp, Below.refl _ _⟩
    case round =>
      obtain ⟨f, xs, hf, hfz, rfl, hown, hxl, hxt, hxp, hbel⟩ := hrel
      have HO := Lib.hid hown
      have HX := Lib.hid hxt
      have HP := Lib.hid hxp
      have HB := Lib.hid hbel
      have hsz := hbel.size
      clear hown hxt hxp hbel
      by_cases hlt : f < t.length
      · have hkl : (f : Int) < (t.length : Int) := by omega
        have hN1 : 1 ≤ N := by omega
        obtain ⟨q, hq⟩ : ∃ q, q = min (f + N) t.length := ⟨_, rfl⟩
        have hst : min ((f : Int) + (N : Int)) (t.length : Int) = (q : Int) := by omega
        have hu1 : f ≤ q := by omega
        have hu2 : q ≤ t.length := by omega
        have hu3 : f < q := by omega
        have hu4 : q = 0 ∨ N ≤ q ∨ q = t.length := by omega
        have hov : (f : Int) + (N : Int) ≤ 9223372036854775807 := by omega
        have HM := Lib.hid (chunks_step hN1 t hlt hq)
        clear hq
        obtain ⟨x, hx1, hx2, hx3, hx4, hx5, hx6⟩ := piece_bs HT1.out HN1.out hu1 hu2
        have HPC : Hid (Calls Try.prog 16 #[.slice a1 (List.length t) c1, .int .i64 (f : Int), .int .i64 (q : Int)] wr fun e w' => e = .returned (.slice x.a x.text.length x.cap) ∧ wr = w') := Lib.hid (by rw [hx1, hx3, hx4]; exact (piece_any wr t a1 c1 HC1.out HN1.out f q hu1 hu2 htl).mono fun _ _ h => ⟨h.1, h.2.symm⟩)
        have HPX : Hid (Pc w.heap.size w1.heap.size wr x) := Lib.hid ⟨by rw [hx4, hx3], hx5.keep HB.out, hx6⟩
        rw [← hx2] at HM
        clear hx1 hx2 hx3 hx4 hx5 hx6
        go_wp2_with (first
          | (go_at_call 16; (with_reducible refine HPC.out.mono ?_); rintro e w' ⟨rfl, rfl⟩)
          | (at_builtin; refine app_ts rfl _ _ rfl w1.heap.size _ _ xs x rfl (HO.out.alloc _) ⟨wr.heap.size, 0, none⟩ rfl (cell_new_at _ _ rfl) (by omega) (by simp; omega) ?_; intro v5 w5 hown5 hg5; have HO5 := Lib.hid hown5; have HB5 := Lib.hid (((Below.refl w1.heap.size wr).alloc hsz _).grown hg5 (by simp; omega) (fun q hq => own_ge HO.out hq)); clear hown5 hg5))
        go_roundw
        case rel => exact ⟨q, xs ++ [x], hu2, hu4, rfl, by rw [List.length_append]; exact HO5.out, by rw [List.length_append]; simp; omega, by rw [← HX.out, HM.out, List.map_append, List.append_assoc]; rfl, fun y hy => by
          rcases List.mem_append.1 hy with hy | hy
          · obtain ⟨q1, q2, q3⟩ := HP.out y hy
            exact ⟨q1, q2.keep HB5.out, q3⟩
          · rw [List.mem_singleton.1 hy]
            obtain ⟨q1, q2, q3⟩ := HPX.out
            exact ⟨q1, q2.keep HB5.out, q3⟩, HB.out.trans HB5.out⟩
        case measure => simp [intOf]; omega
      · obtain rfl : f = t.length := by omega
        rw [List.drop_length, chunks_nil, List.append_nil] at HX
        go_wp2
        go_ret
        obtain ⟨a5, c5, e5, hts, _, _⟩ := own_ts HO.out (fun x hx => ((HP.out x hx).2.1).more hsz)
        exact ⟨xs, a5, c5, by rw [← e5]; rfl, by rw [HX.out], hts, fun x hx => (HP.out x hx).1, fun x hx => (HP.out x hx).2.2, HB1.out.trans (HB.out.mono HB1.out.size)⟩
end Go.Proofs.Ytlpjghhmacobdaa.Cts
