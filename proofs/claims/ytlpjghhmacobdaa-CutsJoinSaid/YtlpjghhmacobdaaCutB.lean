/- The reference of layer 19. -/
import Derived.Test.YtlpjghhmacobdaaCutA
namespace Go.Proofs.Ytlpjghhmacobdaa.Cts
open Go.Proofs.Ytlpjghhmacobdaa.Tri Go.Proofs.Ytlpjghhmacobdaa.Lnk Go.Proofs.Ytlpjghhmacobdaa.Reg Go.RowKit Go.Maps
set_option maxRecDepth 100000
set_option linter.unusedVariables false

set_option maxHeartbeats 4000000 in
theorem rplaces_any (w : World) (n : Int) (hn : (Lit.int .i64 n).wf = true) (l : List Int) (hw : ∀ i ∈ l, (Lit.int .i64 i).wf = true) (a : Option Addr) (c : Nat) (h : Is w w.heap.size a l) (hl : l.length ≤ 1000000) :
    Calls Try.prog 13 #[.int .i64 n, .slice a l.length c] w (GivesInts w (ints (places n.toNat l))) := by
  have HI := Lib.hid h
  have HW := Lib.hid hw
  clear h hw
  by_cases h0 : n < 0
  · obtain ⟨M, hM⟩ : ∃ M, M = n.toNat := ⟨_, rfl⟩
    have hM0 : M = 0 := by omega
    rw [← hM]
    clear hM
    subst hM0
    obtain ⟨M, hM⟩ : ∃ M, M = 0 := ⟨_, rfl⟩
    rw [← hM]
    go_enter Try.func13, Try.ntmps13
    go_wp2_with fail
    go_loopw [5, 6, 7] (fun v la i wr => ∃ k : Nat, k ≤ l.length ∧ i = .int .i64 (k : Int) ∧ la = .int .i64 ((lastOf M 0 (l.take k) : Nat) : Int) ∧ wr.ownsRow w.heap.size 3 1 v k (ivals (ints (places M (l.take k)))) ∧ Below w.heap.size w wr) (fun _ _ i _ => l.length - (intOf i).toNat)
    case atStart => exact ⟨0, Nat.zero_le _, rfl, rfl, World.ownsRow_nil _ _ _ _, Below.refl _ _⟩
    case round =>
      obtain ⟨k, hk, rfl, rfl, hown, hbel⟩ := hrel
      have HO := Lib.hid hown
      have HB := Lib.hid hbel
      have hsz := hbel.size
      clear hown hbel
      by_cases hlt : k < l.length
      · have hkl : (k : Int) < (l.length : Int) := by omega
        obtain ⟨b, off, rfl, hbl, hc⟩ := HI.out (by omega)
        have c1 := (HB.out.cell (p := ⟨b, off + k, none⟩) hbl).trans (hc k hlt)
        have hwf := HW.out _ (List.getElem_mem hlt)
        have hle := lastOf_le (l.take k) 0 (Nat.zero_le M)
        have hst := place1_step hle l[k]
        have HT := Lib.hid (places_take M l k hlt)
        have HL := Lib.hid (lastOf_take M l k hlt)
        clear hc
        generalize l[k] = c at *
        generalize lastOf M 0 (l.take k) = la at *
        have hlM : (la : Int) ≤ 0 := by omega
        have hla0 : (0 : Int) ≤ (la : Int) := by omega
        obtain ⟨p, hp⟩ : ∃ p, p = place1 M la c := ⟨_, rfl⟩
        rw [← hp] at hst HT HL
        clear hp
        have hN : (M : Int) = 0 := by omega
        rw [hN] at hst
        have SN : ∀ (y : Int) (hy : (p : Int) = y) (v2 : Value) (w2 : World), w2.ownsRow w.heap.size 3 1 v2 (k + 1) (ivals (ints (places M (l.take k)) ++ [y])) → w2.ownsRow w.heap.size 3 1 v2 (k + 1) (ivals (ints (places M (l.take (k + 1))))) := fun y hy v2 w2 h => by rw [HT.out, ints_snoc, hy]; exact h
        by_cases hA : c < (la : Int)
        · have e : (p : Int) = (la : Int) := by rw [hst, if_pos hA, if_neg (by omega)]
          have hlN : ¬ 0 < (la : Int) := by omega
          clear hst
          go_wp2_with (at_builtin; refine app_is rfl _ _ rfl w.heap.size _ _ (ints (places M (l.take k))) (la : Int) rfl (HO.out.alloc _) ⟨wr.heap.size, 0, none⟩ rfl (cell_new_at _ _ rfl) (by omega) (by simp; omega) ?_; intro v2 w2 hown2 hg2; have HO2 := Lib.hid (SN _ e _ _ hown2); have HB2 := Lib.hid ((HB.out.alloc hsz _).grown hg2 (by simp; omega) (fun q hq => own_ge HO.out hq)); clear hown2 hg2)
          go_roundw
          case rel => exact ⟨k + 1, by omega, by go_num, by rw [HL.out, e], HO2.out, HB2.out⟩
          case measure => simp [intOf]; omega
        · by_cases hB : 0 < c
          · have e : (p : Int) = 0 := by rw [hst, if_neg hA, if_pos hB]
            clear hst
            go_wp2_with (at_builtin; refine app_is rfl _ _ rfl w.heap.size _ _ (ints (places M (l.take k))) 0 rfl (HO.out.alloc _) ⟨wr.heap.size, 0, none⟩ rfl (cell_new_at _ _ rfl) (by omega) (by simp; omega) ?_; intro v2 w2 hown2 hg2; have HO2 := Lib.hid (SN _ e _ _ hown2); have HB2 := Lib.hid ((HB.out.alloc hsz _).grown hg2 (by simp; omega) (fun q hq => own_ge HO.out hq)); clear hown2 hg2)
            go_roundw
            case rel => exact ⟨k + 1, by omega, by go_num, by rw [HL.out, e], HO2.out, HB2.out⟩
            case measure => simp [intOf]; omega
          · have e : (p : Int) = c := by rw [hst, if_neg hA, if_neg hB]
            clear hst
            go_wp2_with (at_builtin; refine app_is rfl _ _ rfl w.heap.size _ _ (ints (places M (l.take k))) c rfl (HO.out.alloc _) ⟨wr.heap.size, 0, none⟩ rfl (cell_new_at _ _ rfl) (by omega) (by simp; omega) ?_; intro v2 w2 hown2 hg2; have HO2 := Lib.hid (SN _ e _ _ hown2); have HB2 := Lib.hid ((HB.out.alloc hsz _).grown hg2 (by simp; omega) (fun q hq => own_ge HO.out hq)); clear hown2 hg2)
            go_roundw
            case rel => exact ⟨k + 1, by omega, by go_num, by rw [HL.out, e], HO2.out, HB2.out⟩
            case measure => simp [intOf]; omega
      · obtain rfl : k = l.length := by omega
        rw [List.take_length] at HO
        go_wp2
        go_ret
        have hown := HO.out
        rw [← places_len M l, ← ints_len (places M l)] at hown
        obtain ⟨a, cap, e, hi, hnil⟩ := own_is hown
        exact ⟨a, cap, by rw [← e]; rfl, hi, hnil, HB.out⟩
  · obtain ⟨M, rfl⟩ : ∃ M : Nat, n = (M : Int) := ⟨n.toNat, by omega⟩
    rw [Int.toNat_natCast]
    go_enter Try.func13, Try.ntmps13
    go_wp2_with fail
    go_loopw [5, 6, 7] (fun v la i wr => ∃ k : Nat, k ≤ l.length ∧ i = .int .i64 (k : Int) ∧ la = .int .i64 ((lastOf M 0 (l.take k) : Nat) : Int) ∧ wr.ownsRow w.heap.size 3 1 v k (ivals (ints (places M (l.take k)))) ∧ Below w.heap.size w wr) (fun _ _ i _ => l.length - (intOf i).toNat)
    case atStart => exact ⟨0, Nat.zero_le _, rfl, rfl, World.ownsRow_nil _ _ _ _, Below.refl _ _⟩
    case round =>
      obtain ⟨k, hk, rfl, rfl, hown, hbel⟩ := hrel
      have HO := Lib.hid hown
      have HB := Lib.hid hbel
      have hsz := hbel.size
      clear hown hbel
      by_cases hlt : k < l.length
      · have hkl : (k : Int) < (l.length : Int) := by omega
        obtain ⟨b, off, rfl, hbl, hc⟩ := HI.out (by omega)
        have c1 := (HB.out.cell (p := ⟨b, off + k, none⟩) hbl).trans (hc k hlt)
        have hwf := HW.out _ (List.getElem_mem hlt)
        have hle := lastOf_le (l.take k) 0 (Nat.zero_le M)
        have hst := place1_step hle l[k]
        have HT := Lib.hid (places_take M l k hlt)
        have HL := Lib.hid (lastOf_take M l k hlt)
        clear hc
        generalize l[k] = c at *
        generalize lastOf M 0 (l.take k) = la at *
        have hlM : (la : Int) ≤ (M : Int) := by omega
        have hla0 : (0 : Int) ≤ (la : Int) := by omega
        obtain ⟨p, hp⟩ : ∃ p, p = place1 M la c := ⟨_, rfl⟩
        rw [← hp] at hst HT HL
        clear hp
        have hN : (M : Int) = (M : Int) := by omega
        rw [hN] at hst
        have SN : ∀ (y : Int) (hy : (p : Int) = y) (v2 : Value) (w2 : World), w2.ownsRow w.heap.size 3 1 v2 (k + 1) (ivals (ints (places M (l.take k)) ++ [y])) → w2.ownsRow w.heap.size 3 1 v2 (k + 1) (ivals (ints (places M (l.take (k + 1))))) := fun y hy v2 w2 h => by rw [HT.out, ints_snoc, hy]; exact h
        by_cases hA : c < (la : Int)
        · have e : (p : Int) = (la : Int) := by rw [hst, if_pos hA, if_neg (by omega)]
          have hlN : ¬ (M : Int) < (la : Int) := by omega
          clear hst
          go_wp2_with (at_builtin; refine app_is rfl _ _ rfl w.heap.size _ _ (ints (places M (l.take k))) (la : Int) rfl (HO.out.alloc _) ⟨wr.heap.size, 0, none⟩ rfl (cell_new_at _ _ rfl) (by omega) (by simp; omega) ?_; intro v2 w2 hown2 hg2; have HO2 := Lib.hid (SN _ e _ _ hown2); have HB2 := Lib.hid ((HB.out.alloc hsz _).grown hg2 (by simp; omega) (fun q hq => own_ge HO.out hq)); clear hown2 hg2)
          go_roundw
          case rel => exact ⟨k + 1, by omega, by go_num, by rw [HL.out, e], HO2.out, HB2.out⟩
          case measure => simp [intOf]; omega
        · by_cases hB : (M : Int) < c
          · have e : (p : Int) = (M : Int) := by rw [hst, if_neg hA, if_pos hB]
            clear hst
            go_wp2_with (at_builtin; refine app_is rfl _ _ rfl w.heap.size _ _ (ints (places M (l.take k))) (M : Int) rfl (HO.out.alloc _) ⟨wr.heap.size, 0, none⟩ rfl (cell_new_at _ _ rfl) (by omega) (by simp; omega) ?_; intro v2 w2 hown2 hg2; have HO2 := Lib.hid (SN _ e _ _ hown2); have HB2 := Lib.hid ((HB.out.alloc hsz _).grown hg2 (by simp; omega) (fun q hq => own_ge HO.out hq)); clear hown2 hg2)
            go_roundw
            case rel => exact ⟨k + 1, by omega, by go_num, by rw [HL.out, e], HO2.out, HB2.out⟩
            case measure => simp [intOf]; omega
          · have e : (p : Int) = c := by rw [hst, if_neg hA, if_neg hB]
            clear hst
            go_wp2_with (at_builtin; refine app_is rfl _ _ rfl w.heap.size _ _ (ints (places M (l.take k))) c rfl (HO.out.alloc _) ⟨wr.heap.size, 0, none⟩ rfl (cell_new_at _ _ rfl) (by omega) (by simp; omega) ?_; intro v2 w2 hown2 hg2; have HO2 := Lib.hid (SN _ e _ _ hown2); have HB2 := Lib.hid ((HB.out.alloc hsz _).grown hg2 (by simp; omega) (fun q hq => own_ge HO.out hq)); clear hown2 hg2)
            go_roundw
            case rel => exact ⟨k + 1, by omega, by go_num, by rw [HL.out, e], HO2.out, HB2.out⟩
            case measure => simp [intOf]; omega
      · obtain rfl : k = l.length := by omega
        rw [List.take_length] at HO
        go_wp2
        go_ret
        have hown := HO.out
        rw [← places_len M l, ← ints_len (places M l)] at hown
        obtain ⟨a, cap, e, hi, hnil⟩ := own_is hown
        exact ⟨a, cap, by rw [← e]; rfl, hi, hnil, HB.out⟩
end Go.Proofs.Ytlpjghhmacobdaa.Cts
