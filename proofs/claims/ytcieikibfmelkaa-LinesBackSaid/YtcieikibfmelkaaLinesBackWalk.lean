/- The walk of the law LinesBack. -/
import Derived.Test.YtcieikibfmelkaaWk
namespace Go.Proofs.Ytcieikibfmelkaa.linesBack
open Go.RowKit

theorem made_len (ls : List Ln) (k : Nat) : (made (ls.take k)).length ≤ (made ls).length := by
  have e : made ls = made (ls.take k) ++ made (ls.drop k) := by
    unfold made
    rw [← List.flatMap_append, List.take_append_drop]
  rw [e, List.length_append]
  omega

set_option maxRecDepth 100000 in
set_option maxHeartbeats 8000000 in
theorem walk (w : World) (t : List UInt8) (a : Option Addr) (cap : Nat) (hm : t.length ≤ maxLen) (hb : Bs w w.heap.size a t) :
    Calls Try.prog 5 #[.slice a t.length cap] w fun e w' => e = .returned (.bool true) ∧ Below w.heap.size w w' := by
  unfold maxLen at hm
  by_cases hl : t.length ≤ 1000
  · have hdl : decide ((1000 : Int) < (t.length : Int)) = false := decide_eq_false (by omega)
    have hln := lines_le t
    obtain ⟨L, hL⟩ : ∃ L, L = linesOf t := ⟨_, rfl⟩
    obtain ⟨n, hn⟩ : ∃ n, n = L.length := ⟨_, rfl⟩
    have hmade : made L = t := by rw [hL]; exact lines_made t
    have hoffs : ∀ k (h : k < L.length), L[k].off = (made (L.take k)).length ∧ (L[k].ends = false → k + 1 = L.length ∧ L[k].text ≠ []) := by rw [hL]; exact lines_offs t
    have hnl : ∀ x ∈ L, (10 : UInt8) ∉ x.text ∧ x.text.length ≤ 1000 := fun x hx => by
      rw [hL] at hx
      have := lines_bound t x hx
      exact ⟨this.2, by omega⟩
    rw [← hL, ← hn] at hln
    have hml : ∀ k, (made (L.take k)).length ≤ 1000 := fun k => Nat.le_trans (made_len L k) (by rw [hmade]; exact hl)
    have HL := Lib.hid hL
    have HN := Lib.hid hn
    have HMA := Lib.hid hmade
    have HOF := Lib.hid hoffs
    have HNL := Lib.hid hnl
    have HML := Lib.hid hml
    clear hL hn hmade hoffs hnl hml
    go_enter Try.func5, Try.ntmps5
    go_wp2_with fail
    go_at_call 9
    refine (awake_any w).mono ?_
    rintro e w1 ⟨rfl, B1⟩
    go_wp2_with fail
    go_at_call 10
    refine (split_lsf t a cap _ n _ rfl (by rw [HN.out, HL.out]) (by omega) ((hb.keep B1).more B1.size)).mono ?_
    rintro e w2 ⟨a2, cap2, xs, rfl, hxl, hmx, hlc, hlsf, hb2⟩
    rw [← HL.out] at hmx
    have hls := hlsf.ls
    have B2 : Below w.heap.size w w2 := B1.trans (hb2.mono B1.size)
    have HMX := Lib.hid hmx
    have HXL := Lib.hid hxl
    clear hmx hxl B1 hb2 hlsf
    go_wp2
    go_loopw [5, 6] (fun v i wr => ∃ k : Nat, k ≤ n ∧ i = .int .i64 k ∧ wr.ownsRow w2.heap.size 5 1 v (made (L.take k)).length (vals (made (L.take k))) ∧ Below w2.heap.size w2 wr) (fun _ i _ => n - (intOf i).toNat)
    case atStart => exact ⟨0, Nat.zero_le _, rfl, World.ownsRow_nil _ _ _ _, Below.refl _ _⟩
    case round =>
      obtain ⟨k, hk, rfl, hown, hbel⟩ := hrel
      by_cases hlt : k < n
      · have hx0 : k < xs.length := by rw [HXL.out]; exact hlt
        have hL0 : k < L.length := by rw [← HN.out]; exact hlt
        have hlr := hls.keep hbel
        obtain ⟨ba, oa, rfl, hba, hca⟩ := hlr.1 (by omega)
        have hbx : ba < w2.heap.size := by
          obtain ⟨b', o', e, h1, _⟩ := hls.1 (by omega)
          cases e; exact h1
        have hln : xs[k].ln = L[k] := by
          have e := congrArg (fun l => l[k]?) HMX.out
          simpa [hx0, hL0] using e
        have htx := hlr.2 xs[k] (List.getElem_mem hx0)
        obtain ⟨ca0, ca1, ca2⟩ := hca k hx0
        rw [hln] at ca0 ca1 ca2 htx
        have hn0 := xs[k].nil0
        obtain ⟨ho, hend⟩ := HOF.out k hL0
        obtain ⟨h10, htl⟩ := HNL.out L[k] (List.getElem_mem hL0)
        have hsn := made_snoc L k hL0
        have hml := HML.out (k + 1)
        clear hca hln
        generalize xs[k].a = A1 at *
        generalize xs[k].cap = C1 at *
        generalize L[k] = X at *
        obtain ⟨o, tx, en⟩ := X
        simp only [] at ca0 ca1 ca2 htx ho hend h10 htl hsn
        generalize made (L.take k) = J at *
        subst ho
        have HSN := Lib.hid hsn
        rw [hsn] at hml
        clear hsn
        have hkl : (k : Int) < (n : Int) := by omega
        have hJ : J.length + tx.length ≤ 1000 := by simp at hml; omega
        have hsz := hbel.size
        have hbw : ba < w2.heap.size := hbx
        have ca2w : w2.cell? ⟨ba, oa + k * 3 + 2, none⟩ = some (.bool en) := (hbel.cell (p := ⟨ba, _, none⟩) hbw).symm.trans ca2
        have hcell : Hid (∀ j (h : j < tx.length), ∃ b off, A1 = some ⟨b, off, none⟩ ∧ wr.cell? ⟨b, off + j, none⟩ = some (.int .u8 (tx[j].toNat : Int))) := Lib.hid fun j h => by
          obtain ⟨b, off, e, _, hc⟩ := htx (by omega)
          exact ⟨b, off, e, hc j h⟩
        have d0 : ((J.length : Int) != (J.length : Int)) = false := by simp
        obtain ⟨_, av, cv, rfl, _, _⟩ := own_text (l := J) hown rfl
        have H10 := Lib.hid h10
        clear h10 hml
        cases en with
        | true =>
          clear hend
          go_wp2
          go_loop [7] (fun i => ∃ j : Nat, j ≤ tx.length ∧ i = .int .i64 j) (fun i => tx.length - (intOf i).toNat)
          case atStart => exact ⟨0, Nat.zero_le _, rfl⟩
          case round =>
            obtain ⟨j, hj, rfl⟩ := hrel
            by_cases hjl : j < tx.length
            · obtain ⟨bt, ot, rfl, hcj⟩ := hcell.out j hjl
              have d1 : ((tx[j].toNat : Int) == 10) = false := by
                rw [u8_ten]
                exact decide_eq_false (fun e => H10.out (by rw [← e]; exact List.getElem_mem hjl))
              have hjl2 : (j : Int) < (tx.length : Int) := by omega
              go_wp2
              go_round
              case rel => exact ⟨j + 1, by omega, by go_num⟩
              case measure => simp [intOf]; omega
            · have hjl2 : ¬ (j : Int) < (tx.length : Int) := by omega
              go_wp2_with (first
                | (at_builtin; refine app_bs rfl (.tmp 73) (.tmp 78) rfl w2.heap.size _ J.length (vals J) rfl hown A1 tx C1 wr.heap.size rfl htx hn0 (by omega) hsz ?_; intro v3 w3 hown3 hg3; have hb3 := app_below hbel hown hg3 hsz (Nat.le_refl _); have hs3 := hb3.size; have ca2' : w3.cell? ⟨ba, oa + k * 3 + 2, none⟩ = some (.bool true) := (hb3.cell (p := ⟨ba, _, none⟩) hbw).trans ca2w)
                | (at_builtin; refine app_bs rfl (.tmp 85) (.tmp 86) rfl w2.heap.size _ (J.length + tx.length) _ rfl (hown3.alloc _) (some ⟨w3.heap.size, 0, none⟩) [10] 1 _ rfl (bs_lit w3 [10] (0, 0) _ rfl) (fun e => by cases e) (by simp; omega) (by simp; omega) ?_; intro v4 w4 hown4 hg4; have hb4 := app_below (hb3.alloc hs3 _) (hown3.alloc _) hg4 (by simp; omega) (Nat.le_refl _))
                | fail)
              go_roundw
              case rel =>
                refine ⟨k + 1, by omega, by go_num, ?_, hb4⟩
                rw [HSN.out]
                rw [if_pos trivial]
                have e1 : vals (J ++ tx ++ [10]) = vals J ++ vals tx ++ vals [10] := by simp [vals]
                have e2 : (J ++ tx ++ [(10 : UInt8)]).length = J.length + tx.length + [(10 : UInt8)].length := by simp; omega
                rw [e1, e2]
                exact hown4
              case measure => simp [intOf]; omega
        | false =>
          obtain ⟨hk1, hne⟩ := hend rfl
          have hkn : k + 1 = n := by rw [HN.out]; exact hk1
          have ht0 : 0 < tx.length := List.length_pos_iff.2 hne
          have d2 : decide ((k : Int) < (n : Int) - 1) = false := decide_eq_false (by omega)
          have d3 : ((tx.length : Int) == 0) = false := by simp; omega
          clear hend hk1 hne hkn
          go_wp2
          go_loop [7] (fun i => ∃ j : Nat, j ≤ tx.length ∧ i = .int .i64 j) (fun i => tx.length - (intOf i).toNat)
          case atStart => exact ⟨0, Nat.zero_le _, rfl⟩
          case round =>
            obtain ⟨j, hj, rfl⟩ := hrel
            by_cases hjl : j < tx.length
            · obtain ⟨bt, ot, rfl, hcj⟩ := hcell.out j hjl
              have d1 : ((tx[j].toNat : Int) == 10) = false := by
                rw [u8_ten]
                exact decide_eq_false (fun e => H10.out (by rw [← e]; exact List.getElem_mem hjl))
              have hjl2 : (j : Int) < (tx.length : Int) := by omega
              go_wp2
              go_round
              case rel => exact ⟨j + 1, by omega, by go_num⟩
              case measure => simp [intOf]; omega
            · have hjl2 : ¬ (j : Int) < (tx.length : Int) := by omega
              go_wp2_with (first
                | (at_builtin; refine app_bs rfl (.tmp 73) (.tmp 78) rfl w2.heap.size _ J.length (vals J) rfl hown A1 tx C1 wr.heap.size rfl htx hn0 (by omega) hsz ?_; intro v3 w3 hown3 hg3; have hb3 := app_below hbel hown hg3 hsz (Nat.le_refl _); have hs3 := hb3.size; have ca2' : w3.cell? ⟨ba, oa + k * 3 + 2, none⟩ = some (.bool false) := (hb3.cell (p := ⟨ba, _, none⟩) hbw).trans ca2w)
                | (at_builtin; refine app_bs rfl (.tmp 85) (.tmp 86) rfl w2.heap.size _ (J.length + tx.length) _ rfl (hown3.alloc _) (some ⟨w3.heap.size, 0, none⟩) [10] 1 _ rfl (bs_lit w3 [10] (0, 0) _ rfl) (fun e => by cases e) (by simp; omega) (by simp; omega) ?_; intro v4 w4 hown4 hg4; have hb4 := app_below (hb3.alloc hs3 _) (hown3.alloc _) hg4 (by simp; omega) (Nat.le_refl _))
                | fail)
              go_roundw
              case rel =>
                refine ⟨k + 1, by omega, by go_num, ?_, hb3⟩
                rw [HSN.out]
                have e1 : vals (J ++ tx ++ if false = true then [10] else []) = vals J ++ vals tx := by simp [vals]
                have e2 : (J ++ tx ++ if false = true then [(10 : UInt8)] else []).length = J.length + tx.length := by simp
                rw [e1, e2]
                exact hown3
              case measure => simp [intOf]; omega
      · have hkn : L.take k = L := List.take_of_length_le (by rw [← HN.out]; omega)
        rw [hkn, HMA.out] at hown
        obtain ⟨_, av, cv, rfl, tv, _⟩ := own_text (l := t) hown rfl
        have B3 : Below w.heap.size w wr := B2.trans (hbel.mono B2.size)
        have hc1 := str_of_bs cv tv.bs
        have hc2 := str_of_bs cap (hb.keep B3)
        clear hkn hown
        go_wp2
        go_ret
        exact ⟨by simp, B3⟩
  · have hgt : 1000 < t.length := by omega
    go_enter Try.func5, Try.ntmps5
    go_wp2_with fail
    go_at_call 9
    refine (awake_any w).mono ?_
    rintro e w1 ⟨rfl, hb1⟩
    go_wp2
    go_ret
    exact ⟨rfl, hb1⟩
end Go.Proofs.Ytcieikibfmelkaa.linesBack
