/- Contracts of the reference: Place, Paths, Kids; of the statements' own 'texts'. -/
import Derived.Test.YtkooanahgffjgaaTf
namespace Go.Proofs.Ytkooanahgffjgaa.Tri
open Go.RowKit Go.Maps
set_option maxRecDepth 100000

theorem str_beq (x y : Tx) : ((str x).toList == (str y).toList) = decide (x = y) := by
  have e : ∀ z : Tx, (str z).toList = z := fun z => by simp [str]
  rw [e, e, Bool.eq_iff_iff]; simp
set_option maxHeartbeats 1000000 in
theorem place_any (w : World) (ps : List Tx) (a : Option Addr) (cap : Nat) (hs : Ss w a ps) (hl : ps.length ≤ 1000000000) (s : Tx) :
    Calls Try.prog 24 #[.slice a ps.length cap, .string (str s)] w fun e w' => e = .returned (.int .i64 (place ps s)) ∧ w = w' := by
  have HS := Lib.hid hs
  clear hs
  go_enter Try.func24, Try.ntmps24
  go_wp2
  go_loop [5] (fun i => ∃ k : Nat, k ≤ ps.length ∧ i = .int .i64 k ∧ ∀ j (h : j < k) (h' : j < ps.length), ps[j] ≠ s) (fun i => ps.length - (intOf i).toNat)
  case atStart => exact ⟨0, Nat.zero_le _, rfl, fun j h => by omega⟩
  case round =>
    obtain ⟨k, hk, rfl, hno⟩ := hrel
    have HNO := Lib.hid hno
    clear hno
    by_cases hlt : k < ps.length
    · obtain ⟨b, off, rfl, hbl, hc⟩ := HS.out (by omega)
      have hck := hc k hlt
      have hkl : (k : Int) < (ps.length : Int) := by omega
      clear hc
      by_cases he : ps[k] = s
      · have hd : ((str ps[k]).toList == (str s).toList) = true := by rw [str_beq]; exact decide_eq_true he
        have HP : Hid (place ps s = (k : Int)) := Lib.hid (place_first hlt he (fun j hj => HNO.out j hj (by omega)))
        clear he
        go_wp2
        go_ret
        exact ⟨ret_int HP.out.symm, rfl⟩
      · have hd : ((str ps[k]).toList == (str s).toList) = false := by rw [str_beq]; exact decide_eq_false he
        have HE := Lib.hid he
        clear he
        go_wp2
        go_round
        case rel => exact ⟨k + 1, by omega, by go_num, fun j h h' => by
          by_cases hjk : j = k
          · subst hjk; exact HE.out
          · exact HNO.out j (by omega) h'⟩
        case measure => simp [intOf]; omega
    · have HP : Hid (place ps s = -1) := Lib.hid (place_none fun j hj => HNO.out j (by omega) hj)
      go_wp2
      go_ret
      exact ⟨ret_int HP.out.symm, rfl⟩
theorem str_take (x : Tx) (k : Nat) : (str x).extract 0 k = str (x.take k) := by
  unfold str
  rw [ByteArray.extract_mk]
  congr 1
def GivesSs (w : World) (ps : List Tx) (e : Ending) (w' : World) : Prop := ∃ a cap, e = .returned (.slice a ps.length cap) ∧ Ss w' a ps ∧ Below w.heap.size w w'
theorem svals_length (xs : List Tx) : (svals xs).length = xs.length := by simp [svals]
set_option maxHeartbeats 2000000 in
theorem paths_any (w : World) (l : List Tx) (a : Option Addr) (cap : Nat) (hs : Ss w a l) (hl : l.length ≤ 1000000) (hz : tot l ≤ 100000000) :
    Calls Try.prog 19 #[.slice a l.length cap] w (GivesSs w (paths l)) := by
  have HS := Lib.hid hs
  clear hs
  go_enter Try.func19, Try.ntmps19
  go_wp2
  go_loopw [3, 4, 5] (fun v i _ wr => ∃ k : Nat, k ≤ l.length ∧ i = .int .i64 k ∧ wr.ownsRow w.heap.size 9 1 v (paths (l.take k)).length (svals (paths (l.take k))) ∧ Below w.heap.size w wr) (fun _ i _ _ => l.length - (intOf i).toNat)
  case atStart =>
    refine ⟨0, Nat.zero_le _, rfl, ?_, (Below.refl _ _).alloc (Nat.le_refl _) _⟩
    exact World.ownsRow_lit (base := w.heap.size) (e := 9) (size := 1) w #[.string (str [])] 1 (Nat.le_refl _) (by unfold maxLen; omega) rfl
  case round =>
    obtain ⟨k, hk, rfl, hown, hbel⟩ := hrel
    by_cases hlt : k < l.length
    · obtain ⟨b, off, rfl, hbl, hc⟩ := HS.out (by omega)
      have hkl : (k : Int) < (l.length : Int) := by omega
      have hplen := paths_len (l.take k)
      have htt := tot_take l k hlt
      have htl := tot_take_le l (k + 1)
      have HP := Lib.hid (paths_take l k hlt)
      have HCK := Lib.hid (hc k hlt)
      have HW := Lib.hid (paths_wf (l.take k))
      have hsz := str_size l[k]
      clear hc
      generalize l[k] = x at *
      generalize hps : paths (l.take k) = ps at *
      have hpz : ps.length + x.length ≤ 100000001 := by omega
      clear htt htl hplen hps
      go_wp2
      go_loopw [3, 5] (fun v i wr => ∃ j : Nat, j ≤ x.length ∧ i = .int .i64 ((j : Int) + 1) ∧ wr.ownsRow w.heap.size 9 1 v (growTo ps x j).length (svals (growTo ps x j)) ∧ Below w.heap.size w wr) (fun _ i _ => x.length + 1 - (intOf i).toNat)
      case atStart => exact ⟨0, Nat.zero_le _, rfl, hown, hbel⟩
      case round =>
        obtain ⟨j, hj, rfl, hown2, hbel2⟩ := hrel
        have hck := (hbel2.cell (p := ⟨b, off + k, none⟩) hbl).trans HCK.out
        by_cases hjx : j < x.length
        · have hjl : (j : Int) + 1 ≤ (x.length : Int) := by omega
          have hext := str_take x (j + 1)
          have hgl := growTo_len ps x j
          have hsz2 := hbel2.size
          obtain ⟨av, cv, rfl, hss, _, _⟩ := own_ss hown2
          have HPL := Lib.hid (place_any wr (growTo ps x j) av cv hss (by omega) (x.take (j + 1)))
          have HOLD := Lib.hid (growTo_old (ps := ps) (x := x) (k := j))
          have HNEW := Lib.hid (growTo_new (ps := ps) (x := x) (k := j))
          have HO := Lib.hid hown2
          have HB := Lib.hid hbel2
          clear hss hown2 hbel2 hown hbel
          by_cases hm : x.take (j + 1) ∈ growTo ps x j
          · have hy0 : ¬ place (growTo ps x j) (x.take (j + 1)) < 0 := by have := (place_nonneg (growTo ps x j) (x.take (j + 1))).2 hm; omega
            have HM := Lib.hid hm
            clear hm
            generalize place (growTo ps x j) (x.take (j + 1)) = y at *
            go_wp2_with (go_at_call 24; (with_reducible refine HPL.out.mono ?_); rintro e w1 ⟨rfl, rfl⟩)
            exact ⟨⟨j + 1, by omega, by go_num, by rw [HOLD.out HM.out]; exact HO.out, HB.out⟩, by simp [intOf]; omega⟩
          · have hy0 : place (growTo ps x j) (x.take (j + 1)) < 0 := by rw [place_not hm]; omega
            have HM := Lib.hid hm
            clear hm
            generalize place (growTo ps x j) (x.take (j + 1)) = y at *
            go_wp2_with (first
              | (go_at_call 24; (with_reducible refine HPL.out.mono ?_); rintro e w1 ⟨rfl, rfl⟩)
              | (at_builtin; refine app_ss rfl _ _ rfl w.heap.size _ _ _ (x.take (j + 1)) rfl (HO.out.alloc _) ⟨wr.heap.size, 0, none⟩ rfl (cell_new1 _ _ _) (by omega) (by simp; omega) ?_; intro v2 w2 hown3 hg3))
            refine ⟨⟨j + 1, by omega, by go_num, ?_, (HB.out.alloc hsz2 _).grown hg3 (by simp; omega) (fun q hq => own_ge HO.out hq)⟩, by simp [intOf]; omega⟩
            rw [HNEW.out HM.out, List.length_append]
            exact hown3
        · have hjl : ¬ (j : Int) + 1 ≤ (x.length : Int) := by omega
          obtain rfl : j = x.length := by omega
          have HO := Lib.hid hown2
          have HB := Lib.hid hbel2
          clear hown2 hbel2 hown hbel
          go_wp2
          exact ⟨⟨k + 1, by omega, by go_num, by rw [HP.out]; exact HO.out, HB.out⟩, by simp [intOf]; omega⟩
    · obtain rfl : k = l.length := by omega
      rw [List.take_length] at hown
      obtain ⟨av, cv, rfl, hss, _, _⟩ := own_ss hown
      have HSS := Lib.hid hss
      have HB := Lib.hid hbel
      clear hss hown hbel
      go_wp2
      go_ret
      exact ⟨av, cv, rfl, HSS.out, HB.out⟩
end Go.Proofs.Ytkooanahgffjgaa.Tri
