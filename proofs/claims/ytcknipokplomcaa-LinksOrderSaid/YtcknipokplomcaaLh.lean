/- The contract of the reference's Order. -/
import Derived.Test.YtcknipokplomcaaLg
namespace Go.Proofs.Ytcknipokplomcaa.Lnk
open Go.RowKit Go.Maps Go.Proofs.Ytcknipokplomcaa.Tri

theorem str_piece (x : Tx) (k : Nat) (h : k < x.length) : (str x).extract k (k + 1) = str [x[k]] := by
  unfold str
  rw [ByteArray.extract_mk]
  congr 1
  show (List.take (k + 1 - k) (x.drop k)).toArray = _
  rw [List.drop_eq_getElem_cons h, show k + 1 - k = 1 by omega]
  rfl
theorem run_piece (x : Tx) (k : Nat) (h : k < x.length) (w : World) : (Instr.slice 9 (.string (str x)) (some (.int .i64 (k : Int))) (some (.int .i64 ((k : Int) + 1))) none).run Try.prog w = .ok (.string (str [x[k]])) w := by
  have hz := str_size x
  rw [run_slice_string (P := Try.prog) w 9 (str x) .i64 .i64 (k : Int) ((k : Int) + 1) und9 (by omega) (by omega) (by rw [hz]; omega)]
  have e1 : (k : Int).toNat = k := by omega
  have e2 : ((k : Int) + 1).toNat = k + 1 := by omega
  rw [e1, e2, str_piece x k h]
theorem rkidsT_at (ps : List Tx) (p : Tx) (j : Nat) (h : j < (rkids ps p).length) : (kidsT ps p)[j]'(by unfold kidsT; simpa using h) = p ++ [(rkids ps p)[j]] := by simp [kidsT]
theorem rkidsT_len (ps : List Tx) (p : Tx) : (kidsT ps p).length = (rkids ps p).length := by simp [kidsT]
theorem rkidsT_take (ps : List Tx) (p : Tx) (j : Nat) (h : j < (rkids ps p).length) : (kidsT ps p).take (j + 1) = (kidsT ps p).take j ++ [p ++ [(rkids ps p)[j]]] := by
  rw [List.take_succ_eq_append_getElem (by rw [rkidsT_len]; exact h), rkidsT_at ps p j h]
set_option maxHeartbeats 2000000 in
theorem rorder_any (w : World) (ps : List Tx) (a : Option Addr) (cap : Nat) (hw : Wf ps) (hs : Ss w a ps) (hl : ps.length ≤ 1000000) (hsl : ∀ p ∈ ps, p.length ≤ 1000000) :
    Calls Try.prog 21 #[.slice a ps.length cap] w (GivesInts w ((ord ps).map (place ps))) := by
  have HS := Lib.hid hs
  have HW := Lib.hid hw
  have HSL := Lib.hid hsl
  clear hs hw hsl
  go_enter Try.func21, Try.ntmps21
  go_wp2
  go_loopw [3, 4] (fun v i wr => ∃ k : Nat, k ≤ (bq ps k).length ∧ i = .int .i64 (k : Int) ∧ wr.ownsRow w.heap.size 3 1 v (bq ps k).length (ivals ((bq ps k).map (place ps))) ∧ Below w.heap.size w wr) (fun _ i _ => ps.length - (intOf i).toNat)
  case atStart =>
    refine ⟨0, Nat.zero_le _, rfl, ?_, (Below.refl _ _).alloc (Nat.le_refl _) _⟩
    rw [show ivals ((bq ps 0).map (place ps)) = [.int .i64 0] by simp [bq, ivals, place_nil HW.out]]
    exact World.ownsRow_lit (base := w.heap.size) (e := 3) (size := 1) w #[.int .i64 0] 1 (Nat.le_refl _) (by unfold maxLen; omega) rfl
  case round =>
    obtain ⟨k, hk, rfl, hown, hbel⟩ := hrel
    have hql := bq_len HW.out k
    obtain ⟨av, cv, rfl, hiv, _⟩ := own_is hown
    rw [List.length_map]
    by_cases hlt : k < (bq ps k).length
    · have HSUCC := Lib.hid (bq_succ hlt)
      have hpq := List.getElem_mem hlt
      have hpp := (inv_bq HW.out k).sub _ hpq
      have hbl1 := bq_len HW.out (k + 1)
      rw [HSUCC.out, List.length_append, rkidsT_len] at hbl1
      generalize hQ : bq ps k = Q at *
      generalize hP : Q[k] = p at *
      have hz : k < (Q.map (place ps)).length := by simpa using hlt
      obtain ⟨bv, ov, rfl, hbv, hcv⟩ := hiv (by omega)
      have hck := hcv k hz
      rw [List.getElem_map, hP] at hck
      obtain ⟨i, hip, ei, ei2, _⟩ := place_mem hpp
      rw [ei] at hck
      obtain ⟨bs, os, rfl, hbs, hcs⟩ := HS.out (by omega)
      have hcs := (hbel.cell (p := ⟨bs, os + i, none⟩) hbs).trans (hcs i hip)
      rw [ei2] at hcs
      have hkl : (k : Int) < (Q.length : Int) := by omega
      have hil : (i : Int) < (ps.length : Int) := by omega
      have hpl := HSL.out p hpp
      have HRK := Lib.hid (rkids_any wr ps (some ⟨bs, os, none⟩) cap (HS.out.keep hbel) (by omega) p hpl)
      have HO := Lib.hid hown
      have HB := Lib.hid hbel
      have HKL := Lib.hid (rkidsT_len ps p)
      have HKT := Lib.hid (rkidsT_take ps p)
      have HLT := Lib.hid hlt
      have hk256 : (rkids ps p).length ≤ 256 := kidsTo_len _ _
      clear hown hbel hcv hiv hz hpp hpq ei ei2 hQ hP hlt
      generalize hks : rkids ps p = ks at *
      clear hks
      have hzk := str_size ks
      go_wp2_with (go_at_call 34; (with_reducible refine HRK.out.mono ?_); rintro e w2 ⟨rfl, hb2⟩)
      have hown2 := own_keep HO.out hb2
      have hbel2 := HB.out.trans (hb2.mono HB.out.size)
      clear hck hcs hb2 hbv HO HB HRK
      go_loopw [3, 7] (fun v i wr => ∃ j : Nat, j ≤ ks.length ∧ i = .int .i64 (j : Int) ∧ wr.ownsRow w.heap.size 3 1 v (Q ++ (kidsT ps p).take j).length (ivals ((Q ++ (kidsT ps p).take j).map (place ps))) ∧ Below w.heap.size w wr) (fun _ i _ => ks.length - (intOf i).toNat)
      case atStart => exact ⟨0, Nat.zero_le _, rfl, by rw [List.take_zero, List.append_nil, ← List.length_map (place ps)]; rw [List.length_map] ; rw [List.length_map] at hown2; exact hown2, hbel2⟩
      case round =>
        obtain ⟨j, hj, rfl, hown, hbel⟩ := hrel
        by_cases hjl : j < ks.length
        · have hjk : (j : Int) < (ks.length : Int) := by omega
          have hpc := run_piece ks j hjl
          have hap := str_append p [ks[j]]
          have hz1 := str_size [ks[j]]
          have hz2 := str_size p
          have HTK := Lib.hid (HKT.out j hjl)
          have HPL := Lib.hid (place_any wr ps (some ⟨bs, os, none⟩) cap (HS.out.keep hbel) (by omega) (p ++ [ks[j]]))
          have hql5 : (Q ++ (kidsT ps p).take j).length ≤ 1000000 := by rw [List.length_append, List.length_take, HKL.out]; omega
          have HO := Lib.hid hown
          have HB := Lib.hid hbel
          have hsz := hbel.size
          clear hown hbel hown2 hbel2
          have hjw : IntKind.i64.wrap ((j : Int) + 1) = (j : Int) + 1 := IntWalk.i64_in _ (by omega)
          generalize hqq : p ++ [ks[j]] = q at *
          clear hqq
          generalize ks[j] = c at *
          generalize hzz : place ps q = z at *
          have HZ := Lib.hid hzz
          clear hzz
          generalize hQj : Q ++ (kidsT ps p).take j = Qj at *
          have HQJ := Lib.hid hQj
          clear hQj
          go_wp2_with (first
            | (go_at_call 31; (with_reducible refine HPL.out.mono ?_); rintro e w1 ⟨rfl, rfl⟩)
            | (at_builtin; refine app_is rfl _ _ rfl w.heap.size _ _ (Qj.map (place ps)) z rfl (HO.out.alloc _) ⟨wr.heap.size, 0, none⟩ rfl (cell_new_at _ _ rfl) (by omega) (by simp; omega) ?_; intro v3 w3 hown3 hg3))
          refine ⟨⟨j + 1, by omega, by go_num, ?_, (HB.out.alloc hsz _).grown hg3 (by simp; omega) (fun q hq => own_ge HO.out hq)⟩, by simp [intOf]; omega⟩
          rw [HTK.out, ← List.append_assoc, HQJ.out, List.length_append, List.map_append]
          show w3.ownsRow w.heap.size 3 1 v3 (Qj.length + 1) (ivals (Qj.map (place ps) ++ [place ps q]))
          rw [HZ.out]
          exact hown3
        · obtain rfl : j = ks.length := by omega
          have HQE : Hid (Q ++ (kidsT ps p).take ks.length = bq ps (k + 1)) := Lib.hid (by rw [HSUCC.out, List.take_of_length_le (by rw [HKL.out]; exact Nat.le_refl _)])
          rw [HQE.out] at hown
          have HO := Lib.hid hown
          have HB := Lib.hid hbel
          have hkq : k + 1 ≤ (bq ps (k + 1)).length := by rw [HSUCC.out, List.length_append]; have := HLT.out; omega
          have HLT2 := HLT.out
          clear hown hbel hown2 hbel2
          go_wp2
          exact ⟨⟨k + 1, hkq, by go_num, HO.out, HB.out⟩, by simp [intOf]; omega⟩
    · have hke : bq ps k = ord ps := ord_of_end (by omega) (by omega)
      have HKE := Lib.hid hke
      have hle : ¬ (k : Int) < ((bq ps k).length : Int) := by omega
      have HO := Lib.hid hown
      have HB := Lib.hid hbel
      clear hown hbel hiv hke
      go_wp2
      go_ret
      obtain ⟨a', cap', e, hi, hnil⟩ := own_is HO.out
      rw [HKE.out] at e hi
      exact ⟨a', cap', by rw [← e, ← HKE.out, List.length_map]; rfl, hi, hnil, HB.out⟩
end Go.Proofs.Ytcknipokplomcaa.Lnk
