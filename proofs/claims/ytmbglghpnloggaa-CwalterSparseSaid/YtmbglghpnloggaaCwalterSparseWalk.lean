/- The walk of CwalterSparse. -/
import Derived.Test.YtmbglghpnloggaaRc
namespace Go.Proofs.Ytmbglghpnloggaa.cwalterSparse
open Go.Proofs.Ytmbglghpnloggaa.Tri Go.Proofs.Ytmbglghpnloggaa.Lnk Go.Proofs.Ytmbglghpnloggaa.Prs Go.Proofs.Ytmbglghpnloggaa.Spa Go.Proofs.Ytmbglghpnloggaa.Cwl Go.Proofs.Ytmbglghpnloggaa.Bck Go.Proofs.Ytmbglghpnloggaa.Wal Go.Proofs.Ytmbglghpnloggaa.Reg Go.RowKit Go.Maps
set_option maxRecDepth 100000
set_option linter.unusedVariables false
theorem tm_plus (a b : Nat) : (a : Int).tmod ((b : Int) + 1) = ((a % (b + 1) : Nat) : Int) := by
  have e : ((b : Int) + 1) = ((b + 1 : Nat) : Int) := by omega
  rw [e]
  exact (Int.ofNat_tmod a (b + 1)).symm
theorem tm_at (a b : Nat) : (a : Int).tmod (b : Int) = ((a % b : Nat) : Int) := (Int.ofNat_tmod a b).symm
theorem mod_le (a b : Nat) : a % (b + 1) ≤ b := Nat.le_of_lt_succ (Nat.mod_lt a (Nat.succ_pos b))
theorem wrap_u8 (n : UInt8) : wrap64 (n.toNat : Int) = (n.toNat : Int) := by
  have := n.toNat_lt
  exact IntWalk.wrap64_in _ (by omega)
def rotTo (xs : List TxV) (t : Nat) : Nat → List TxV
  | 0 => []
  | i + 1 => rotTo xs t i ++ (match xs[(i + t) % xs.length]? with | some x => [x] | none => [])
theorem rot_succ (xs : List TxV) (t i : Nat) (h : (i + t) % xs.length < xs.length) : rotTo xs t (i + 1) = rotTo xs t i ++ [xs[(i + t) % xs.length]] := by
  rw [rotTo, List.getElem?_eq_getElem h]
theorem rot_sub (xs : List TxV) (t : Nat) : ∀ i, ∀ x ∈ rotTo xs t i, x ∈ xs
  | 0, x, h => by cases h
  | i + 1, x, h => by
    rw [rotTo] at h
    rcases List.mem_append.1 h with h | h
    · exact rot_sub xs t i x h
    · split at h
      · rename_i y hy
        obtain rfl : x = y := by simpa using h
        exact List.mem_of_getElem? hy
      · cases h
theorem rot_has (xs : List TxV) (t : Nat) : ∀ i k, k < i → ∀ h : (k + t) % xs.length < xs.length, xs[(k + t) % xs.length] ∈ rotTo xs t i
  | 0, k, hk, _ => by omega
  | i + 1, k, hk, h => by
    rw [rotTo]
    by_cases e : k = i
    · subst e
      rw [List.getElem?_eq_getElem h]
      simp
    · exact List.mem_append_left _ (rot_has xs t i k (by omega) h)
theorem rot_all (xs : List TxV) (t : Nat) (x : TxV) (hx : x ∈ xs) : x ∈ rotTo xs t xs.length := by
  obtain ⟨j, hj, rfl⟩ := List.getElem_of_mem hx
  have hn : 0 < xs.length := by omega
  have hr := Nat.mod_lt t hn
  have e : ((j + (xs.length - t % xs.length)) % xs.length + t) % xs.length = j := by
    rw [Nat.mod_add_mod]
    have e1 := Nat.div_add_mod t xs.length
    have e2 : j + (xs.length - t % xs.length) + t = j + xs.length * (t / xs.length + 1) := by rw [Nat.mul_add]; omega
    rw [e2, Nat.add_mul_mod_self_left, Nat.mod_eq_of_lt hj]
  have := rot_has xs t xs.length ((j + (xs.length - t % xs.length)) % xs.length) (Nat.mod_lt _ hn) (by rw [e]; exact hj)
  simpa only [e] using this
theorem rot_len (xs : List TxV) (t : Nat) : ∀ i, (rotTo xs t i).length ≤ i
  | 0 => by simp [rotTo]
  | i + 1 => by
    have := rot_len xs t i
    rw [rotTo, List.length_append]
    split <;> simp <;> omega
def nilT : TxV := ⟨[], none, 0, fun _ => rfl⟩
/-- The empty one, and the texts in another order. -/
def turnedX (xs : List TxV) (t : Nat) (i : Nat) : List TxV := [nilT] ++ rotTo xs t i
theorem turnedX_mem {xs : List TxV} (t : Nat) (y : Tx) (hy : y ≠ []) : y ∈ (turnedX xs t xs.length).map TxV.text ↔ y ∈ xs.map TxV.text := by
  rw [List.mem_map, List.mem_map]
  constructor
  · rintro ⟨z, hz, rfl⟩
    rcases List.mem_append.1 hz with hz | hz
    · rw [List.mem_singleton.1 hz] at hy
      exact absurd rfl hy
    · exact ⟨z, rot_sub xs t _ z hz, rfl⟩
  · rintro ⟨z, hz, rfl⟩
    exact ⟨z, List.mem_append_right _ (rot_all xs t z hz), rfl⟩
theorem turnedX_40 {xs : List TxV} (h4 : ∀ x ∈ xs, x.text.length ≤ 40) (t i : Nat) : ∀ z ∈ turnedX xs t i, z.text.length ≤ 40 := by
  intro z hz
  rcases List.mem_append.1 hz with hz | hz
  · rw [List.mem_singleton.1 hz]; exact Nat.zero_le _
  · exact h4 z (rot_sub xs t _ z hz)
theorem turnedX_len (xs : List TxV) (t i : Nat) : (turnedX xs t i).length ≤ i + 1 := by
  have := rot_len xs t i
  rw [turnedX, List.length_append]
  simp; omega
theorem turnedX_tot {xs : List TxV} (h0 : xs.length ≤ 12) (h4 : ∀ x ∈ xs, x.text.length ≤ 40) (t : Nat) : tot ((turnedX xs t xs.length).map TxV.text) ≤ 600 := by
  have h2 := tot_le ((turnedX xs t xs.length).map TxV.text) 40 (fun y hy => by
    obtain ⟨z, hz, rfl⟩ := List.mem_map.1 hy
    exact turnedX_40 h4 t _ z hz)
  have h3 : ((turnedX xs t xs.length).map TxV.text).length ≤ 13 := by
    rw [List.length_map]
    have := turnedX_len xs t xs.length
    omega
  omega
theorem turnedX_succ (xs : List TxV) (t i : Nat) (h : (i + t) % xs.length < xs.length) : turnedX xs t (i + 1) = turnedX xs t i ++ [xs[(i + t) % xs.length]] := by
  rw [turnedX, rot_succ xs t i h, turnedX, List.append_assoc]

set_option maxHeartbeats 8000000 in
theorem small (w : World) (xs : List TxV) (a0 : Option Addr) (cap0 : Nat) (hts : Ts w a0 xs) (h0 : xs.length ≤ 12) (hx : ∀ x ∈ xs, x.text.length ≤ 40) (line : Tx) (aline : Option Addr) (cline : Nat) (hmline : line.length ≤ maxLen) (hbline : Bs w w.heap.size aline line) (hnline : aline = none → cline = 0) (hcline : line.length ≤ cline) (t : UInt8) :
    Calls Try.prog 5 #[.slice a0 xs.length cap0, .slice aline line.length cline, .int .u8 (t.toNat : Int)] w fun e w' => e = .returned (.bool true) ∧ Below w.heap.size w w' := by
  have KL : Hid (Ln w aline line cline) := Lib.hid ⟨hbline, hcline, hnline⟩
  clear hbline hcline hnline hmline
  have hx' : ∀ x ∈ xs, x.text.length ≤ maxLen := fun x h => Nat.le_trans (hx x h) (by unfold maxLen; omega)
  have htot := Spa.few_tot h0 hx
  have HX := Lib.hid hx
  have HX' := Lib.hid hx'
  have HAW := Lib.hid (Wal.awake_any w)
  clear hx hx'
  go_enter Try.func5, Try.ntmps5
  go_wp2_with fail
  refine HAW.out.mono ?_
  rintro e' w1 ⟨rfl, hb2⟩
  have ts1 := hts.keep hb2
  go_wp2_with fail
  refine (ltexts_any xs a0 cap0 w1 ts1 (by omega) HX'.out).mono ?_
  rintro e' w2 ⟨hb3, hcase⟩
  rcases hcase with ⟨hbad, _⟩ | ⟨_, aL, cL, rfl, hsL⟩
  · exact absurd HX.out hbad
  rw [decide_eq_true h0]
  have HTS := Lib.hid (ts1.keep hb3)
  have HB := Lib.hid (hb2.trans (hb3.mono hb2.size))
  have hszw := HB.out.size
  obtain ⟨l, hl⟩ : ∃ l, l = xs.map TxV.text := ⟨_, rfl⟩
  have HLN : Hid (xs.length = l.length) := Lib.hid (by rw [hl]; simp)
  have HLL := Lib.hid hl
  have HL40 : Hid (∀ x ∈ l, x.length ≤ 40) := Lib.hid fun x h => by
    rw [hl] at h
    obtain ⟨y, hy, rfl⟩ := List.mem_map.1 h
    exact HX.out y hy
  rw [← hl] at hsL htot
  have HSL := Lib.hid hsL
  have HNEW : Hid (∀ X, Below w2.heap.size w2 X → Calls Try.prog 13 #[.slice a0 xs.length cap0] X (GivesCw X l)) := Lib.hid fun X hX => by
    have := wnew_any X xs a0 cap0 (HTS.out.keep hX) (by omega) (fun x h => Nat.le_trans (HX.out x h) (by omega)) (by rw [← HLL.out]; omega)
    rwa [← HLL.out] at this
  have LL : Hid (∀ X, Below w2.heap.size w2 X → Ln X aline line cline) := Lib.hid fun X hX => (KL.out.keep HB.out).keep hX
  clear HAW KL hb2 hb3 ts1 hsL hts hl HX'
  by_cases hf : line.length ≤ 300
  · have hfi : ¬ (300 : Int) < (line.length : Int) := by omega
    by_cases hx0 : xs.length = 0
    · have hxi : ((xs.length : Int) == 0) = true := by rw [hx0]; rfl
      go_wp2
      go_ret
      exact ⟨rfl, HB.out⟩
    · have hxi : ((xs.length : Int) == 0) = false := by rw [beq_eq_false_iff_ne]; omega
      have hx1 : 0 < xs.length := by omega
      go_wp2_with fail
      refine (HNEW.out w2 (Below.refl _ _)).mono ?_
      rintro e5 w5 ⟨p, rfl, hcw, b5⟩
      have SC := Lib.hid (wscan_any w5 p l hcw line aline cline (LL.out w5 b5) (by omega))
      have HB5 := Lib.hid b5
      clear hcw b5
      go_wp2_with fail
      refine SC.out.mono ?_
      rintro e6 w6 ⟨aX, cX, rfl, hpx, hb6⟩
      have HB6 := Lib.hid (HB5.out.trans (hb6.mono HB5.out.size))
      have HPX := Lib.hid hpx
      clear hpx hb6 SC HB5
      have hsl := scan_len l line (by omega)
      generalize hZ : scanOf l line = Z at *
      have HZ := Lib.hid hZ
      clear hZ
      go_wp2_with (at_builtin; refine app_ts rfl _ _ rfl w6.heap.size (.slice none 0 0) 0 [] nilT rfl ((World.ownsRow_nil _ _ _ _).alloc _) ⟨w6.heap.size, 0, none⟩ rfl (cell_new1 w6 _ 23) (by omega) (by simp) ?_; intro v7 w7 hown7 hg7)
      have HO7 : Hid (w7.ownsRow w6.heap.size 23 1 v7 (turnedX xs t.toNat 0).length (tvals (turnedX xs t.toNat 0))) := Lib.hid hown7
      have HB7 : Hid (Below w6.heap.size w6 w7) := Lib.hid (((Below.refl _ _).alloc (Nat.le_refl _) _).grown hg7 (by simp) (fun k hk => by cases hk))
      clear hown7 hg7
      have HCX : Hid (∀ X, Below w2.heap.size w2 X → ∃ bx ox, a0 = some ⟨bx, ox, none⟩ ∧ ∀ i (h : i < xs.length), X.cell? ⟨bx, ox + i, none⟩ = some (.slice xs[i].a xs[i].text.length xs[i].cap)) := Lib.hid fun X hX => by
        obtain ⟨b', o', e', _, hc'⟩ := (HTS.out.keep hX).1 hx1
        exact ⟨b', o', e', hc'⟩
      obtain ⟨bx, ox, rfl, _⟩ := HCX.out w2 (Below.refl _ _)
      go_loopw [11, 12] (fun v x wi => ∃ i : Nat, i ≤ xs.length ∧ x = .int .i64 (i : Int) ∧ wi.ownsRow w6.heap.size 23 1 v (turnedX xs t.toNat i).length (tvals (turnedX xs t.toNat i)) ∧ Below w6.heap.size w6 wi) (fun _ x _ => xs.length - (intOf x).toNat)
      case atStart => exact ⟨0, by omega, rfl, HO7.out, HB7.out⟩
      case round =>
        obtain ⟨i, hi, rfl, ho, hb⟩ := hrel
        have HO2 := Lib.hid ho
        have HBE := Lib.hid hb
        have hsz := hb.size
        clear ho hb
        have hrl := turnedX_len xs t.toNat i
        by_cases hlt : i < xs.length
        · have hlt2 : (i : Int) < (xs.length : Int) := by omega
          have hwt := wrap_u8 t
          have hr := Nat.mod_lt (i + t.toNat) hx1
          have htm := tm_at (i + t.toNat) xs.length
          rw [Int.natCast_add] at htm
          have HRS := Lib.hid (turnedX_succ xs t.toNat i hr)
          have hcell : wr.cell? ⟨bx, ox + (i + t.toNat) % xs.length, none⟩ = some (.slice xs[(i + t.toNat) % xs.length].a xs[(i + t.toNat) % xs.length].text.length xs[(i + t.toNat) % xs.length].cap) := by
            obtain ⟨b', o', e', hc'⟩ := HCX.out wr (HB6.out.trans (HBE.out.mono HB6.out.size))
            cases e'
            exact hc' _ hr
          have ht8 : t.toNat ≤ 255 := Nat.le_of_lt_succ t.toNat_lt
          have hxz : (xs.length : Int) ≠ 0 := by omega
          generalize xs[(i + t.toNat) % xs.length] = z at *
          generalize (i + t.toNat) % xs.length = r at *
          generalize t.toNat = tt at *
          go_wp2_with (at_builtin; refine app_ts rfl _ _ rfl _ _ _ (turnedX xs tt i) z rfl (HO2.out.alloc _) ⟨wr.heap.size, 0, none⟩ rfl (cell_new1 wr _ 23) (by omega) (by simp; omega) ?_; intro v9 w9 hown9 hg9)
          exact ⟨⟨i + 1, by omega, by go_num, by rw [HRS.out, List.length_append]; exact hown9, (HBE.out.alloc hsz _).grown hg9 (by simp; omega) (fun j hj => own_ge HO2.out hj)⟩, by simp [intOf]; omega⟩
        · have hlt2 : ¬ (i : Int) < (xs.length : Int) := by omega
          have hie : i = xs.length := by omega
          rw [hie] at HO2
          have HTM := Lib.hid (fun y hy => @turnedX_mem xs t.toNat y hy)
          have HTT := Lib.hid (turnedX_tot h0 HX.out t.toNat)
          have HT40 := Lib.hid (turnedX_40 HX.out t.toNat xs.length)
          have htl := turnedX_len xs t.toNat xs.length
          have B9 := HB6.out.trans (HBE.out.mono HB6.out.size)
          have HB9 := Lib.hid B9
          have HR0 := Lib.hid (rot_sub xs t.toNat xs.length)
          have hts10 : ∀ z ∈ turnedX xs t.toNat xs.length, Bs wr wr.heap.size z.a z.text := fun z hz => by
            have hk := (HTS.out.keep B9).2
            rcases List.mem_append.1 hz with hz | hz
            · rw [List.mem_singleton.1 hz]; exact bs_nil _ _ _
            · exact hk z (HR0.out z hz)
          obtain ⟨ao, co, ev, hto, _, _⟩ := own_ts HO2.out hts10
          subst ev
          have HSC : Hid (scanOf ((turnedX xs t.toNat xs.length).map TxV.text) line = Z) := Lib.hid (by rw [← HZ.out, HLL.out]; exact scan_congr HTM.out line)
          have HPX9 := Lib.hid ((HPX.out.keep HBE.out).more HBE.out.size)
          generalize hR : turnedX xs t.toNat xs.length = R at *
          clear hR hie hts10 hi hlt HR0 HTM HPX HB6 HBE HO7 HB7
          have hnl : R.length ≤ 13 := by omega
          have HTO := Lib.hid hto
          clear hto B9
          go_wp2_with fail
          refine (snew_any wr xs (some ⟨bx, ox, none⟩) cap0 (HTS.out.keep HB9.out) (by omega) (by rw [← HLL.out]; omega)).mono ?_
          rintro e5 u1 ⟨at5, rfl, _, hA, b5⟩
          rw [← HLL.out] at hA
          have HB10 := Lib.hid (HB9.out.trans (b5.mono HB9.out.size))
          have HPX10 := Lib.hid ((HPX9.out.keep b5).more b5.size)
          have HTO10 := Lib.hid (HTO.out.keep b5)
          have CS := Lib.hid (scan_free u1 at5 (paths l) l hA line aline cline (LL.out u1 HB10.out).1 (by omega))
          rw [HZ.out] at CS
          clear hA b5 HB9 HPX9 HTO
          go_wp2_with fail
          refine CS.out.mono ?_
          rintro e6 u2 ⟨A, cA, rfl, hpA, _, hb6⟩
          have HB11 := Lib.hid (HB10.out.trans (hb6.mono HB10.out.size))
          have HPX11 := Lib.hid ((HPX10.out.keep hb6).more hb6.size)
          have HTO11 := Lib.hid (HTO10.out.keep hb6)
          have HS1 := Lib.hid (same_any Z Z aX A cX cA u2 (by omega) HPX11.out hpA)
          rw [decide_eq_true (rfl : Z = Z)] at HS1
          clear hpA hb6 CS HB10 HPX10 HTO10
          go_wp2_with fail
          refine HS1.out.mono ?_
          rintro e7 u3 ⟨rfl, d, rfl⟩
          have b7 : Below u2.heap.size u2 (u2.drewN d) := below_drews (Below.refl _ _) d
          have HB12 := Lib.hid (HB11.out.trans (b7.mono HB11.out.size))
          have HPX12 := Lib.hid ((HPX11.out.keep b7).more b7.size)
          have HTO12 := Lib.hid (HTO11.out.keep b7)
          clear b7 HB11 HPX11 HTO11 HS1
          generalize u2.drewN d = u4 at *
          go_wp2_with fail
          refine (wnew_any u4 R ao co HTO12.out (by omega) (fun z h => Nat.le_trans (HT40.out z h) (by omega)) (Nat.le_trans HTT.out (by omega))).mono ?_
          rintro e8 u5 ⟨p2, rfl, hcw2, hb8⟩
          have HB13 := Lib.hid (HB12.out.trans (hb8.mono HB12.out.size))
          have HPX13 := Lib.hid ((HPX12.out.keep hb8).more hb8.size)
          have CS := Lib.hid (wscan_any u5 p2 (R.map TxV.text) hcw2 line aline cline (LL.out u5 HB13.out) (by omega))
          rw [HSC.out] at CS
          clear hcw2 hb8 HB12 HPX12 HTO12
          go_wp2_with fail
          refine CS.out.mono ?_
          rintro e9 u6 ⟨A2, cA2, rfl, hpA, hb9⟩
          have HB14 := Lib.hid (HB13.out.trans (hb9.mono HB13.out.size))
          have HPX14 := Lib.hid ((HPX13.out.keep hb9).more hb9.size)
          have HS2 := Lib.hid (same_any Z Z aX A2 cX cA2 u6 (by omega) HPX14.out hpA)
          rw [decide_eq_true (rfl : Z = Z)] at HS2
          clear hpA hb9 CS HB13 HPX13
          go_wp2_with fail
          refine HS2.out.mono ?_
          rintro e10 u7 ⟨rfl, d2, rfl⟩
          go_wp2
          go_ret
          exact ⟨rfl, HB.out.trans ((below_drews HB14.out d2).mono HB.out.size)⟩
  · have hfi : (300 : Int) < (line.length : Int) := by omega
    go_wp2
    go_ret
    exact ⟨rfl, HB.out⟩
theorem walk (w : World) (xs : List TxV) (a0 : Option Addr) (cap0 : Nat) (hz0 : xs.length ≤ 6000000000000) (hx0 : ∀ x ∈ xs, x.text.length ≤ maxLen) (hts : Ts w a0 xs) (line : Tx) (aline : Option Addr) (cline : Nat) (hmline : line.length ≤ maxLen) (hbline : Bs w w.heap.size aline line) (hnline : aline = none → cline = 0) (hcline : line.length ≤ cline) (t : UInt8) :
    Calls Try.prog 5 #[.slice a0 xs.length cap0, .slice aline line.length cline, .int .u8 (t.toNat : Int)] w fun e w' => e = .returned (.bool true) ∧ Below w.heap.size w w' := by
  by_cases hall : xs.length ≤ 12 ∧ (∀ x ∈ xs, x.text.length ≤ 40)
  · exact small w xs a0 cap0 hts hall.1 hall.2 line aline cline hmline hbline hnline hcline t
  · clear hmline hbline hnline hcline
    have HALL := Lib.hid hall
    have HX := Lib.hid hx0
    clear hall hx0
    go_enter Try.func5, Try.ntmps5
    go_wp2_with fail
    refine (Wal.awake_any _).mono ?_
    rintro e' w1 ⟨rfl, hb2⟩
    have ts1 := hts.keep hb2
    go_wp2_with fail
    refine (ltexts_any xs a0 cap0 w1 ts1 hz0 HX.out).mono ?_
    rintro e' w2 ⟨hb3, hcase⟩
    have B2 := hb2.trans (hb3.mono hb2.size)
    rcases hcase with ⟨_, rfl⟩ | ⟨hok, aL, cL, rfl, _⟩
    · go_wp2
      go_ret
      exact ⟨rfl, B2⟩
    · have h12 : ¬ xs.length ≤ 12 := fun h => HALL.out ⟨h, hok⟩
      rw [decide_eq_false h12]
      clear HALL hok
      go_wp2
      go_ret
      exact ⟨rfl, B2⟩
end Go.Proofs.Ytmbglghpnloggaa.cwalterSparse
