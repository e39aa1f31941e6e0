/- The reference: Fits, Ends. -/
import Derived.Test.YtmbglghpnloggaaRa
import Derived.Test.YtmbglghpnloggaaGN
namespace Go.Proofs.Ytmbglghpnloggaa.Wal
open Go.Proofs.Ytmbglghpnloggaa.Tri Go.Proofs.Ytmbglghpnloggaa.Lnk Go.Proofs.Ytmbglghpnloggaa.Prs Go.Proofs.Ytmbglghpnloggaa.Spa Go.Proofs.Ytmbglghpnloggaa.Cwl Go.Proofs.Ytmbglghpnloggaa.Bck Go.Proofs.Ytmbglghpnloggaa.Wal Go.Proofs.Ytmbglghpnloggaa.Lit Go.Proofs.Ytmbglghpnloggaa.Reg Go.RowKit Go.Maps
set_option maxRecDepth 100000
set_option linter.unusedVariables false

set_option maxHeartbeats 2000000 in
theorem rfits_any (w : World) (p : List Tx) (aP : Option Addr) (cP : Nat) (hsP : Ss w aP p) (hp : p.length ≤ 1000000) (line : Tx) (hl : line.length ≤ 1000000) (e : Nat) (he : e ≤ line.length) :
    Calls Try.prog 33 #[.slice aP p.length cP, .string (str line), .int .i64 (e : Int)] w fun x w' => x = .returned (.string (str (backN line e (fits p line e)))) ∧ w = w' := by
  have hz := str_size line
  have hfe := fits_le p line e
  have HSP := Lib.hid hsP
  clear hsP
  go_enter Try.func33, Try.ntmps33
  go_wp2
  go_loop [7, 8] (fun vs vi => ∃ (n : Nat) (i : Int), n ≤ e ∧ n ≤ fits p line e ∧ vs = .string (str (backN line e n)) ∧ vi = .int .i64 i ∧ i = (e : Int) - 1 - n) (fun _ vi => (intOf vi + 1).toNat)
  case atStart => exact ⟨0, _, Nat.zero_le _, Nat.zero_le _, by rw [backN_zero]; rfl, rfl, by omega⟩
  case round =>
    obtain ⟨n, i, hn, hnf, rfl, rfl, hi⟩ := hrel
    have hzs : (str (backN line e n)).size = n := by rw [str_size, backN_len he hn]
    by_cases hne : n < e
    · obtain ⟨I, hI⟩ : ∃ I : Nat, I = e - 1 - n := ⟨_, rfl⟩
      obtain rfl : i = (I : Int) := by omega
      have hIl : I < line.length := by omega
      obtain ⟨y, hy⟩ : ∃ y, y = line[I] := ⟨_, rfl⟩
      have hpc := Lnk.str_piece line I hIl
      rw [← hy] at hpc
      have hz1 : (str [y]).size = 1 := str_size [y]
      have HSU : Hid (backN line e (n + 1) = backN line e n ++ [y]) := Lib.hid (by rw [backN_succ he hne, hy]; simp only [hI])
      have hap := str_append (backN line e n) [y]
      rw [← HSU.out] at hap
      obtain ⟨E, hE⟩ : ∃ E, E = I + 1 := ⟨_, rfl⟩
      have hwE : IntKind.i64.wrap ((I : Int) + 1) = (E : Int) := by rw [IntWalk.i64_in _ (by omega)]; omega
      rw [← hE] at hpc
      have h1 : (E : Int) ≤ (line.length : Int) := by omega
      have h2 : (I : Int) ≤ (E : Int) := by omega
      have HPL := Lib.hid (place_any w p aP cP HSP.out (by omega) (backN line e (n + 1)))
      have HI := Lib.hid hI
      have hno : ¬ 9223372036854775807 < n + 1 := by omega
      have HIF := Lib.hid (fits_next (p := p) hne hnf)
      clear hy hE hI hi
      by_cases hin : backN line e (n + 1) ∈ p
      · have hp0 : ¬ place p (backN line e (n + 1)) < 0 := by have := (place_nonneg p (backN line e (n + 1))).2 hin; omega
        have HN2 := Lib.hid (HIF.out.1 hin)
        clear hin
        generalize place p (backN line e (n + 1)) = pl at *
        obtain ⟨nx, hnx⟩ : ∃ nx, nx = backN line e (n + 1) := ⟨_, rfl⟩
        rw [← hnx] at HPL hap
        have HNX := Lib.hid hnx
        clear hnx
        go_wp2_with fail
        refine HPL.out.mono ?_
        rintro e' w' ⟨rfl, rfl⟩
        go_wp2
        exact ⟨⟨n + 1, (I : Int) - 1, by omega, HN2.out, by rw [HNX.out], by go_num, by have := HI.out; omega⟩, by simp [intOf]⟩
      · have hp0 : place p (backN line e (n + 1)) < 0 := by rw [place_not hin]; omega
        have HN2 : Hid (n = fits p line e) := Lib.hid (by
          have h3 : ¬ n < fits p line e := fun h => hin (HIF.out.2 h)
          omega)
        clear hin
        generalize place p (backN line e (n + 1)) = pl at *
        generalize backN line e (n + 1) = nx at *
        go_wp2_with fail
        refine HPL.out.mono ?_
        rintro e' w' ⟨rfl, rfl⟩
        go_wp2
        go_ret
        exact ⟨by rw [← HN2.out]; rfl, rfl⟩
    · obtain rfl : i = -1 := by omega
      have HN2 : Hid (fits p line e = n) := Lib.hid (by omega)
      go_wp2
      go_ret
      exact ⟨by rw [HN2.out]; rfl, rfl⟩
set_option maxHeartbeats 8000000 in
theorem rends_any (w : World) (l : List Tx) (aL : Option Addr) (cL : Nat) (hs : Ss w aL l) (hl : l.length ≤ 1000) (hx : ∀ x ∈ l, x.length ≤ 1000) (hz : tot l ≤ 100000) (line : Tx) (hll : line.length ≤ 1000) :
    Calls Try.prog 18 #[.slice aL l.length cL, .string (str line)] w (GivesInts w (windsOf l line)) := by
  have hzl := str_size line
  have HTD := Lib.hid (rturned_any w l aL cL hs (by omega) (fun x h => Nat.le_trans (hx x h) (by omega)))
  have hT40 : ∀ x ∈ turned l, x.length ≤ 1000 := fun x h => by
    have := hx _ ((mem_turned l x).1 h).2
    rwa [List.length_reverse] at this
  have htl : (turned l).length ≤ 1000 := by have := turned_len l; omega
  have htt := turned_tot l
  have hps : (paths (turned l)).length ≤ 100001 := by have := paths_len (turned l); omega
  have hsh : ∀ z ∈ paths (turned l), z.length ≤ 1000 := fun z hz => path_short0 hT40 hz
  have hq0 : ∀ z ∈ turned l, 0 < z.length := fun z h => turned_ne h
  have HWD : Hid (windsOf l line = if turned l = [] then [] else ints (windows l line (line.length + 1) (Cwl.leastOf (turned l)))) := Lib.hid rfl
  have HMV := Lib.hid (fun e h => move_is l line e h)
  have HMP : Hid (turned l ≠ [] → ∀ e, 0 < moveOf l line e) := Lib.hid fun h e => move_pos h line e
  have hle := leastTo_is (l := turned l) hq0
  have hlp : turned l ≠ [] → 0 < Cwl.leastOf (turned l) := fun h => least_pos hq0 h
  have hlb : Cwl.leastOf (turned l) ≤ 1000 := by
    by_cases h : turned l = []
    · rw [h]; exact Nat.zero_le _
    · obtain ⟨x, hx, e⟩ := Cwl.least_is h
      rw [e]; exact hT40 x hx
  clear hs hx
  generalize hp : paths (turned l) = p at *
  generalize hq : turned l = q at *
  have HPP := Lib.hid hp
  have HLE := Lib.hid hle
  have HQ0 := Lib.hid hq0
  have HSH := Lib.hid hsh
  have HT := Lib.hid hT40
  clear hp hq hle hq0 hsh hT40
  go_enter Try.func18, Try.ntmps18
  go_wp2_with fail
  refine HTD.out.mono ?_
  rintro e' w1 ⟨aT, cT, rfl, hsT, hb1⟩
  have HB1 := Lib.hid hb1
  have HST := Lib.hid hsT
  have HPA := Lib.hid (paths_any w1 q aT cT hsT (by omega) (by omega))
  clear hb1 hsT HTD
  go_wp2_with fail
  refine HPA.out.mono ?_
  rintro e' w2 ⟨aP, cP, rfl, hsP, hb2⟩
  have HB2 := Lib.hid (HB1.out.trans (hb2.mono HB1.out.size))
  have HST2 := Lib.hid (HST.out.keep hb2)
  have HSP := Lib.hid (hsP)
  clear hb2 hsP HPA HST HB1
  rw [HPP.out] at HSP
  rw [HPP.out]
  have HLC := Lib.hid (rleast_any w2 q aT cT HST2.out (by omega))
  go_wp2_with fail
  refine HLC.out.mono ?_
  rintro e' w2' ⟨rfl, rfl⟩
  rw [HLE.out]
  clear HLC HLE
  have HMB : Hid (∀ e, e ≤ line.length → moveOf l line e ≤ 1000) := Lib.hid fun e hel => by
    rw [HMV.out e hel]
    split
    · exact Nat.le_trans (far_le _ _ _ _) (Nat.le_trans (second_le _ _) hlb)
    · exact Nat.le_trans (second_le _ _) hlb
  generalize Cwl.leastOf q = m at *
  go_wp2
  by_cases hq : q = []
  · have hqi : ¬ (0 : Int) < (q.length : Int) := by rw [hq]; simp
    have HW : Hid (windsOf l line = []) := Lib.hid (by rw [HWD.out, if_pos hq])
    clear hq
    go_loopw [7, 8] (fun vo ve wr => vo = .slice none 0 0 ∧ ve = .int .i64 (m : Int) ∧ w2 = wr) (fun _ _ _ => 0)
    case atStart => exact ⟨rfl, rfl, rfl⟩
    case round =>
      obtain ⟨rfl, rfl, rfl⟩ := hrel
      go_wp2
      go_ret
      exact ⟨none, 0, by rw [HW.out]; rfl, by rw [HW.out]; exact fun h => absurd h (by simp), fun _ => rfl, HB2.out⟩
  · have hqi : (0 : Int) < (q.length : Int) := by have := List.length_pos_iff.2 hq; omega
    have HW : Hid (windsOf l line = ints (windows l line (line.length + 1) m)) := Lib.hid (by rw [HWD.out, if_neg hq])
    have HPOS := Lib.hid (HMP.out hq)
    have hm0 := hlp hq
    clear hq hlp
    go_loopw [7, 8] (fun vo ve wr => ∃ (done : List Nat) (e f : Nat), ve = .int .i64 (e : Int) ∧ wr.ownsRow w2.heap.size 3 1 vo (ints done).length (ivals (ints done)) ∧ 0 < e ∧ e ≤ 100000 ∧ line.length < e + f ∧ windows l line (line.length + 1) m = done ++ windows l line f e ∧ Below w2.heap.size w2 wr) (fun _ ve _ => line.length + 1 - (intOf ve).toNat)
    case atStart => exact ⟨[], m, line.length + 1, rfl, ⟨rfl, Or.inl ⟨rfl, rfl⟩⟩, hm0, by omega, by omega, rfl, Below.refl _ _⟩
    case round =>
      obtain ⟨done, e, f, rfl, hown, he0, heb, hef, hwi, hbel⟩ := hrel
      have hsz := hbel.size
      by_cases hel : e ≤ line.length
      · have heli : (e : Int) ≤ (line.length : Int) := by omega
        have hdl : (ints done).length ≤ 1001 := by
          have h1 := winds_len l line (line.length + 1) m
          rw [hwi, List.length_append] at h1
          unfold ints
          rw [List.length_map]
          omega
        have HO := Lib.hid hown
        have HBW := Lib.hid hbel
        have HWI : Hid (windows l line (line.length + 1) m = (done ++ [e]) ++ windows l line (f - 1) (e + moveOf l line e)) := Lib.hid (by rw [hwi, windows_go hel hef, List.append_assoc]; rfl)
        have hmv := HPOS.out e
        have hmb := HMB.out e hel
        clear hown hbel hwi
        go_wp2_with (at_builtin; refine app_is rfl _ _ rfl w2.heap.size _ _ (ints done) (e : Int) rfl (HO.out.alloc _) ⟨wr.heap.size, 0, none⟩ rfl (cell_new_at _ _ rfl) (by omega) (by simp; omega) ?_; intro v3 w3 hown3 hg3; have HO3 := Lib.hid hown3; have HB3 := Lib.hid ((HBW.out.alloc hsz _).grown hg3 (by simp; omega) (fun k hk => own_ge HO.out hk)); clear hown3 hg3)
        have hfe := fits_le p line e
        have hzs : (str (backN line e (fits p line e))).size = fits p line e := by rw [str_size, backN_len hel hfe]
        have HFI := Lib.hid (rfits_any w3 p aP cP (HSP.out.keep HB3.out) (by omega) line (by omega) e hel)
        have HMVe := Lib.hid (HMV.out e hel)
        obtain ⟨E, hE⟩ : ∃ E, E = e + moveOf l line e := ⟨_, rfl⟩
        have hwE : IntKind.i64.wrap ((e : Int) + (moveOf l line e : Int)) = (E : Int) := by rw [IntWalk.i64_in _ (by omega)]; omega
        have HE := Lib.hid hE.symm
        have hEe : e < E := by omega
        have hEb : E ≤ e + 1000 := by omega
        have HO6 : Hid (w3.ownsRow w2.heap.size 3 1 v3 (ints (done ++ [e])).length (ivals (ints (done ++ [e])))) := Lib.hid (by
          have := HO3.out
          rw [ints_snoc, List.length_append]
          exact this)
        have HB6 := HB3
        have hbl : (backN line e (fits p line e)).length ≤ 1000 := by rw [backN_len hel hfe]; omega
        clear hE
        refine HFI.out.mono ?_
        rintro e' w3' ⟨rfl, rfl⟩
        clear HFI
        by_cases hfl : fits p line e < e
        · have hfli : ((fits p line e : Nat) : Int) < (e : Int) := by omega
          obtain ⟨I1, hI1⟩ : ∃ I1, I1 = e - 1 := ⟨_, rfl⟩
          obtain ⟨I, hI⟩ : ∃ I, I = I1 - fits p line e := ⟨_, rfl⟩
          have hw1 : IntKind.i64.wrap ((e : Int) - 1) = (I1 : Int) := by rw [IntWalk.i64_in _ (by omega)]; omega
          have hw2 : IntKind.i64.wrap ((I1 : Int) - ((fits p line e : Nat) : Int)) = (I : Int) := by rw [IntWalk.i64_in _ (by omega)]; omega
          have hIl : I < line.length := by omega
          have hIi : (I : Int) < (line.length : Int) := by omega
          have hya := str_at line I hIl
          have HFA : Hid (Calls Try.prog 34 #[.slice aT q.length cT, .slice aP p.length cP, .string (str (backN line e (fits p line e))), .int .u8 (line[I].toNat : Int)] w3 fun x w' => x = .returned (.int .i64 (moveOf l line e : Int)) ∧ w3 = w') := Lib.hid (by
            have := Go.Proofs.Ytmbglghpnloggaa.Shf.rfar_any w3 q p aT aP cT cP (HST2.out.keep HB3.out) (HSP.out.keep HB3.out) (by omega) (by omega) HQ0.out (fun z h => Nat.le_trans (HT.out z h) (by omega)) (fun z h => Nat.le_trans (HSH.out z h) (by omega)) (backN line e (fits p line e)) (by omega) line[I]
            have e1 : moveOf l line e = farOf q p (backN line e (fits p line e)) line[I] := by
              rw [HMVe.out, if_pos hfl]
              congr 1
              rw [List.getD_eq_getElem?_getD, List.getElem?_eq_getElem (by omega)]
              simp only [hI, hI1]
              rfl
            rwa [← e1] at this)
          clear hI hI1 hmv hmb HMVe
          generalize line[I] = y at *
          generalize backN line e (fits p line e) = bs at *
          generalize fits p line e = ft at *
          generalize moveOf l line e = mv at *
          go_wp2_with fail
          refine HFA.out.mono ?_
          rintro e' w3' ⟨rfl, rfl⟩
          go_wp2
          exact ⟨⟨done ++ [e], E, f - 1, rfl, HO6.out, by omega, by omega, by omega, by rw [HWI.out, HE.out], HB6.out⟩, by simp [intOf]; omega⟩
        · have hfq : fits p line e = e := by omega
          have hfli : ¬ ((fits p line e : Nat) : Int) < (e : Int) := by omega
          have HSC : Hid (Calls Try.prog 35 #[.slice aT q.length cT, .string (str (backN line e (fits p line e)))] w3 fun x w' => x = .returned (.int .i64 (moveOf l line e : Int)) ∧ w3 = w') := Lib.hid (by
            have := Go.Proofs.Ytmbglghpnloggaa.Shf.rsecond_any w3 q aT cT (HST2.out.keep HB3.out) (by omega) HQ0.out (fun z h => Nat.le_trans (HT.out z h) (by omega)) (backN line e (fits p line e)) (by omega)
            have e1 : moveOf l line e = secondOf q (backN line e (fits p line e)) := by rw [HMVe.out, if_neg hfl]
            rwa [← e1] at this)
          clear hfq hmv hmb HMVe
          generalize backN line e (fits p line e) = bs at *
          generalize fits p line e = ft at *
          generalize moveOf l line e = mv at *
          go_wp2_with fail
          refine HSC.out.mono ?_
          rintro e' w3' ⟨rfl, rfl⟩
          go_wp2
          exact ⟨⟨done ++ [e], E, f - 1, rfl, HO6.out, by omega, by omega, by omega, by rw [HWI.out, HE.out], HB6.out⟩, by simp [intOf]; omega⟩
      · have heli : ¬ (e : Int) ≤ (line.length : Int) := by omega
        rw [windows_end (f := f) (e := e) (by omega), List.append_nil] at hwi
        obtain ⟨a, cp, rfl, h1, h2⟩ := own_is hown
        have HR := Lib.hid h1
        have HBW := Lib.hid hbel
        have HN := Lib.hid h2
        have HWI := Lib.hid hwi
        clear hown h1 h2 hbel hwi
        go_wp2
        go_ret
        exact ⟨a, cp, by rw [HW.out, HWI.out]; rfl, by rw [HW.out, HWI.out]; exact HR.out, HN.out, HB2.out.trans (HBW.out.mono HB2.out.size)⟩
end Go.Proofs.Ytmbglghpnloggaa.Wal
