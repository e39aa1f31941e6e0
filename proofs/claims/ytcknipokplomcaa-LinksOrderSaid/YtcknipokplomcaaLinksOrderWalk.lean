/- The walk of LinksOrder. -/
import Derived.Test.YtcknipokplomcaaLj
namespace Go.Proofs.Ytcknipokplomcaa.linksOrder
open Go.Proofs.Ytcknipokplomcaa.Tri Go.Proofs.Ytcknipokplomcaa.Lnk Go.Proofs.Ytcknipokplomcaa.Reg Go.RowKit Go.Maps

set_option maxRecDepth 100000 in
set_option maxHeartbeats 8000000 in
/-- Texts that are few and short. -/
theorem small (w : World) (xs : List TxV) (a0 : Option Addr) (cap0 : Nat) (hts : Ts w a0 xs) (h0 : xs.length ≤ 12) (hx : ∀ x ∈ xs, x.text.length ≤ 40) :
    Calls Try.prog 4 #[.slice a0 xs.length cap0] w fun e w' => e = .returned (.bool true) ∧ Below w.heap.size w w' := by
  have hx' : ∀ x ∈ xs, x.text.length ≤ maxLen := fun x h => Nat.le_trans (hx x h) (by unfold maxLen; omega)
  have htot := few_tot h0 hx
  have hps := few_len htot
  have hsh : ∀ p ∈ paths (xs.map TxV.text), p.length ≤ 40 := fun p hp => path_short (fun x h => by
    obtain ⟨y, hy, rfl⟩ := List.mem_map.1 h
    exact hx y hy) hp
  have HSH := Lib.hid hsh
  have HX := Lib.hid hx
  have HX' := Lib.hid hx'
  clear hx hx' hsh
  go_enter Try.func4, Try.ntmps4
  go_wp2_with fail
  refine (awake_any _).mono ?_
  rintro e' w1 ⟨rfl, hb2⟩
  have ts1 := hts.keep hb2
  go_wp2_with fail
  refine (ltexts_any xs a0 cap0 w1 ts1 (by omega) HX'.out).mono ?_
  rintro e' w2 ⟨hb3, hcase⟩
  rcases hcase with ⟨hbad, _⟩ | ⟨_, aL, cL, rfl, hsL⟩
  · exact absurd HX.out hbad
  rw [decide_eq_true h0]
  have ts2 := ts1.keep hb3
  have B2 := hb2.trans (hb3.mono hb2.size)
  clear hb2 hb3 ts1 hts
  go_wp2_with fail
  refine (build_any w2 xs a0 cap0 ts2 (by omega) (by omega)).mono ?_
  rintro e' W0 ⟨t, rfl, htr, hb4⟩
  obtain ⟨l, hl⟩ : ∃ l, l = xs.map TxV.text := ⟨_, rfl⟩
  have HLN : Hid (xs.length = l.length) := Lib.hid (by rw [hl]; simp)
  rw [← hl] at htr hps HSH hsL htot
  clear hl HX HX'
  have HPT : Hid (∀ X, Ss X aL l → Calls Try.prog 11 #[.slice aL xs.length cL] X (GivesSs X (paths l))) := Lib.hid fun X hX => by
    have := paths_any X l aL cL hX (by rw [← HLN.out]; omega) (by omega)
    rwa [← HLN.out] at this
  generalize hpp : paths l = ps at *
  clear hpp
  have hsL0 := hsL.keep hb4
  have HB0 := Lib.hid (B2.trans (hb4.mono B2.size))
  go_wp2_with fail
  refine (lbuild_any W0 w2.heap.size t ps l htr (by omega)).mono ?_
  rintro e' W1 ⟨x, rfl, hli, hb5⟩
  have HB := Lib.hid (HB0.out.trans (hb5.mono HB0.out.size))
  have HT : Hid (∀ X, Below W1.heap.size W1 X → Tr X w2.heap.size t ps l) := Lib.hid fun X hX => (htr.keep hb5).keep hX
  have HL : Hid (∀ X, Below W1.heap.size W1 X → Li X W0.heap.size x ps l) := Lib.hid fun X hX => hli.keep hX
  have HSL : Hid (∀ X, Below W1.heap.size W1 X → Ss X aL l) := Lib.hid fun X hX => (hsL0.keep hb5).keep hX
  have HW := Lib.hid htr.2.1
  have HLS := Lib.hid htr.2.2.1
  have hpos := htr.2.1.pos
  clear ts2 B2 hb4 hb5 hsL hsL0 htr hli HB0
  generalize w2.heap.size = s at *
  generalize W0.heap.size = s2 at *
  have B1 := Lib.hid (Below.refl W1.heap.size W1)
  have C := order_any W1 s2 x ps l (HL.out _ B1.out)
  go_wp2_with fail
  refine C.mono ?_
  rintro e' W2 ⟨ao, co, rfl, hio, _, hb6⟩
  have B2 := Lib.hid hb6
  have HIO := Lib.hid hio
  clear C B1 hb6 hio
  have C := HPT.out W2 (HSL.out _ B2.out)
  go_wp2_with fail
  refine C.mono ?_
  rintro e' W3 ⟨aP, cP, rfl, hsP, hb7⟩
  have B3 := Lib.hid (B2.out.trans (hb7.mono B2.out.size))
  have HIO3 := Lib.hid ((HIO.out.keep hb7).more hb7.size)
  clear C hb7 B2 HIO
  have C : Calls Try.prog 21 #[.slice aP ps.length cP] W3 (GivesInts W3 (ordN ps)) := rorder_any W3 ps aP cP HW.out hsP (by omega) (fun p hp => by have := HSH.out p hp; omega)
  go_wp2_with fail
  refine C.mono ?_
  rintro e' W4 ⟨ar, cr, rfl, hir, _, hb8⟩
  have B4 := Lib.hid (B3.out.trans (hb8.mono B3.out.size))
  have HIO4 := Lib.hid ((HIO3.out.keep hb8).more hb8.size)
  clear C hb8 B3 HIO3 hsP
  have hol : (ordN ps).length ≤ 1000000 := by rw [ordN_len HW.out]; omega
  have C := isame_any W4 (ordN ps) (ordN ps) ao ar co cr _ HIO4.out hir (by omega) (by omega)
  rw [decide_eq_true rfl] at C
  generalize ordN ps = o at *
  clear hir HIO4
  go_wp2_with fail
  refine C.mono ?_
  rintro e' W5 ⟨rfl, q, rfl⟩
  have B5 := Lib.hid (below_drews B4.out q)
  clear C B4
  go_wp2
  go_ret
  exact ⟨rfl, HB.out.trans (B5.out.mono HB.out.size)⟩
set_option maxRecDepth 100000 in
set_option maxHeartbeats 8000000 in
theorem walk (w : World) (xs : List TxV) (a0 : Option Addr) (cap0 : Nat) (hz0 : xs.length ≤ 6000000000000) (hx0 : ∀ x ∈ xs, x.text.length ≤ maxLen) (hts : Ts w a0 xs) :
    Calls Try.prog 4 #[.slice a0 xs.length cap0] w fun e w' => e = .returned (.bool true) ∧ Below w.heap.size w w' := by
  by_cases hall : xs.length ≤ 12 ∧ (∀ x ∈ xs, x.text.length ≤ 40)
  · exact small w xs a0 cap0 hts hall.1 hall.2
  · have HALL := Lib.hid hall
    have HX := Lib.hid hx0
    clear hall hx0
    go_enter Try.func4, Try.ntmps4
    go_wp2_with fail
    refine (awake_any _).mono ?_
    rintro e' w1 ⟨rfl, hb2⟩
    have ts1 := hts.keep hb2
    go_wp2_with fail
    refine (ltexts_any xs a0 cap0 w1 ts1 hz0 HX.out).mono ?_
    rintro e' w2 ⟨hb3, hcase⟩
    have B2 := hb2.trans (hb3.mono hb2.size)
    rcases hcase with ⟨_, rfl⟩ | ⟨hok, aL, cL, rfl, _⟩
    · go_wp2
      go_ret
      exact ⟨rfl, B2⟩
    · have h12 : ¬ xs.length ≤ 12 := fun h => HALL.out ⟨h, hok⟩
      rw [decide_eq_false h12]
      clear HALL hok
      go_wp2
      go_ret
      exact ⟨rfl, B2⟩
end Go.Proofs.Ytcknipokplomcaa.linksOrder
