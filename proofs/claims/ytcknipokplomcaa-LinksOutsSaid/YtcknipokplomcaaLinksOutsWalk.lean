/- The walk of LinksOuts. -/
import Derived.Test.YtcknipokplomcaaLj
namespace Go.Proofs.Ytcknipokplomcaa.linksOuts
open Go.Proofs.Ytcknipokplomcaa.Tri Go.Proofs.Ytcknipokplomcaa.Lnk Go.Proofs.Ytcknipokplomcaa.Reg Go.RowKit Go.Maps

set_option maxRecDepth 100000 in
set_option maxHeartbeats 8000000 in
/-- Texts that are few and short. -/
theorem small (w : World) (xs : List TxV) (a0 : Option Addr) (cap0 : Nat) (hts : Ts w a0 xs) (h0 : xs.length ≤ 12) (hx : ∀ x ∈ xs, x.text.length ≤ 40) :
    Calls Try.prog 6 #[.slice a0 xs.length cap0] w fun e w' => e = .returned (.bool true) ∧ Below w.heap.size w w' := by
  have hx' : ∀ x ∈ xs, x.text.length ≤ maxLen := fun x h => Nat.le_trans (hx x h) (by unfold maxLen; omega)
  have htot := few_tot h0 hx
  have hps := few_len htot
  have hsh : ∀ p ∈ paths (xs.map TxV.text), p.length ≤ 40 := fun p hp => path_short (fun x h => by
    obtain ⟨y, hy, rfl⟩ := List.mem_map.1 h
    exact hx y hy) hp
  have HSH := Lib.hid hsh
  have HX := Lib.hid hx
  have HX' := Lib.hid hx'
  clear hx hx' hsh
  go_enter Try.func6, Try.ntmps6
  go_wp2_with fail
  refine (awake_any _).mono ?_
  rintro e' w1 ⟨rfl, hb2⟩
  have ts1 := hts.keep hb2
  go_wp2_with fail
  refine (ltexts_any xs a0 cap0 w1 ts1 (by omega) HX'.out).mono ?_
  rintro e' w2 ⟨hb3, hcase⟩
  rcases hcase with ⟨hbad, _⟩ | ⟨_, aL, cL, rfl, hsL⟩
  · exact absurd HX.out hbad
  rw [decide_eq_true h0]
  have ts2 := ts1.keep hb3
  have B2 := hb2.trans (hb3.mono hb2.size)
  clear hb2 hb3 ts1 hts
  go_wp2_with fail
  refine (build_any w2 xs a0 cap0 ts2 (by omega) (by omega)).mono ?_
  rintro e' W0 ⟨t, rfl, htr, hb4⟩
  obtain ⟨l, hl⟩ : ∃ l, l = xs.map TxV.text := ⟨_, rfl⟩
  have HLN : Hid (xs.length = l.length) := Lib.hid (by rw [hl]; simp)
  rw [← hl] at htr hps HSH hsL htot
  clear hl HX HX'
  have HPT : Hid (∀ X, Ss X aL l → Calls Try.prog 11 #[.slice aL xs.length cL] X (GivesSs X (paths l))) := Lib.hid fun X hX => by
    have := paths_any X l aL cL hX (by rw [← HLN.out]; omega) (by omega)
    rwa [← HLN.out] at this
  generalize hpp : paths l = ps at *
  clear hpp
  have hsL0 := hsL.keep hb4
  have HB0 := Lib.hid (B2.trans (hb4.mono B2.size))
  go_wp2_with fail
  refine (lbuild_any W0 w2.heap.size t ps l htr (by omega)).mono ?_
  rintro e' W1 ⟨x, rfl, hli, hb5⟩
  have HB := Lib.hid (HB0.out.trans (hb5.mono HB0.out.size))
  have HT : Hid (∀ X, Below W1.heap.size W1 X → Tr X w2.heap.size t ps l) := Lib.hid fun X hX => (htr.keep hb5).keep hX
  have HL : Hid (∀ X, Below W1.heap.size W1 X → Li X W0.heap.size x ps l) := Lib.hid fun X hX => hli.keep hX
  have HSL : Hid (∀ X, Below W1.heap.size W1 X → Ss X aL l) := Lib.hid fun X hX => (hsL0.keep hb5).keep hX
  have HW := Lib.hid htr.2.1
  have HLS := Lib.hid htr.2.2.1
  have hpos := htr.2.1.pos
  clear ts2 B2 hb4 hb5 hsL hsL0 htr hli HB0
  generalize w2.heap.size = s at *
  generalize W0.heap.size = s2 at *
  have HN := Lib.hid (fun X h => nodes_any X s t ps l (HT.out X h))
  go_wp2
  go_loopw [8] (fun i wr => ∃ k : Nat, k ≤ ps.length ∧ i = .int .i64 k ∧ Below W1.heap.size W1 wr) (fun i _ => ps.length - (intOf i).toNat)
  case atStart => exact ⟨0, Nat.zero_le _, rfl, Below.refl _ _⟩
  case round =>
    obtain ⟨k, hk, rfl, hbel⟩ := hrel
    by_cases hlt : k < ps.length
    · have hkl : (k : Int) < (ps.length : Int) := by omega
      have h40 := HSH.out _ (List.getElem_mem hlt)
      have HWORD : Hid (∀ X, Below W1.heap.size W1 X → Calls Try.prog 25 #[.pointer (some ⟨t, 0, none⟩), .int .i64 (k : Int)] X fun e w' => e = .returned (.int .i64 (place l ps[k])) ∧ Below X.heap.size X w') := Lib.hid fun X hX => by
        have := word_any X s t ps l (HT.out _ hX) (k : Int)
        rwa [wordOf_at l hlt] at this
      have HDEP : Hid (∀ X, Below W1.heap.size W1 X → Calls Try.prog 26 #[.pointer (some ⟨t, 0, none⟩), .int .i64 (k : Int)] X fun e w' => e = .returned (.int .i64 (ps[k].length : Int)) ∧ Below X.heap.size X w') := Lib.hid fun X hX => by
        have := depth_any X s t ps l (HT.out _ hX) (k : Int)
        rwa [pathD_at hlt] at this
      have HOUT : Hid (∀ X, Below W1.heap.size W1 X → Calls Try.prog 15 #[.pointer (some ⟨x, 0, none⟩), .int .i64 (k : Int)] X fun e w' => e = .returned (.int .i64 (outOf ps l ps[k])) ∧ Below X.heap.size X w') := Lib.hid fun X hX => by
        have := out_any X s2 x ps l (HL.out _ hX) (k : Int)
        rwa [lkAt_in l hlt] at this
      have HENDS : Hid (∀ X, Below W1.heap.size W1 X → Calls Try.prog 18 #[.pointer (some ⟨x, 0, none⟩), .int .i64 (k : Int)] X (GivesInts X (endsOf l ps[k]))) := Lib.hid fun X hX => by
        have := ends_any X s2 x ps l (HL.out _ hX) (k : Int) (by rw [pathD_at hlt]; omega)
        rwa [pathD_at hlt] at this
      have HNil := Lib.hid (HW.out.nil_iff hlt)
      have hel : (endsOf l ps[k]).length ≤ 40 := by have := ends_len l ps[k]; omega
      have HSPL := Lib.hid (ends_split l ps[k])
      have HOS := Lib.hid (out_split HLS.out ps[k])
      have HOP := Lib.hid (own_pos (l := l) (p := ps[k]))
      have HOD : Hid (ps[k] ∈ l → own l ps[k] = ps[k].length) := Lib.hid fun h => by rw [own, if_pos h]
      have HPN := Lib.hid (place_nonneg l ps[k])
      have HBE := Lib.hid hbel
      clear hbel
      generalize ps[k] = p at *
      generalize hE : endsOf l p = E at *
      clear hE
      go_wp2_with (go_at_call 22; (with_reducible refine (HN.out _ HBE.out).mono ?_); rintro e y0 ⟨rfl, rfl⟩; go_wp2_with fail)
      by_cases hpl : p ∈ l
      · have hw0 : 0 ≤ place l p := HPN.out.2 hpl
        by_cases hk0 : k = 0
        · have HEF : Hid (E = [] ++ tailE l p) := Lib.hid (by rw [HSPL.out, if_neg (fun e => (HOP.out.1 e).1 (HNil.out.2 hk0))])
          have hki : ¬ (0 : Int) < (k : Int) := by omega
          clear HSPL HOP HOD HPN HNil hpl hk0
          generalize place l p = Wp at *
          go_wp2_with fail
          refine (HWORD.out _ HBE.out).mono ?_
          rintro e y1 ⟨rfl, hb⟩
          have C1 := Lib.hid (HBE.out.trans (hb.mono HBE.out.size))
          clear hb
          have HO1 : Hid (y1.ownsRow W1.heap.size 3 1 (.slice none 0 0) 0 (ivals [])) := Lib.hid (World.ownsRow_nil _ _ _ _)
          rcases HOS.out with ⟨e1, e2⟩ | ⟨z, z1, z2, z3, z4, z5, z6, z7⟩
          · have HES : Hid (E = []) := Lib.hid (by rw [HEF.out, e2, List.append_nil])
            have hx : outOf ps l p < 0 := by omega
            clear e1 e2
            generalize outOf ps l p = O at *
            go_wp2_with fail
            refine (HOUT.out _ C1.out).mono ?_
            rintro e y2 ⟨rfl, hb⟩
            have C2 := Lib.hid (C1.out.trans (hb.mono C1.out.size))
            have HO2 := Lib.hid (own_keep HO1.out hb)
            clear hb
            go_wp2_with fail
            refine (HENDS.out _ C2.out).mono ?_
            rintro e y3 ⟨aE, cE, rfl, hie, _, hb⟩
            have C3 := Lib.hid (C2.out.trans (hb.mono C2.out.size))
            obtain ⟨av, cv, hv, his, _⟩ := own_is (own_keep HO2.out hb)
            cases hv
            have HS : Calls Try.prog 17 #[.slice aE E.length cE, .slice none 0 0] y3 fun e w' => e = .returned (.bool true) ∧ ∃ q, w' = y3.drewN q := by
              have := isame_any y3 E [] aE none cE 0 _ hie his (by omega) (by rw [← HES.out]; omega)
              rw [decide_eq_true HES.out] at this
              exact this
            clear hb hie his HO2
            go_wp2_with fail
            refine HS.mono ?_
            rintro e y4 ⟨rfl, q, rfl⟩
            have C4 := Lib.hid (below_drews C3.out q)
            clear HS
            go_wp2
            exact ⟨⟨k + 1, by omega, by go_num, C4.out⟩, by simp [intOf]; omega⟩
          · have HWZ : Hid (∀ X, Below W1.heap.size W1 X → Calls Try.prog 25 #[.pointer (some ⟨t, 0, none⟩), .int .i64 (place ps z)] X fun e w' => e = .returned (.int .i64 (place l z)) ∧ Below X.heap.size X w') := Lib.hid fun X hX => by
              have := word_any X s t ps l (HT.out _ hX) (place ps z)
              rwa [(own_word ps l z3).1] at this
            have HDZ : Hid (∀ X, Below W1.heap.size W1 X → Calls Try.prog 26 #[.pointer (some ⟨t, 0, none⟩), .int .i64 (place ps z)] X fun e w' => e = .returned (.int .i64 (z.length : Int)) ∧ Below X.heap.size X w') := Lib.hid fun X hX => by
              have := depth_any X s t ps l (HT.out _ hX) (place ps z)
              rwa [(own_word ps l z3).2] at this
            have HEZ : Hid (∀ X, Below W1.heap.size W1 X → Calls Try.prog 18 #[.pointer (some ⟨x, 0, none⟩), .int .i64 (place ps z)] X (GivesInts X (endsOf l z))) := Lib.hid fun X hX => by
              have := ends_any X s2 x ps l (HL.out _ hX) (place ps z) (by rw [(own_word ps l z3).2]; omega)
              rwa [(own_word ps l z3).2] at this
            have HES : Hid (E = [] ++ endsOf l z) := Lib.hid (by rw [HEF.out, z6])
            have HLE : Hid (0 + (endsOf l z).length ≤ 40) := Lib.hid (by have := congrArg List.length HES.out; simp at this; simp; omega)
            have hx : 0 ≤ place ps z := (place_nonneg ps z).2 z3
            have hy : ¬ place l z < 0 := by have := (place_nonneg l z).2 z1; omega
            have hd1 : ¬ (p.length : Int) ≤ (z.length : Int) := by omega
            rw [z5] at HOUT
            clear z1 z2 z3 z4 z5 z6 z7
            generalize place ps z = O at *
            generalize place l z = Z at *
            generalize endsOf l z = Ez at *
            go_wp2_with fail
            refine (HOUT.out _ C1.out).mono ?_
            rintro e y2 ⟨rfl, hb⟩
            have C2 := Lib.hid (C1.out.trans (hb.mono C1.out.size))
            have HO2 := Lib.hid (own_keep HO1.out hb)
            clear hb
            go_wp2_with fail
            refine (HWZ.out _ C2.out).mono ?_
            rintro e y3 ⟨rfl, hb⟩
            have C3 := Lib.hid (C2.out.trans (hb.mono C2.out.size))
            have HO3 := Lib.hid (own_keep HO2.out hb)
            clear hb HO2
            go_wp2_with fail
            refine (HDZ.out _ C3.out).mono ?_
            rintro e y4 ⟨rfl, hb⟩
            have C4 := Lib.hid (C3.out.trans (hb.mono C3.out.size))
            have HO4 := Lib.hid (own_keep HO3.out hb)
            clear hb HO3
            go_wp2_with fail
            refine (HDEP.out _ C4.out).mono ?_
            rintro e y5 ⟨rfl, hb⟩
            have C5 := Lib.hid (C4.out.trans (hb.mono C4.out.size))
            have HO5 := Lib.hid (own_keep HO4.out hb)
            clear hb HO4
            go_wp2_with fail
            refine (HEZ.out _ C5.out).mono ?_
            rintro e y6 ⟨aZ, cZ, rfl, hiz, hzn, hb⟩
            have C6 := Lib.hid (C5.out.trans (hb.mono C5.out.size))
            have HO6 := Lib.hid (own_keep HO5.out hb)
            have HIZ := Lib.hid hiz
            have HZN := Lib.hid hzn
            have hle := HLE.out
            clear hb HO5 hiz hzn
            go_wp2_with (at_builtin; refine app_isl rfl _ _ rfl W1.heap.size (.slice none 0 0) 0 [] rfl HO6.out aZ Ez cZ _ rfl HIZ.out HZN.out (by omega) (by have := C6.out.size; omega) ?_; intro v7 y7 hown7 hg7; have C7 := Lib.hid (C6.out.grown hg7 C6.out.size (fun q hq => own_ge HO6.out hq)); have HO7 := Lib.hid hown7; clear hown7 hg7 hle; go_wp2_with fail)
            have h7 := HO7.out
            rw [← HES.out] at h7
            obtain ⟨av7, cv7, hv7, _, _⟩ := own_is h7
            subst hv7
            have HO7b := Lib.hid h7
            clear h7 HO7
            refine (HENDS.out _ C7.out).mono ?_
            rintro e y8 ⟨aE, cE, rfl, hie, _, hb⟩
            have C8 := Lib.hid (C7.out.trans (hb.mono C7.out.size))
            obtain ⟨av, cv, hv, his, _⟩ := own_is (own_keep HO7b.out hb)
            cases hv
            have HS : Calls Try.prog 17 #[.slice aE E.length cE, .slice av7 E.length cv7] y8 fun e w' => e = .returned (.bool true) ∧ ∃ q, w' = y8.drewN q := by
              have := isame_any y8 E E aE av7 cE cv7 _ hie his (by omega) (by omega)
              rw [decide_eq_true rfl] at this
              exact this
            clear hb hie his HO7b
            go_wp2_with fail
            refine HS.mono ?_
            rintro e y9 ⟨rfl, q, rfl⟩
            have C9 := Lib.hid (below_drews C8.out q)
            clear HS
            go_wp2
            exact ⟨⟨k + 1, by omega, by go_num, C9.out⟩, by simp [intOf]; omega⟩
        · have HEF : Hid (E = [(p.length : Int)] ++ tailE l p) := Lib.hid (by rw [HSPL.out, if_pos (HOP.out.2 ⟨fun e => hk0 (HNil.out.1 e), hpl⟩), HOD.out hpl])
          have hki : (0 : Int) < (k : Int) := by omega
          clear HSPL HOP HOD HPN HNil hpl hk0
          generalize place l p = Wp at *
          go_wp2_with fail
          refine (HWORD.out _ HBE.out).mono ?_
          rintro e y0 ⟨rfl, hb⟩
          have C0 := Lib.hid (HBE.out.trans (hb.mono HBE.out.size))
          clear hb
          go_wp2_with fail
          refine (HDEP.out _ C0.out).mono ?_
          rintro e y1 ⟨rfl, hb⟩
          have C1a := Lib.hid (C0.out.trans (hb.mono C0.out.size))
          clear hb
          have hsz := C1a.out.size
          go_wp2_with (at_builtin; refine app_is rfl _ _ rfl W1.heap.size (.slice none 0 0) 0 [] (p.length : Int) rfl (World.ownsRow_nil _ _ _ _) ⟨y1.heap.size, 0, none⟩ rfl (cell_new_at _ _ rfl) (by omega) (by simp; omega) ?_; intro v1 y1b hown1 hg1; have C1 := Lib.hid ((C1a.out.alloc hsz _).grown hg1 (by simp; omega) (fun q hq => by cases hq)); have HO0 := Lib.hid hown1; clear hown1 hg1 hsz; go_wp2_with fail)
          have h1 := HO0.out
          obtain ⟨av1, cv1, hv1, _, _⟩ := own_is h1
          subst hv1
          have HO1 : Hid (y1b.ownsRow W1.heap.size 3 1 (.slice av1 1 cv1) 1 (ivals [(p.length : Int)])) := Lib.hid h1
          clear h1 HO0
          rcases HOS.out with ⟨e1, e2⟩ | ⟨z, z1, z2, z3, z4, z5, z6, z7⟩
          · have HES : Hid (E = [(p.length : Int)]) := Lib.hid (by rw [HEF.out, e2, List.append_nil])
            have hx : outOf ps l p < 0 := by omega
            clear e1 e2
            generalize outOf ps l p = O at *
            go_wp2_with fail
            refine (HOUT.out _ C1.out).mono ?_
            rintro e y2 ⟨rfl, hb⟩
            have C2 := Lib.hid (C1.out.trans (hb.mono C1.out.size))
            have HO2 := Lib.hid (own_keep HO1.out hb)
            clear hb
            go_wp2_with fail
            refine (HENDS.out _ C2.out).mono ?_
            rintro e y3 ⟨aE, cE, rfl, hie, _, hb⟩
            have C3 := Lib.hid (C2.out.trans (hb.mono C2.out.size))
            obtain ⟨av, cv, hv, his, _⟩ := own_is (own_keep HO2.out hb)
            cases hv
            have HS : Calls Try.prog 17 #[.slice aE E.length cE, .slice av1 1 cv1] y3 fun e w' => e = .returned (.bool true) ∧ ∃ q, w' = y3.drewN q := by
              have := isame_any y3 E [(p.length : Int)] aE av1 cE cv1 _ hie his (by omega) (by rw [← HES.out]; omega)
              rw [decide_eq_true HES.out] at this
              exact this
            clear hb hie his HO2
            go_wp2_with fail
            refine HS.mono ?_
            rintro e y4 ⟨rfl, q, rfl⟩
            have C4 := Lib.hid (below_drews C3.out q)
            clear HS
            go_wp2
            exact ⟨⟨k + 1, by omega, by go_num, C4.out⟩, by simp [intOf]; omega⟩
          · have HWZ : Hid (∀ X, Below W1.heap.size W1 X → Calls Try.prog 25 #[.pointer (some ⟨t, 0, none⟩), .int .i64 (place ps z)] X fun e w' => e = .returned (.int .i64 (place l z)) ∧ Below X.heap.size X w') := Lib.hid fun X hX => by
              have := word_any X s t ps l (HT.out _ hX) (place ps z)
              rwa [(own_word ps l z3).1] at this
            have HDZ : Hid (∀ X, Below W1.heap.size W1 X → Calls Try.prog 26 #[.pointer (some ⟨t, 0, none⟩), .int .i64 (place ps z)] X fun e w' => e = .returned (.int .i64 (z.length : Int)) ∧ Below X.heap.size X w') := Lib.hid fun X hX => by
              have := depth_any X s t ps l (HT.out _ hX) (place ps z)
              rwa [(own_word ps l z3).2] at this
            have HEZ : Hid (∀ X, Below W1.heap.size W1 X → Calls Try.prog 18 #[.pointer (some ⟨x, 0, none⟩), .int .i64 (place ps z)] X (GivesInts X (endsOf l z))) := Lib.hid fun X hX => by
              have := ends_any X s2 x ps l (HL.out _ hX) (place ps z) (by rw [(own_word ps l z3).2]; omega)
              rwa [(own_word ps l z3).2] at this
            have HES : Hid (E = [(p.length : Int)] ++ endsOf l z) := Lib.hid (by rw [HEF.out, z6])
            have HLE : Hid (1 + (endsOf l z).length ≤ 40) := Lib.hid (by have := congrArg List.length HES.out; simp at this; simp; omega)
            have hx : 0 ≤ place ps z := (place_nonneg ps z).2 z3
            have hy : ¬ place l z < 0 := by have := (place_nonneg l z).2 z1; omega
            have hd1 : ¬ (p.length : Int) ≤ (z.length : Int) := by omega
            rw [z5] at HOUT
            clear z1 z2 z3 z4 z5 z6 z7
            generalize place ps z = O at *
            generalize place l z = Z at *
            generalize endsOf l z = Ez at *
            go_wp2_with fail
            refine (HOUT.out _ C1.out).mono ?_
            rintro e y2 ⟨rfl, hb⟩
            have C2 := Lib.hid (C1.out.trans (hb.mono C1.out.size))
            have HO2 := Lib.hid (own_keep HO1.out hb)
            clear hb
            go_wp2_with fail
            refine (HWZ.out _ C2.out).mono ?_
            rintro e y3 ⟨rfl, hb⟩
            have C3 := Lib.hid (C2.out.trans (hb.mono C2.out.size))
            have HO3 := Lib.hid (own_keep HO2.out hb)
            clear hb HO2
            go_wp2_with fail
            refine (HDZ.out _ C3.out).mono ?_
            rintro e y4 ⟨rfl, hb⟩
            have C4 := Lib.hid (C3.out.trans (hb.mono C3.out.size))
            have HO4 := Lib.hid (own_keep HO3.out hb)
            clear hb HO3
            go_wp2_with fail
            refine (HDEP.out _ C4.out).mono ?_
            rintro e y5 ⟨rfl, hb⟩
            have C5 := Lib.hid (C4.out.trans (hb.mono C4.out.size))
            have HO5 := Lib.hid (own_keep HO4.out hb)
            clear hb HO4
            go_wp2_with fail
            refine (HEZ.out _ C5.out).mono ?_
            rintro e y6 ⟨aZ, cZ, rfl, hiz, hzn, hb⟩
            have C6 := Lib.hid (C5.out.trans (hb.mono C5.out.size))
            have HO6 := Lib.hid (own_keep HO5.out hb)
            have HIZ := Lib.hid hiz
            have HZN := Lib.hid hzn
            have hle := HLE.out
            clear hb HO5 hiz hzn
            go_wp2_with (at_builtin; refine app_isl rfl _ _ rfl W1.heap.size (.slice av1 1 cv1) 1 [(p.length : Int)] rfl HO6.out aZ Ez cZ _ rfl HIZ.out HZN.out (by omega) (by have := C6.out.size; omega) ?_; intro v7 y7 hown7 hg7; have C7 := Lib.hid (C6.out.grown hg7 C6.out.size (fun q hq => own_ge HO6.out hq)); have HO7 := Lib.hid hown7; clear hown7 hg7 hle; go_wp2_with fail)
            have h7 := HO7.out
            rw [← HES.out] at h7
            obtain ⟨av7, cv7, hv7, _, _⟩ := own_is h7
            subst hv7
            have HO7b := Lib.hid h7
            clear h7 HO7
            refine (HENDS.out _ C7.out).mono ?_
            rintro e y8 ⟨aE, cE, rfl, hie, _, hb⟩
            have C8 := Lib.hid (C7.out.trans (hb.mono C7.out.size))
            obtain ⟨av, cv, hv, his, _⟩ := own_is (own_keep HO7b.out hb)
            cases hv
            have HS : Calls Try.prog 17 #[.slice aE E.length cE, .slice av7 E.length cv7] y8 fun e w' => e = .returned (.bool true) ∧ ∃ q, w' = y8.drewN q := by
              have := isame_any y8 E E aE av7 cE cv7 _ hie his (by omega) (by omega)
              rw [decide_eq_true rfl] at this
              exact this
            clear hb hie his HO7b
            go_wp2_with fail
            refine HS.mono ?_
            rintro e y9 ⟨rfl, q, rfl⟩
            have C9 := Lib.hid (below_drews C8.out q)
            clear HS
            go_wp2
            exact ⟨⟨k + 1, by omega, by go_num, C9.out⟩, by simp [intOf]; omega⟩
      · have HEF : Hid (E = [] ++ tailE l p) := Lib.hid (by rw [HSPL.out, if_neg (fun e => hpl (HOP.out.1 e).2)])
        have hw0 : ¬ 0 ≤ place l p := fun e => hpl (HPN.out.1 e)
        clear HSPL HOP HOD HPN HNil hpl
        generalize place l p = Wp at *
        go_wp2_with fail
        refine (HWORD.out _ HBE.out).mono ?_
        rintro e y1 ⟨rfl, hb⟩
        have C1 := Lib.hid (HBE.out.trans (hb.mono HBE.out.size))
        clear hb
        have HO1 : Hid (y1.ownsRow W1.heap.size 3 1 (.slice none 0 0) 0 (ivals [])) := Lib.hid (World.ownsRow_nil _ _ _ _)
        rcases HOS.out with ⟨e1, e2⟩ | ⟨z, z1, z2, z3, z4, z5, z6, z7⟩
        · have HES : Hid (E = []) := Lib.hid (by rw [HEF.out, e2, List.append_nil])
          have hx : outOf ps l p < 0 := by omega
          clear e1 e2
          generalize outOf ps l p = O at *
          go_wp2_with fail
          refine (HOUT.out _ C1.out).mono ?_
          rintro e y2 ⟨rfl, hb⟩
          have C2 := Lib.hid (C1.out.trans (hb.mono C1.out.size))
          have HO2 := Lib.hid (own_keep HO1.out hb)
          clear hb
          go_wp2_with fail
          refine (HENDS.out _ C2.out).mono ?_
          rintro e y3 ⟨aE, cE, rfl, hie, _, hb⟩
          have C3 := Lib.hid (C2.out.trans (hb.mono C2.out.size))
          obtain ⟨av, cv, hv, his, _⟩ := own_is (own_keep HO2.out hb)
          cases hv
          have HS : Calls Try.prog 17 #[.slice aE E.length cE, .slice none 0 0] y3 fun e w' => e = .returned (.bool true) ∧ ∃ q, w' = y3.drewN q := by
            have := isame_any y3 E [] aE none cE 0 _ hie his (by omega) (by rw [← HES.out]; omega)
            rw [decide_eq_true HES.out] at this
            exact this
          clear hb hie his HO2
          go_wp2_with fail
          refine HS.mono ?_
          rintro e y4 ⟨rfl, q, rfl⟩
          have C4 := Lib.hid (below_drews C3.out q)
          clear HS
          go_wp2
          exact ⟨⟨k + 1, by omega, by go_num, C4.out⟩, by simp [intOf]; omega⟩
        · have HWZ : Hid (∀ X, Below W1.heap.size W1 X → Calls Try.prog 25 #[.pointer (some ⟨t, 0, none⟩), .int .i64 (place ps z)] X fun e w' => e = .returned (.int .i64 (place l z)) ∧ Below X.heap.size X w') := Lib.hid fun X hX => by
            have := word_any X s t ps l (HT.out _ hX) (place ps z)
            rwa [(own_word ps l z3).1] at this
          have HDZ : Hid (∀ X, Below W1.heap.size W1 X → Calls Try.prog 26 #[.pointer (some ⟨t, 0, none⟩), .int .i64 (place ps z)] X fun e w' => e = .returned (.int .i64 (z.length : Int)) ∧ Below X.heap.size X w') := Lib.hid fun X hX => by
            have := depth_any X s t ps l (HT.out _ hX) (place ps z)
            rwa [(own_word ps l z3).2] at this
          have HEZ : Hid (∀ X, Below W1.heap.size W1 X → Calls Try.prog 18 #[.pointer (some ⟨x, 0, none⟩), .int .i64 (place ps z)] X (GivesInts X (endsOf l z))) := Lib.hid fun X hX => by
            have := ends_any X s2 x ps l (HL.out _ hX) (place ps z) (by rw [(own_word ps l z3).2]; omega)
            rwa [(own_word ps l z3).2] at this
          have HES : Hid (E = [] ++ endsOf l z) := Lib.hid (by rw [HEF.out, z6])
          have HLE : Hid (0 + (endsOf l z).length ≤ 40) := Lib.hid (by have := congrArg List.length HES.out; simp at this; simp; omega)
          have hx : 0 ≤ place ps z := (place_nonneg ps z).2 z3
          have hy : ¬ place l z < 0 := by have := (place_nonneg l z).2 z1; omega
          have hd1 : ¬ (p.length : Int) ≤ (z.length : Int) := by omega
          rw [z5] at HOUT
          clear z1 z2 z3 z4 z5 z6 z7
          generalize place ps z = O at *
          generalize place l z = Z at *
          generalize endsOf l z = Ez at *
          go_wp2_with fail
          refine (HOUT.out _ C1.out).mono ?_
          rintro e y2 ⟨rfl, hb⟩
          have C2 := Lib.hid (C1.out.trans (hb.mono C1.out.size))
          have HO2 := Lib.hid (own_keep HO1.out hb)
          clear hb
          go_wp2_with fail
          refine (HWZ.out _ C2.out).mono ?_
          rintro e y3 ⟨rfl, hb⟩
          have C3 := Lib.hid (C2.out.trans (hb.mono C2.out.size))
          have HO3 := Lib.hid (own_keep HO2.out hb)
          clear hb HO2
          go_wp2_with fail
          refine (HDZ.out _ C3.out).mono ?_
          rintro e y4 ⟨rfl, hb⟩
          have C4 := Lib.hid (C3.out.trans (hb.mono C3.out.size))
          have HO4 := Lib.hid (own_keep HO3.out hb)
          clear hb HO3
          go_wp2_with fail
          refine (HDEP.out _ C4.out).mono ?_
          rintro e y5 ⟨rfl, hb⟩
          have C5 := Lib.hid (C4.out.trans (hb.mono C4.out.size))
          have HO5 := Lib.hid (own_keep HO4.out hb)
          clear hb HO4
          go_wp2_with fail
          refine (HEZ.out _ C5.out).mono ?_
          rintro e y6 ⟨aZ, cZ, rfl, hiz, hzn, hb⟩
          have C6 := Lib.hid (C5.out.trans (hb.mono C5.out.size))
          have HO6 := Lib.hid (own_keep HO5.out hb)
          have HIZ := Lib.hid hiz
          have HZN := Lib.hid hzn
          have hle := HLE.out
          clear hb HO5 hiz hzn
          go_wp2_with (at_builtin; refine app_isl rfl _ _ rfl W1.heap.size (.slice none 0 0) 0 [] rfl HO6.out aZ Ez cZ _ rfl HIZ.out HZN.out (by omega) (by have := C6.out.size; omega) ?_; intro v7 y7 hown7 hg7; have C7 := Lib.hid (C6.out.grown hg7 C6.out.size (fun q hq => own_ge HO6.out hq)); have HO7 := Lib.hid hown7; clear hown7 hg7 hle; go_wp2_with fail)
          have h7 := HO7.out
          rw [← HES.out] at h7
          obtain ⟨av7, cv7, hv7, _, _⟩ := own_is h7
          subst hv7
          have HO7b := Lib.hid h7
          clear h7 HO7
          refine (HENDS.out _ C7.out).mono ?_
          rintro e y8 ⟨aE, cE, rfl, hie, _, hb⟩
          have C8 := Lib.hid (C7.out.trans (hb.mono C7.out.size))
          obtain ⟨av, cv, hv, his, _⟩ := own_is (own_keep HO7b.out hb)
          cases hv
          have HS : Calls Try.prog 17 #[.slice aE E.length cE, .slice av7 E.length cv7] y8 fun e w' => e = .returned (.bool true) ∧ ∃ q, w' = y8.drewN q := by
            have := isame_any y8 E E aE av7 cE cv7 _ hie his (by omega) (by omega)
            rw [decide_eq_true rfl] at this
            exact this
          clear hb hie his HO7b
          go_wp2_with fail
          refine HS.mono ?_
          rintro e y9 ⟨rfl, q, rfl⟩
          have C9 := Lib.hid (below_drews C8.out q)
          clear HS
          go_wp2
          exact ⟨⟨k + 1, by omega, by go_num, C9.out⟩, by simp [intOf]; omega⟩
    · obtain rfl : k = ps.length := by omega
      have hkl : ¬ (ps.length : Int) < (ps.length : Int) := by omega
      have HBE := Lib.hid hbel
      clear hbel
      go_wp2_with (go_at_call 22; (with_reducible refine (HN.out _ HBE.out).mono ?_); rintro e y0 ⟨rfl, rfl⟩)
      go_ret
      exact ⟨rfl, HB.out.trans (HBE.out.mono HB.out.size)⟩
set_option maxRecDepth 100000 in
set_option maxHeartbeats 8000000 in
theorem walk (w : World) (xs : List TxV) (a0 : Option Addr) (cap0 : Nat) (hz0 : xs.length ≤ 6000000000000) (hx0 : ∀ x ∈ xs, x.text.length ≤ maxLen) (hts : Ts w a0 xs) :
    Calls Try.prog 6 #[.slice a0 xs.length cap0] w fun e w' => e = .returned (.bool true) ∧ Below w.heap.size w w' := by
  by_cases hall : xs.length ≤ 12 ∧ (∀ x ∈ xs, x.text.length ≤ 40)
  · exact small w xs a0 cap0 hts hall.1 hall.2
  · have HALL := Lib.hid hall
    have HX := Lib.hid hx0
    clear hall hx0
    go_enter Try.func6, Try.ntmps6
    go_wp2_with fail
    refine (awake_any _).mono ?_
    rintro e' w1 ⟨rfl, hb2⟩
    have ts1 := hts.keep hb2
    go_wp2_with fail
    refine (ltexts_any xs a0 cap0 w1 ts1 hz0 HX.out).mono ?_
    rintro e' w2 ⟨hb3, hcase⟩
    have B2 := hb2.trans (hb3.mono hb2.size)
    rcases hcase with ⟨_, rfl⟩ | ⟨hok, aL, cL, rfl, _⟩
    · go_wp2
      go_ret
      exact ⟨rfl, B2⟩
    · have h12 : ¬ xs.length ≤ 12 := fun h => HALL.out ⟨h, hok⟩
      rw [decide_eq_false h12]
      clear HALL hok
      go_wp2
      go_ret
      exact ⟨rfl, B2⟩
end Go.Proofs.Ytcknipokplomcaa.linksOuts
