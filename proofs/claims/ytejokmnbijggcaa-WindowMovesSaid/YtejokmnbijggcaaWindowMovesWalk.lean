/- The walk of WindowMoves. -/
import Derived.Test.YtejokmnbijggcaaWinD
namespace Go.Proofs.Ytejokmnbijggcaa.windowMoves
open Go.Proofs.Ytejokmnbijggcaa.Stm Go.Proofs.Ytejokmnbijggcaa.Win Go.Proofs.Ytejokmnbijggcaa.Reg Go.RowKit Go.Maps
set_option maxRecDepth 100000
set_option linter.unusedVariables false

set_option maxHeartbeats 8000000 in
theorem walk (w : World) (xs : List ActV) (a0 : Option Addr) (cap0 : Nat) (hz0 : xs.length ≤ 6000000000000) (hx0 : ∀ y ∈ xs, y.x.text.length ≤ maxLen) (hs : Acts w a0 xs) :
    Calls Try.prog 4 #[.slice a0 xs.length cap0] w fun e w' => e = .returned (.bool true) ∧ Below w.heap.size w w' := by
  have HS := Lib.hid hs
  have HX := Lib.hid hx0
  have HAW := Lib.hid (awake_any w)
  clear hs hx0
  go_enter Try.func4, Try.ntmps4
  go_wp2_with fail
  refine HAW.out.mono ?_
  rintro e' w1 ⟨rfl, hb1⟩
  have HB1 := Lib.hid hb1
  clear HAW hb1
  have HS1 := Lib.hid (HS.out.keep HB1.out)
  go_wp2_with fail
  refine (few_any w1 a0 cap0 xs HS1.out hz0 HX.out).mono ?_
  rintro e' w2 ⟨z, rfl, rfl, hz⟩
  cases z
  · clear hz
    go_wp2_with fail
    go_ret
    exact ⟨rfl, HB1.out⟩
  have HF := Lib.hid (hz rfl)
  clear hz HS1
  go_wp2_with fail
  refine (Met.new_mt w2).mono ?_
  rintro e' w3 ⟨rfl, hM, hb3⟩
  have hsz := HB1.out.size
  have DN := Lib.hid (duo_new w w3 (some ⟨w2.heap.size, 0, none⟩) (HB1.out.trans (hb3.mono hsz)) hM (fun k hk => by cases hk; exact hsz))
  clear hM hb3
  generalize w2.heap.size = gm at *
  go_wp2_with fail
  refine DN.out.mono ?_
  rintro e' w4 ⟨g, rfl, hD4, hb4⟩
  have HD4 := Lib.hid hD4
  clear hD4 hb4 DN hsz
  go_wp2_with fail
  go_loopw [7, 8, 9] (fun n r i wr => ∃ (k : Nat) (d : Option Nat), k ≤ xs.length ∧ i = .int .i64 (k : Int) ∧ n = .int .i64 ((puts (xs.take k) : Nat) : Int) ∧ r = .int .i64 ((plays (xs.take k)).room : Int) ∧ Hid (Duo w wr (some ⟨gm, 0, none⟩) g d (plays (xs.take k)))) (fun _ _ i _ => xs.length - (intOf i).toNat)
  case atStart => exact ⟨0, none, Nat.zero_le _, rfl, rfl, rfl, HD4⟩
  case round =>
    obtain ⟨k, d, hk, rfl, rfl, rfl, HD⟩ := hrel
    clear HD4
    by_cases hlt : k < xs.length
    · have hkl : (k : Int) < (xs.length : Int) := by omega
      obtain ⟨b, off, rfl, hbl, hc⟩ := HS.out.1 (by omega)
      have HC0 : Hid (∀ X, Below w.heap.size w X → X.cell? ⟨b, off + k * 2, none⟩ = some (.bool xs[k].clear)) := Lib.hid fun X h => (h.cell (p := ⟨b, _, none⟩) hbl).trans (hc k hlt).1
      have HC1 : Hid (∀ X, Below w.heap.size w X → X.cell? ⟨b, off + k * 2 + 1, none⟩ = some (.slice xs[k].x.a xs[k].x.text.length xs[k].x.cap)) := Lib.hid fun X h => (h.cell (p := ⟨b, _, none⟩) hbl).trans (hc k hlt).2
      have hsu := plays_succ xs k hlt
      have hps := puts_succ xs k hlt
      obtain ⟨s1, s2, s3, s4⟩ := plays_small HF.out k
      obtain ⟨t1, t2, t3, t4⟩ := plays_small HF.out (k + 1)
      obtain ⟨⟨i1, i2, _, i3, _⟩, _⟩ := plays_inv (xs.take (k + 1))
      have hy2 := HF.out.2.2 _ (List.getElem_mem hlt)
      have HBS : Hid (∀ X, Below w.heap.size w X → Bs X X.heap.size xs[k].x.a xs[k].x.text) := Lib.hid fun X h => (HS.out.keep h).2 _ (List.getElem_mem hlt)
      have HOLD := Lib.hid (acts_old HS.out (List.getElem_mem hlt))
      clear hc
      generalize xs[k] = y at *
      generalize plays (xs.take k) = x at *
      generalize puts (xs.take k) = N at *
      by_cases hcl : y.clear = true
      · rw [hcl] at HC0
        have c0 := HC0.out wr HD.out.bel
        have e1 : play1 x y = x.clear := if_pos hcl
        have e2 : put1 y = 0 := if_pos hcl
        have i4 : x.room ≤ x.clear.room := Nat.le_refl _
        rw [e1] at hsu
        rw [hsu] at t1 t2 t3 i1 i2 i3
        rw [e2, Nat.add_zero] at hps
        rw [hps] at i1 i2 t4
        have HPS := Lib.hid hps
        clear hps e2
        go_wp2_with fail
        refine (duo_clear HD.out (by omega)).mono ?_
        rintro e' w6 ⟨rfl, hD6, _⟩
        have HDA := Lib.hid hD6
        clear hD6 HD c0 HC1 HC0 HBS HOLD hbl
        generalize x.clear = z at *
        obtain ⟨P, hP⟩ : ∃ P, P = N := ⟨_, rfl⟩
        subst hP
        have HRM := Lib.hid t2
        have HSU := Lib.hid hsu
        have q1 : (P : Int) ≤ (z.move : Int) := by omega
        have q2 : (z.move : Int) ≤ 3 * (P : Int) := by omega
        have q3 : (z.held.length : Int) ≤ (z.room : Int) := by omega
        have q4 : (x.room : Int) ≤ (z.room : Int) := by omega
        have hfm := field_mv 0 0 0 (z.move : Int)
        clear hsu hcl e1 i1 i2 i3 i4
        go_wp2_with (first
          | (go_at_call 18; (with_reducible refine (duo_counts HDA.out).mono ?_); rintro e7 wb ⟨rfl, hb⟩; have HDB := Lib.hid (HDA.out.keep hb); clear hb HDA)
          | (go_at_call 17; (with_reducible refine (duo_room HDB.out (by have := HRM.out; omega)).mono ?_); rintro e7 wc ⟨rfl, hb⟩; have HDC := Lib.hid (HDB.out.keep hb); clear hb HDB)
          | (go_at_call 16; (with_reducible refine (duo_len HDC.out (by have := HRM.out; omega)).mono ?_); rintro e7 we ⟨rfl, hb⟩; have HDE := Lib.hid (HDC.out.keep hb); clear hb HDC)
          | (go_at_call 17; (with_reducible refine (duo_room HDE.out (by have := HRM.out; omega)).mono ?_); rintro e7 wf ⟨rfl, hb⟩; have HDF := Lib.hid (HDE.out.keep hb); clear hb HDE)
          | (go_at_call 17; (with_reducible refine (duo_room HDF.out (by have := HRM.out; omega)).mono ?_); rintro e7 wg ⟨rfl, hb⟩; have HDG := Lib.hid (HDF.out.keep hb); clear hb HDF))
        exact ⟨⟨k + 1, d, by omega, by go_num, by rw [HPS.out]; (try rfl), by rw [HSU.out], by rw [HSU.out]; exact HDG⟩, by simp [intOf]; omega⟩
      · have hcf : y.clear = false := by simpa using hcl
        rw [hcf] at HC0
        have e1 : play1 x y = x.add y.x.text := if_neg hcl
        have e2 : put1 y = y.x.text.length := if_neg hcl
        have i4 := Wn.room_add x y.x.text
        rw [e1] at hsu
        rw [hsu] at t1 t2 t3 i1 i2 i3
        rw [e2] at hps
        have HPS := Lib.hid hps
        rw [hps] at i1 i2 t4
        have c0 := HC0.out wr HD.out.bel
        have c1 := HC1.out wr HD.out.bel
        clear hps e2
        go_wp2_with fail
        refine (duo_add HD.out y.x.text y.x.a y.x.cap (HBS.out wr HD.out.bel) (fun h => HD.out.old (HOLD.out h)) (by omega) (by omega) (by omega)).mono ?_
        rintro e' w6 ⟨rfl, d', _, hD6, _⟩
        have HDA := Lib.hid hD6
        clear hD6 HD c0 c1 HC0
        have c1 := HC1.out w6 HDA.out.bel
        clear HC1 HBS HOLD hbl
        generalize x.add y.x.text = z at *
        have hNP : (N : Int) + (y.x.text.length : Int) = ((N + y.x.text.length : Nat) : Int) := by omega
        obtain ⟨P, hP⟩ : ∃ P, P = N + y.x.text.length := ⟨_, rfl⟩
        rw [← hP] at i1 i2 t4 HPS hNP
        clear hP
        have HRM := Lib.hid t2
        have HSU := Lib.hid hsu
        have q1 : (P : Int) ≤ (z.move : Int) := by omega
        have q2 : (z.move : Int) ≤ 3 * (P : Int) := by omega
        have q3 : (z.held.length : Int) ≤ (z.room : Int) := by omega
        have q4 : (x.room : Int) ≤ (z.room : Int) := by omega
        have hfm := field_mv 0 0 0 (z.move : Int)
        clear hsu hcl e1 i1 i2 i3 i4
        go_wp2_with (first
          | (go_at_call 18; (with_reducible refine (duo_counts HDA.out).mono ?_); rintro e7 wb ⟨rfl, hb⟩; have HDB := Lib.hid (HDA.out.keep hb); clear hb HDA)
          | (go_at_call 17; (with_reducible refine (duo_room HDB.out (by have := HRM.out; omega)).mono ?_); rintro e7 wc ⟨rfl, hb⟩; have HDC := Lib.hid (HDB.out.keep hb); clear hb HDB)
          | (go_at_call 16; (with_reducible refine (duo_len HDC.out (by have := HRM.out; omega)).mono ?_); rintro e7 we ⟨rfl, hb⟩; have HDE := Lib.hid (HDC.out.keep hb); clear hb HDC)
          | (go_at_call 17; (with_reducible refine (duo_room HDE.out (by have := HRM.out; omega)).mono ?_); rintro e7 wf ⟨rfl, hb⟩; have HDF := Lib.hid (HDE.out.keep hb); clear hb HDE)
          | (go_at_call 17; (with_reducible refine (duo_room HDF.out (by have := HRM.out; omega)).mono ?_); rintro e7 wg ⟨rfl, hb⟩; have HDG := Lib.hid (HDF.out.keep hb); clear hb HDF))
        exact ⟨⟨k + 1, d', by omega, by go_num, by rw [HPS.out]; (try rfl), by rw [HSU.out], by rw [HSU.out]; exact HDG⟩, by simp [intOf]; omega⟩
    · obtain rfl : k = xs.length := by omega
      have HBW := Lib.hid HD.out.bel
      clear HD
      go_wp2
      go_ret
      exact ⟨rfl, HBW.out⟩
end Go.Proofs.Ytejokmnbijggcaa.windowMoves
