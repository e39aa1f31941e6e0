/- The walk of WindowHolds. -/
import Derived.Test.YtejokmnbijggcaaWinD
namespace Go.Proofs.Ytejokmnbijggcaa.windowHolds
open Go.Proofs.Ytejokmnbijggcaa.Stm Go.Proofs.Ytejokmnbijggcaa.Win Go.Proofs.Ytejokmnbijggcaa.Reg Go.RowKit Go.Maps
set_option maxRecDepth 100000
set_option linter.unusedVariables false
set_option maxHeartbeats 8000000 in
theorem walk (w : World) (line : Tx) (aline : Option Addr) (cline : Nat) (hmline : line.length ≤ maxLen) (hbline : Bs w w.heap.size aline line) (hnline : aline = none → cline = 0) (xs : List TxV) (a0 : Option Addr) (cap0 : Nat) (hz0 : xs.length ≤ 6000000000000) (hx0 : ∀ x ∈ xs, x.text.length ≤ maxLen) (hts : Ts w a0 xs) :
    Calls Try.prog 5 #[.slice aline line.length cline, .slice a0 xs.length cap0] w fun e w' => e = .returned (.bool true) ∧ Below w.heap.size w w' := by
  have HL : Hid (Bs w w.heap.size aline line) := Lib.hid hbline
  have HTS := Lib.hid hts
  have HX := Lib.hid hx0
  have HAW := Lib.hid (awake_any w)
  clear hbline hts hx0
  go_enter Try.func5, Try.ntmps5
  go_wp2_with fail
  refine HAW.out.mono ?_
  rintro e' w1 ⟨rfl, hb1⟩
  have HB1 := Lib.hid hb1
  clear HAW hb1
  by_cases hA : line.length ≤ 400
  · have hAi : (line.length : Int) ≤ 400 := by omega
    by_cases hB : xs.length ≤ 40
    · have hBi : (xs.length : Int) ≤ 40 := by omega
      go_wp2_with fail
      refine (duo_new w w1 none HB1.out (.inl rfl) (fun k h => by cases h)).mono ?_
      rintro e' w2 ⟨g, rfl, hD2, _⟩
      have HD2 := Lib.hid hD2
      clear hD2
      have hln := HL.out.keep HD2.out.bel
      go_wp2_with fail
      refine (duo_add HD2.out line aline cline (hln.more HD2.out.bel.size) (fun h => HD2.out.old (by intro ad e; obtain ⟨b, o, e2, hlt, _⟩ := HL.out h; rw [e2] at e; cases e; exact hlt)) (by decide) (by decide) (by omega)).mono ?_
      rintro e' w3 ⟨rfl, d3, _, hD3, _⟩
      have hI : WInv (0 + line.length) (wnNew.add line) := winv_new.add line
      have hR : (wnNew.add line).room ≤ 16 + 2 * (0 + line.length) := room_most winv_new (by decide) line
      have HD3 := Lib.hid hD3
      have HI := Lib.hid hI
      rw [Nat.zero_add] at HI hR
      clear hD3 HD2 hln hI
      generalize wnNew.add line = x at *
      go_wp2_with fail
      refine (duo_clear HD3.out (by omega)).mono ?_
      rintro e' w4 ⟨rfl, hD4, _⟩
      have HI4 : Hid (WInv line.length x.clear) := Lib.hid HI.out.clear
      have hR4 : x.clear.room ≤ 16 + 2 * line.length := hR
      have hE : str x.clear.held = (⟨#[]⟩ : ByteArray) := rfl
      have HD4 := Lib.hid hD4
      clear hD4 HD3 HI hR
      generalize x.clear = x at *
      go_wp2_with fail
      go_loopw [7, 8] (fun s i wr => ∃ (k n : Nat) (d : Option Nat) (x : Wn), k ≤ xs.length ∧ i = .int .i64 (k : Int) ∧ s = .string (str x.held) ∧ n ≤ 400 + 100 * k ∧ x.room ≤ 16 + 2 * n ∧ Hid (WInv n x) ∧ Hid (Duo w wr none g d x)) (fun _ i _ => xs.length - (intOf i).toNat)
      case atStart => exact ⟨0, line.length, d3, x, Nat.zero_le _, rfl, by rw [hE], by omega, hR4, HI4, HD4⟩
      case round =>
        clear hE HI4 hR4 HD4
        clear x
        obtain ⟨k, n, d, x, hk, rfl, rfl, hn, hr, HI, HD⟩ := hrel
        have hhl : x.held.length ≤ 4400 := by have := HI.out.came; omega
        have hmv : x.move ≤ 13200 := by have := HI.out.most; omega
        by_cases hlt : k < xs.length
        · have hkl : (k : Int) < (xs.length : Int) := by omega
          obtain ⟨b, off, rfl, hbl, hc⟩ := HTS.out.1 (by omega)
          have HC : Hid (∀ X, Below w.heap.size w X → X.cell? ⟨b, off + k, none⟩ = some (.slice xs[k].a xs[k].text.length xs[k].cap)) := Lib.hid fun X h => (h.cell (p := ⟨b, _, none⟩) hbl).trans (hc k hlt)
          have HBS : Hid (∀ X, Below w.heap.size w X → Bs X X.heap.size xs[k].a xs[k].text) := Lib.hid fun X h => ((HTS.out.2 _ (List.getElem_mem hlt)).keep h).more h.size
          have hmy := HX.out _ (List.getElem_mem hlt)
          have HNY := Lib.hid xs[k].nil0
          clear hc hbl
          generalize xs[k].text = y at *
          generalize xs[k].a = ay at *
          generalize xs[k].cap = cy at *
          have c1 := HC.out wr HD.out.bel
          by_cases hyl : y.length ≤ 100
          · have hyi : (y.length : Int) ≤ 100 := by omega
            go_wp2_with (at_builtin; refine app_bs rfl _ _ rfl wr.heap.size (.slice none 0 0) 0 [] rfl (World.ownsRow_nil _ _ _ _) ay y cy wr.heap.size rfl (HBS.out wr HD.out.bel) HNY.out (by omega) (Nat.le_refl _) ?_; intro v1 w5 ho5 hg5)
            have hb5 : Below wr.heap.size wr w5 := app_below (Below.refl _ _) (World.ownsRow_nil wr wr.heap.size 5 1) hg5 (Nat.le_refl _) (Nat.le_refl _)
            rw [Nat.zero_add] at ho5
            obtain ⟨_, A, cA, rfl, hT5, _⟩ := own_text (l := y) ho5 rfl
            have hD5 := HD.out.keep hb5
            have hlt5 := HD.out.wd.lt
            have hap5 : 0 < y.length → ∀ ad : Addr, A = some ad → wr.heap.size ≤ ad.block ∧ ad.block ≠ g ∧ d ≠ some ad.block := by
              intro h ad e
              obtain ⟨bb, cs, e2, hbb, _⟩ := hT5 h
              rw [e2] at e; cases e
              exact ⟨hbb, by have := hlt5.1; simp only; omega, fun e => by have := hlt5.2 _ e; simp only at this; omega⟩
            have HAD := Lib.hid (duo_add hD5 y A cA hT5.bs (fun h ad e => (hap5 h ad e).2) (by omega) (by omega) (by omega))
            have hsw := HD.out.bel.size
            have HT5 := Lib.hid hT5
            have HAP := Lib.hid (fun h ad e => ((hap5 h ad e : _)))
            have HLD := Lib.hid hlt5
            have HZ5 := Lib.hid hb5.size
            clear ho5 hg5 hb5 hT5 hD5 hlt5 hap5 c1
            go_wp2_with fail
            refine HAD.out.mono ?_
            rintro e' w6 ⟨rfl, d', hd', hD6, ht6⟩
            have HO : Hid (Mine w w6 g d' (x.add y) A y.length) := Lib.hid ⟨wr.heap.size, y, rfl, fun h => by
              obtain ⟨bb, cs, e2, hbb, hh, hcs⟩ := HT5.out h
              obtain ⟨q1, q2, q3⟩ := HAP.out h _ e2
              exact ⟨bb, cs, e2, hbb, (ht6.block bb (txt_lt hh) q2 q3 (by simp [Met.blk])).trans hh, hcs⟩, hD6, fun h ad e => by
              obtain ⟨q1, q2, q3⟩ := HAP.out h ad e
              refine ⟨Nat.le_trans hsw q1, q2, ?_⟩
              rcases hd' with rfl | ⟨j, rfl, hj⟩
              · exact q3
              · obtain ⟨bb, cs, e2, _, hh, _⟩ := HT5.out h
                rw [e2] at e; cases e
                intro e; cases e
                have := txt_lt hh
                simp only at this hj
                omega⟩
            have HI6 : Hid (WInv (n + y.length) (x.add y)) := Lib.hid (HI.out.add y)
            have hr6 := room_most HI.out hr y
            have hap := str_add x.held y
            rw [← Wn.add_held x y] at hap
            have hhz := str_size x.held
            have hyz := str_size y
            clear hd' hD6 ht6 HAD HT5 HAP HLD HZ5 HI HD
            generalize x.add y = z at *
            have hhl6 : z.held.length ≤ 4600 := by have := HI6.out.came; omega
            go_wp2_with fail
            go_loopw [10] (fun i wr => ∃ k : Nat, k ≤ y.length ∧ i = .int .i64 (k : Int) ∧ Mine w wr g d' z A y.length) (fun i _ => y.length - (intOf i).toNat)
            case atStart => exact ⟨0, Nat.zero_le _, rfl, HO.out⟩
            case round =>
              obtain ⟨j, hj, rfl, hO⟩ := hrel
              clear HO
              by_cases hjl : j < y.length
              · have hjn : (j : Int) < (y.length : Int) := by omega
                obtain ⟨gb, u, rfl, hcell, hfz, hO2⟩ := hO.step j hjl
                have HO2 := Lib.hid hO2
                clear hO hO2 
                go_wp2
                go_roundw
                case rel => exact ⟨j + 1, by omega, by go_num, HO2.out⟩
                case measure => simp [intOf]; omega
              · obtain rfl : j = y.length := by omega
                have HO := Lib.hid hO.duo
                clear hO hj hjl
                go_wp2_with fail
                refine (duo_bytes HO.out (by omega)).mono ?_
                rintro e' w8 ⟨A2, c2, rfl, hT8, _, _, hb8⟩
                have HP : Hid (Mine w w8 g d' z A2 z.held.length) := Lib.hid ⟨_, z.held, rfl, hT8, HO.out.keep hb8, fun h ad e => by
                  obtain ⟨bb, cs, e2, hbb, _⟩ := hT8 h
                  rw [e2] at e; cases e
                  have hlt8 := HO.out.wd.lt
                  exact ⟨Nat.le_trans HO.out.bel.size hbb, by have := hlt8.1; simp only; omega, fun e => by have := hlt8.2 _ e; simp only at this; omega⟩⟩
                clear hT8 hb8 HO
                go_wp2_with fail
                go_loopw [12] (fun i wr => ∃ k : Nat, k ≤ z.held.length ∧ i = .int .i64 (k : Int) ∧ Mine w wr g d' z A2 z.held.length) (fun i _ => z.held.length - (intOf i).toNat)
                case atStart => exact ⟨0, Nat.zero_le _, rfl, HP.out⟩
                case round =>
                  obtain ⟨j, hj, rfl, hO⟩ := hrel
                  clear HP
                  by_cases hjl : j < z.held.length
                  · have hjn : (j : Int) < (z.held.length : Int) := by omega
                    obtain ⟨gb, u, rfl, hcell, hfz, hO2⟩ := hO.step j hjl
                    have HO2 := Lib.hid hO2
                    clear hO hO2 
                    go_wp2
                    go_roundw
                    case rel => exact ⟨j + 1, by omega, by go_num, HO2.out⟩
                    case measure => simp [intOf]; omega
                  · obtain rfl : j = z.held.length := by omega
                    have HP := Lib.hid hO.duo
                    clear hO hj hjl
                    have c1 := HC.out wr HP.out.bel
                    have hcv := str_of_bs cy (HBS.out wr HP.out.bel)
                    go_wp2_with fail
                    go_roundw
                    case rel => exact ⟨k + 1, n + y.length, d', z, by omega, by go_num, rfl, by omega, hr6, HI6, HP⟩
                    case measure => simp [intOf]; omega
          · have hyi : ¬ (y.length : Int) ≤ 100 := by omega
            have HBW := Lib.hid HD.out.bel
            clear HD HC HBS
            go_wp2_with fail
            go_ret
            exact ⟨rfl, HBW.out⟩
        · obtain rfl : k = xs.length := by omega
          have hhz := str_size x.held
          have hqq : ((str x.held).toList == (str x.held).toList) = true := by simp
          go_wp2_with (first
            | (go_at_call 15; (with_reducible refine (duo_bytes HD.out (by omega)).mono ?_); rintro e7 w7 ⟨a7, c7, rfl, hT7, _, _, hb7⟩; have HD7 := Lib.hid (HD.out.keep hb7); have hcv := str_of_bs c7 hT7.bs; clear hb7 hT7 HD)
            | (go_at_call 16; (with_reducible refine (duo_len HD7.out (by omega)).mono ?_); rintro e8 w8 ⟨rfl, hb8⟩; have HD8 := Lib.hid (HD7.out.keep hb8); clear hb8))
          go_ret
          exact ⟨ret_bool (by simp), HD8.out.bel⟩
    · have hBi : ¬ (xs.length : Int) ≤ 40 := by omega
      go_wp2_with fail
      go_ret
      exact ⟨rfl, HB1.out⟩
  · have hAi : ¬ (line.length : Int) ≤ 400 := by omega
    go_wp2_with fail
    go_ret
    exact ⟨rfl, HB1.out⟩
end Go.Proofs.Ytejokmnbijggcaa.windowHolds
