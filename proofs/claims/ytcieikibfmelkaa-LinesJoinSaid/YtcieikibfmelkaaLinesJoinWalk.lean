/- The walk of the law LinesJoin. -/
import Derived.Test.YtcieikibfmelkaaWk
namespace Go.Proofs.Ytcieikibfmelkaa.linesJoin
open Go.RowKit

theorem total_le : ∀ (ts : List (List UInt8)), (∀ x ∈ ts, x.length ≤ 100) → total ts ≤ 100 * ts.length
  | [], _ => by simp [total]
  | x :: ts, h => by
    have h1 := h x (by simp)
    have h2 := total_le ts (fun y hy => h y (by simp [hy]))
    simp [total] at h2 ⊢
    omega

set_option maxRecDepth 100000 in
set_option maxHeartbeats 8000000 in
theorem walk (w : World) (xs : List TxV) (a : Option Addr) (cap : Nat) (hm : xs.length ≤ maxLen) (hml : ∀ x ∈ xs, x.text.length ≤ maxLen) (hx : Ts w a xs) :
    Calls Try.prog 6 #[.slice a xs.length cap] w fun e w' => e = .returned (.bool true) ∧ Below w.heap.size w w' := by
  unfold maxLen at hm hml
  by_cases hl : xs.length ≤ 40
  · have hdl : decide ((40 : Int) < (xs.length : Int)) = false := decide_eq_false (by omega)
    have HML := Lib.hid hml
    clear hml
    go_enter Try.func6, Try.ntmps6
    go_wp2_with fail
    go_at_call 9
    refine (awake_any w).mono ?_
    rintro e w1 ⟨rfl, B1⟩
    have hx1 : Ts w1 a xs := by
      refine ⟨fun h0 => ?_, fun x hxx => ((hx.2 x hxx).keep B1).more B1.size⟩
      obtain ⟨b, off, e, hlt, hc⟩ := hx.1 h0
      exact ⟨b, off, e, Nat.lt_of_lt_of_le hlt B1.size, fun i hi => (B1.cell (p := ⟨b, _, none⟩) hlt).trans (hc i hi)⟩
    go_wp2
    go_loop [4, 5] (fun n i => ∃ k : Nat, k ≤ xs.length ∧ i = .int .i64 k ∧ n = .int .i64 (total ((textsOf xs).take k) : Nat) ∧ Hid (∀ x ∈ (textsOf xs).take k, x.length ≤ 100 ∧ (10 : UInt8) ∉ x)) (fun _ i => xs.length - (intOf i).toNat)
    case atStart => exact ⟨0, Nat.zero_le _, rfl, rfl, Lib.hid fun x hx => by simp at hx⟩
    case round =>
      obtain ⟨k, hk, rfl, rfl, HOK⟩ := hrel
      by_cases hlt : k < xs.length
      · obtain ⟨b, off, rfl, hbl, hc⟩ := hx1.1 (by omega)
        have hck := hc k hlt
        have hlt' : k < (textsOf xs).length := by simpa [textsOf] using hlt
        have htk : (textsOf xs)[k] = xs[k].text := by simp [textsOf]
        have hsn := total_snoc (textsOf xs) k hlt'
        have htl : total ((textsOf xs).take k) ≤ 100 * k := by
          have h1 := total_le _ (fun x hx => (HOK.out x hx).1)
          have h2 : ((textsOf xs).take k).length = k := by simp [textsOf]; omega
          omega
        have HSN : Hid (total ((textsOf xs).take (k + 1)) = total ((textsOf xs).take k) + xs[k].text.length) := Lib.hid (by rw [hsn, htk])
        have HTS : Hid ((textsOf xs).take (k + 1) = (textsOf xs).take k ++ [xs[k].text]) := Lib.hid (by rw [List.take_succ_eq_append_getElem hlt', htk])
        have htx := hx1.2 xs[k] (List.getElem_mem hlt)
        have hmlk := HML.out xs[k] (List.getElem_mem hlt)
        have hkl : (k : Int) < (xs.length : Int) := by omega
        generalize xs[k].text = T at *
        generalize xs[k].a = A at *
        generalize xs[k].cap = C at *
        generalize total ((textsOf xs).take k) = S at *
        clear hc htk hsn hlt'
        by_cases hT : T.length ≤ 100
        · have d1 : decide ((100 : Int) < (T.length : Int)) = false := decide_eq_false (by omega)
          go_wp2
          go_loop [6] (fun i => ∃ j : Nat, j ≤ T.length ∧ i = .int .i64 j ∧ Hid ((10 : UInt8) ∉ T.take j)) (fun i => T.length - (intOf i).toNat)
          case atStart => exact ⟨0, Nat.zero_le _, rfl, Lib.hid (by simp)⟩
          case round =>
            obtain ⟨j, hj, rfl, HNO⟩ := hrel
            by_cases hjl : j < T.length
            · obtain ⟨bt, ot, rfl, _, hcj⟩ := htx (by omega)
              have hcj' := hcj j hjl
              have hjl2 : (j : Int) < (T.length : Int) := by omega
              have HCJ := Lib.hid hcj
              clear hcj
              by_cases h10 : T[j] = 10
              · have d2 : ((T[j].toNat : Int) == 10) = true := by rw [u8_ten]; simp [h10]
                clear h10
                go_wp2
                go_ret
                exact ⟨rfl, B1⟩
              · have d2 : ((T[j].toNat : Int) == 10) = false := by rw [u8_ten]; simp [h10]
                have H10 := Lib.hid h10
                clear h10
                go_wp2
                go_round
                case rel =>
                  refine ⟨j + 1, by omega, by go_num, Lib.hid ?_⟩
                  rw [take_snoc T j hjl]
                  intro hmem
                  rcases List.mem_append.1 hmem with h | h
                  · exact HNO.out h
                  · simp at h; exact H10.out h.symm
                case measure => simp [intOf]; omega
            · have hjl2 : ¬ (j : Int) < (T.length : Int) := by omega
              go_wp2
              go_round
              case rel =>
                refine ⟨k + 1, by omega, by go_num, by rw [HSN.out]; go_num, Lib.hid fun x hx => ?_⟩
                rw [HTS.out] at hx
                rcases List.mem_append.1 hx with h | h
                · exact HOK.out x h
                · simp at h
                  have e : T.take j = T := List.take_of_length_le (by omega)
                  have h2 := HNO.out
                  rw [e] at h2
                  rw [h]; exact ⟨hT, h2⟩
              case measure => simp [intOf]; omega
        · have d1 : decide ((100 : Int) < (T.length : Int)) = true := decide_eq_true (by omega)
          go_wp2
          go_ret
          exact ⟨rfl, B1⟩
      · have hkt : (textsOf xs).take k = textsOf xs := List.take_of_length_le (by simp [textsOf]; omega)
        rw [hkt] at HOK
        rw [hkt]
        have hjl := joined_length (textsOf xs)
        have htl := total_le _ (fun x hx => (HOK.out x hx).1)
        have hxl : (textsOf xs).length = xs.length := by simp [textsOf]
        have hnls := nls_joined _ (fun x hx => (HOK.out x hx).2)
        have hlin := lines_joined _ (fun x hx => (HOK.out x hx).2)
        have hlen : (linesOf (joined (textsOf xs))).length = xs.length := by have := congrArg List.length hlin; simpa [textsOf] using this
        obtain ⟨J, hJ⟩ : ∃ J, J = joined (textsOf xs) := ⟨_, rfl⟩
        rw [← hJ] at hjl hnls hlin hlen
        obtain ⟨N, hN⟩ : ∃ N, N = total (textsOf xs) := ⟨_, rfl⟩
        rw [← hN] at hjl htl
        rw [← hN]
        rw [hxl] at hjl htl hnls
        have hbare : J.length - nls J = N := by omega
        have JOI : Hid (Calls Try.prog 17 #[.slice a xs.length cap] w1 (GivesText w1 J)) := Lib.hid (join_n xs J a cap _ w1 rfl hJ.symm hx1 (by omega) (by omega))
        have HJL := Lib.hid hjl
        have HLN := Lib.hid hlin
        have HLE := Lib.hid hlen
        have HBA := Lib.hid hbare
        have HJJ := Lib.hid hJ
        have hNb : N ≤ 4000 := by omega
        have hJb : J.length ≤ 5000 := by omega
        clear hkt hjl hxl hnls hlin hlen hJ hN hbare htl HOK
        go_wp2_with fail
        refine JOI.out.mono ?_
        rintro e w2 ⟨a2, c2, rfl, t2, _, _, hb2⟩
        have B2 := B1.trans (hb2.mono B1.size)
        have hx2 := hx1.keep hb2
        go_wp2_with fail
        refine (split_lsf J a2 c2 _ xs.length _ rfl HLE.out (by omega) t2.bs).mono ?_
        rintro e w3 ⟨ay, cy, ys, rfl, hyl, hym, hyc, hly3, hb3⟩
        have B3 := B2.trans (hb3.mono B2.size)
        have t3 := t2.keep hb3
        have hx3 := hx2.keep hb3
        have Y3 := hly3.ls
        have HYL := Lib.hid hyl
        have HYM := Lib.hid hym
        clear hyl hym hb2 hb3 t2 hx2 hly3 B2
        have d3 : ((xs.length : Int) != (xs.length : Int)) = false := by simp
        have d4 : ((N : Int) != (N : Int)) = false := by simp
        have d5 : ((J.length : Int) != (N : Int) + (xs.length : Int)) = false := by have := HJL.out; simp; omega
        go_wp2_with (first
          | (go_at_call 13; refine (bare_n J a2 c2 _ N _ rfl HBA.out (by omega) t3.bs).mono ?_; rintro e w' ⟨rfl, rfl⟩)
          | (go_at_call 12; refine (count_n J a2 c2 _ xs.length _ rfl HLE.out (by omega) t3.bs).mono ?_; rintro e w' ⟨rfl, rfl⟩))
        clear d3 d4 d5
        go_loopw [9] (fun i wr => ∃ j : Nat, j ≤ xs.length ∧ i = .int .i64 j ∧ Below w3.heap.size w3 wr) (fun i _ => xs.length - (intOf i).toNat)
        case atStart => exact ⟨0, Nat.zero_le _, rfl, Below.refl _ _⟩
        case round =>
          obtain ⟨j, hj, rfl, hbel⟩ := hrel
          by_cases hjl : j < xs.length
          · have hjy : j < ys.length := by rw [HYL.out]; exact hjl
            have hye : ys[j].ln.text = xs[j].text ∧ ys[j].ln.ends = true := by
              have h1 := HLN.out
              rw [← HYM.out] at h1
              have e := congrArg (fun l => l[j]?) h1
              have hjt : j < (textsOf xs).length := by simpa [textsOf] using hjl
              simp [hjy, textsOf, hjl] at e
              exact e
            have hyr := Y3.keep hbel
            have hxr := hx3.keep hbel
            obtain ⟨ba, oa, rfl, _, hca⟩ := hxr.1 (by omega)
            obtain ⟨bb, ob, rfl, _, hcb⟩ := hyr.1 (by omega)
            have hcx := hca j hjl
            obtain ⟨cy0, cy1, cy2⟩ := hcb j hjy
            have htx := hxr.2 xs[j] (List.getElem_mem hjl)
            have hty := hyr.2 ys[j] (List.getElem_mem hjy)
            rw [hye.1] at cy1 hty
            rw [hye.2] at cy2
            clear hca hcb hye cy0
            generalize xs[j].a = A1 at *
            generalize xs[j].cap = C1 at *
            generalize xs[j].text = tx at *
            generalize ys[j].a = A2 at *
            generalize ys[j].cap = C2 at *
            have hk1 : ∀ q, (convert 22 9 (.slice A1 tx.length C1)).run Try.prog (wr.drewN q) = .ok (.string (str tx)) (wr.drewN q) := fun q => str_of_bs (w := wr.drewN q) C1 htx
            have hk2 : ∀ q, (convert 22 9 (.slice A2 tx.length C2)).run Try.prog (wr.drewN q) = .ok (.string (str tx)) (wr.drewN q) := fun q => str_of_bs (w := wr.drewN q) C2 hty
            have hjl2 : (j : Int) < (xs.length : Int) := by omega
            clear hx3 Y3 t3 hxr hyr hx1 hx
            go_wp2
            go_quiet (fail)
            go_wp2
            go_roundw
            case rel => exact ⟨j + 1, by omega, by go_num, below_drews hbel _⟩
            case measure => simp [intOf]; omega
          · have hjl2 : ¬ (j : Int) < (xs.length : Int) := by omega
            go_wp2
            go_ret
            exact ⟨rfl, B3.trans (hbel.mono B3.size)⟩
  · have hgt : decide ((40 : Int) < (xs.length : Int)) = true := decide_eq_true (by omega)
    go_enter Try.func6, Try.ntmps6
    go_wp2_with fail
    go_at_call 9
    refine (awake_any w).mono ?_
    rintro e w1 ⟨rfl, hb1⟩
    go_wp2
    go_ret
    exact ⟨rfl, hb1⟩
end Go.Proofs.Ytcieikibfmelkaa.linesJoin
