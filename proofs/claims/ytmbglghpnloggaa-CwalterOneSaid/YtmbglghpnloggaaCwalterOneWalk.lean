/- The walk of CwalterOne. -/
import Derived.Test.YtmbglghpnloggaaRc
import Derived.Test.YtmbglghpnloggaaGJ
namespace Go.Proofs.Ytmbglghpnloggaa.cwalterOne
open Go.Proofs.Ytmbglghpnloggaa.Tri Go.Proofs.Ytmbglghpnloggaa.Lnk Go.Proofs.Ytmbglghpnloggaa.Prs Go.Proofs.Ytmbglghpnloggaa.Spa Go.Proofs.Ytmbglghpnloggaa.Cwl Go.Proofs.Ytmbglghpnloggaa.Bck Go.Proofs.Ytmbglghpnloggaa.Wal Go.Proofs.Ytmbglghpnloggaa.Reg Go.RowKit Go.Maps
set_option maxRecDepth 100000
set_option linter.unusedVariables false
theorem winds_short {l : List Tx} (ht : turned l ≠ []) (line : Tx) : ∀ f e, 0 < e → (windows l line f e).length + e ≤ line.length + 1 ∨ windows l line f e = []
  | 0, e, _ => .inr rfl
  | f + 1, e, he => by
    rw [windows]
    split
    · rename_i h
      refine .inl ?_
      have hm := move_pos ht line e
      rcases winds_short ht line f (e + moveOf l line e) (by omega) with h1 | h1
      · rw [List.length_cons]; omega
      · rw [h1]; simp; omega
    · exact .inr rfl
theorem ts_one (w : World) (b : Tx) (a : Option Addr) (c : Nat) (hn : a = none → c = 0) (hb : Bs w w.heap.size a b) : Ts (w.alloc (.cells #[.slice a b.length c] 23)) (some ⟨w.heap.size, 0, none⟩) [⟨b, a, c, hn⟩] := by
  refine ⟨fun _ => ⟨_, _, rfl, by simp, fun i hi => ?_⟩, fun x hx => ?_⟩
  · obtain rfl : i = 0 := by simp at hi; omega
    rw [cell_of_row _ _ _ _ 23 (0, 0) (heap_alloc_new w _)]
    rfl
  · rw [List.mem_singleton.1 hx]
    have b1 := below_new w (.cells #[.slice a b.length c] 23)
    exact (hb.keep b1).more b1.size
theorem one_turned {b : Tx} (h : b ≠ []) : turned [b] = [b.reverse] := by
  unfold turned
  simp [h]
theorem one_winds {b : Tx} (h : b ≠ []) (line : Tx) : (windsOf [b] line).length ≤ line.length ∧ (0 < (windsOf [b] line).length ↔ b.length ≤ line.length) := by
  have ht := one_turned h
  have hne : turned [b] ≠ [] := by rw [ht]; simp
  have hlo : Cwl.leastOf (turned [b]) = b.length := by rw [ht]; show minOver _ _ = _; simp [minOver]
  have hbp := List.length_pos_iff.2 h
  unfold windsOf
  rw [if_neg hne, List.length_map, hlo]
  have h1 := winds_short hne line (line.length + 1) b.length hbp
  constructor
  · rcases h1 with h1 | h1
    · omega
    · rw [h1]; simp
  · rw [windows]
    by_cases hle : b.length ≤ line.length
    · rw [if_pos hle]; simp [hle]
    · rw [if_neg hle]; simp [hle]

set_option maxHeartbeats 8000000 in
theorem walk (w : World) (b : Tx) (ab : Option Addr) (cb : Nat) (hmb : b.length ≤ maxLen) (hbb : Bs w w.heap.size ab b) (hnb : ab = none → cb = 0) (hcb : b.length ≤ cb) (line : Tx) (aline : Option Addr) (cline : Nat) (hmline : line.length ≤ maxLen) (hbline : Bs w w.heap.size aline line) (hnline : aline = none → cline = 0) (hcline : line.length ≤ cline) :
    Calls Try.prog 8 #[.slice ab b.length cb, .slice aline line.length cline] w fun e w' => e = .returned (.bool true) ∧ Below w.heap.size w w' := by
  have hnb0 := hnb
  have HAW := Lib.hid (Wal.awake_any w)
  have Kb : Hid (Ln w ab b cb) := Lib.hid ⟨hbb, hcb, hnb⟩
  clear hbb hcb hnb
  have Kline : Hid (Ln w aline line cline) := Lib.hid ⟨hbline, hcline, hnline⟩
  clear hbline hcline hnline

  go_enter Try.func8, Try.ntmps8
  go_wp2_with fail
  refine HAW.out.mono ?_
  rintro e' w1 ⟨rfl, hb1⟩
  have HW := Lib.hid hb1
  have Lb : Hid (∀ X, Below w1.heap.size w1 X → Ln X ab b cb) := Lib.hid fun X hX => (Kb.out.keep hb1).keep hX
  have Lline : Hid (∀ X, Below w1.heap.size w1 X → Ln X aline line cline) := Lib.hid fun X hX => (Kline.out.keep hb1).keep hX
  clear hb1 HAW Kb Kline
  by_cases hb1 : b.length ≤ 60
  · have hb2 : ¬ (60 : Int) < (b.length : Int) := by omega
    by_cases hl1 : line.length ≤ 300
    · have hl2 : ¬ (300 : Int) < (line.length : Int) := by omega
      by_cases h0 : b = []
      · have hz : ((b.length : Int) == 0) = true := by rw [h0]; rfl
        go_wp2
        go_ret
        exact ⟨rfl, HW.out⟩
      · have hz : ((b.length : Int) == 0) = false := by simpa using h0
        go_wp2_with fail
        refine (Two.new_some w1 b ab cb (Lb.out w1 (Below.refl _ _)) h0 (by omega)).mono ?_
        rintro e2 w2 ⟨t, rfl, ht, hb2'⟩
        have HB2 := Lib.hid hb2'
        have HT2 := Lib.hid ht
        clear hb2' ht
        have hbs2 := ((Lb.out w1 (Below.refl _ _)).1.keep HB2.out).more HB2.out.size
        have b3 := below_new w2 (.cells #[.slice ab b.length cb] 23)
        have HB3 := Lib.hid (HB2.out.trans (b3.mono HB2.out.size))
        have HT3 := Lib.hid (HT2.out.keep b3)
        have CN := Lib.hid (wnew_any _ [⟨b, ab, cb, hnb0⟩] (some ⟨w2.heap.size, 0, none⟩) 1 (ts_one w2 b ab cb hnb0 hbs2) (by simp) (fun z h => by rw [List.mem_singleton.1 h]; show b.length ≤ 1000; omega) (by simp [tot]; omega))
        clear hbs2 b3 HT2
        go_wp2_with fail
        refine CN.out.mono ?_
        rintro e4 w4 ⟨p, rfl, hcw, hb4⟩
        have HB4 := Lib.hid (HB3.out.trans (hb4.mono HB3.out.size))
        have HT4 := Lib.hid (HT3.out.keep hb4)
        have HC4 : Hid (Cw w4 p [b]) := Lib.hid hcw
        clear hcw hb4 CN HT3
        have CE := Lib.hid (wends_any w4 p [b] HC4.out line aline cline (Lline.out w4 HB4.out) (by omega))
        obtain ⟨ho1, ho2⟩ := one_winds h0 line
        generalize hW : (windsOf [b] line).length = W at *
        have HWL := Lib.hid hW
        clear hW
        go_wp2_with fail
        refine CE.out.mono ?_
        rintro e5 w5 ⟨aE, cE, rfl, _, hb5⟩
        rw [HWL.out]
        have HB5 := Lib.hid (HB4.out.trans (hb5.mono HB4.out.size))
        have HT5 := Lib.hid (HT4.out.keep hb5)
        have CS := Lib.hid (wscan_any w5 p [b] (HC4.out.keep hb5) line aline cline (Lline.out w5 HB5.out) (by omega))
        clear hb5 CE HT4 HC4
        go_wp2_with fail
        refine CS.out.mono ?_
        rintro e6 w6 ⟨aX, cX, rfl, hpx, hb6⟩
        have HB6 := Lib.hid (HB5.out.trans (hb6.mono HB5.out.size))
        have HPX := Lib.hid hpx
        have CT := Lib.hid (Two.scan_some w6 t b (HT5.out.keep hb6) h0 (by omega) line aline cline (Lline.out w6 HB6.out) (by omega))
        rw [Two.pcs_scan h0] at CT
        have hsl := scan_len [b] line (by omega)
        clear hpx hb6 CS HT5
        generalize scanOf [b] line = Z at *
        go_wp2_with fail
        refine CT.out.mono ?_
        rintro e7 w7 ⟨aY, cY, rfl, hpy, hb7⟩
        have HB7 := Lib.hid (HB6.out.trans (hb7.mono HB6.out.size))
        have HS := Lib.hid (same_any Z Z aX aY cX cY w7 (by omega) ((HPX.out.keep hb7).more hb7.size) hpy)
        rw [decide_eq_true (rfl : Z = Z)] at HS
        clear hpy hb7 CT HPX
        go_wp2_with fail
        refine HS.out.mono ?_
        rintro e8 w8 ⟨rfl, d, rfl⟩
        have hoi : (W : Int) ≤ (line.length : Int) := by omega
        have hob : ((decide ((0 : Int) < (W : Int))) == decide ((b.length : Int) ≤ (line.length : Int))) = true := by
          rw [beq_iff_eq, decide_eq_decide]; omega
        go_wp2
        go_ret
        exact ⟨rfl, below_drews (HW.out.trans (HB7.out.mono HW.out.size)) d⟩
    · have hl2 : (300 : Int) < (line.length : Int) := by omega
      go_wp2
      go_ret
      exact ⟨rfl, HW.out⟩
  · have hb2 : (60 : Int) < (b.length : Int) := by omega
    go_wp2
    go_ret
    exact ⟨rfl, HW.out⟩
end Go.Proofs.Ytmbglghpnloggaa.cwalterOne
