/- The walk of TwowayOnce. -/
import Derived.Test.YtcoghcfhkndijaaJc
namespace Go.Proofs.Ytcoghcfhkndijaa.twowayOnce
open Go.Proofs.Ytcoghcfhkndijaa.Two Go.Proofs.Ytcoghcfhkndijaa.Suf Go.Proofs.Ytcoghcfhkndijaa.Crt Go.Proofs.Ytcoghcfhkndijaa.Prs Go.RowKit Go.Maps
set_option maxRecDepth 100000
set_option linter.unusedVariables false
open Go.Proofs.Ytcoghcfhkndijaa.Reg

set_option maxHeartbeats 8000000 in
theorem walk (w : World) (b : Tx) (ab : Option Addr) (cb : Nat) (hmb : b.length ≤ maxLen) (hbb : Bs w w.heap.size ab b) (hnb : ab = none → cb = 0) (hcb : b.length ≤ cb) (line : Tx) (aline : Option Addr) (cline : Nat) (hmline : line.length ≤ maxLen) (hbline : Bs w w.heap.size aline line) (hnline : aline = none → cline = 0) (hcline : line.length ≤ cline) :
    Calls Try.prog 7 #[.slice ab b.length cb, .slice aline line.length cline] w fun e w' => e = .returned (.bool true) ∧ Below w.heap.size w w' := by
  have HAW := Lib.hid (awake_any w)
  have Kb : Hid (Ln w ab b cb) := Lib.hid ⟨hbb, hcb, hnb⟩
  clear hbb hcb hnb
  have Kline : Hid (Ln w aline line cline) := Lib.hid ⟨hbline, hcline, hnline⟩
  clear hbline hcline hnline

  go_enter Try.func7, Try.ntmps7
  go_wp2_with fail
  refine HAW.out.mono ?_
  rintro e' w1 ⟨rfl, hb1⟩
  have HW := Lib.hid hb1
  have Lb : Hid (∀ X, Below w1.heap.size w1 X → Ln X ab b cb) := Lib.hid fun X hX => (Kb.out.keep hb1).keep hX
  have Lline : Hid (∀ X, Below w1.heap.size w1 X → Ln X aline line cline) := Lib.hid fun X hX => (Kline.out.keep hb1).keep hX
  clear hb1 HAW Kb Kline
  by_cases hf : b.length ≤ 100 ∧ line.length ≤ 300
  · go_wp2_with fail
    refine (few_any w1 _ _ _ _ _ _).mono ?_
    rintro e' w1' ⟨rfl, rfl⟩
    rw [decide_eq_true hf]
    obtain ⟨hf1, hf2⟩ := hf
    by_cases h0 : b = []
    · subst h0
      have hz : (([] : Tx).length : Int) = 0 := rfl
      go_wp2
      go_ret
      exact ⟨rfl, HW.out⟩
    · have hz : ((b.length : Int) == 0) = false := by simpa using h0
      have hz2 : ¬ (b.length : Int) = 0 := by simpa using h0
      have hbp := List.length_pos_iff.2 h0
      have LB := Lb.out w1 (Below.refl _ _)
      have hnb := LB.2.2
      have LB1 := Lib.hid LB.1
      clear LB
      go_wp2_with (first
        | (at_builtin; refine app_bs rfl _ _ rfl w1.heap.size (.slice none 0 0) 0 [] rfl (World.ownsRow_nil _ _ _ _) ab b cb w1.heap.size rfl LB1.out hnb (by omega) (Nat.le_refl _) ?_; intro v1 w2 ho1 hg1; have H1 : Hid (w2.ownsRow w1.heap.size 5 1 v1 b.length (vals b)) := Lib.hid (by simpa using ho1); have X2 := Lib.hid (Go.Proofs.Ytcoghcfhkndijaa.app_below (Below.refl w1.heap.size w1) (World.ownsRow_nil _ _ _ _) hg1 (Nat.le_refl _) (Nat.le_refl _)); clear ho1 hg1; obtain ⟨ac, cc, rfl, htc, hcc, hnc⟩ := own_txt H1.out; have TC := Lib.hid htc; clear htc)
        | fail)
      obtain ⟨gc, csc, rfl, hgs, hgh, _⟩ := TC.out hbp
      have hgl := txt_lt hgh
      have HGL := Lib.hid hgl
      have HGS := Lib.hid hgs
      have LC2 : Hid (Ln w2 (some ⟨gc, 0, none⟩) b cc) := Lib.hid ⟨TC.out.bs, hcc, hnc⟩
      clear hgl hgs hgh hnc hcc H1
      refine (new_some w2 b _ cc LC2.out h0 (by omega)).mono ?_
      rintro e w3 ⟨t, rfl, ht, hb3⟩
      have HT3 := Lib.hid ht
      have TC3 := Lib.hid (TC.out.keep hb3)
      have X3 := Lib.hid (X2.out.trans (hb3.mono X2.out.size))
      clear ht hb3 LC2
      go_wp2_with fail
      go_loopw [10] (fun vi wq => ∃ k : Nat, k ≤ b.length ∧ vi = .int .i64 (k : Int) ∧ (∃ l' : Tx, l'.length = b.length ∧ Txt wq w1.heap.size (some ⟨gc, 0, none⟩) l') ∧ Tw wq w2.heap.size t b ∧ Below w1.heap.size w1 wq) (fun vi _ => b.length - (intOf vi).toNat)
      case atStart => exact ⟨0, Nat.zero_le _, rfl, ⟨b, rfl, TC3.out⟩, HT3.out, X3.out⟩
      case round =>
        obtain ⟨k, hk, rfl, ⟨l', hl', htx⟩, htw, hX⟩ := hrel
        have HTX := Lib.hid htx
        have HTW := Lib.hid htw
        have HX := Lib.hid hX
        have HL' := Lib.hid hl'
        clear htx htw hX
        by_cases hkl : k < b.length
        · have hkl2 : (k : Int) < (b.length : Int) := by omega
          obtain ⟨g2, cs2, e2, _, hh2, hc2⟩ := HTX.out (by omega)
          obtain rfl : gc = g2 := by injection e2 with e2; injection e2
          have hc3 := hc2 k (by omega)
          obtain ⟨c, hcd⟩ : ∃ c, c = l'[k]'(by omega) := ⟨_, rfl⟩
          rw [← hcd] at hc3
          have hcell : wr.cell? ⟨gc, k, none⟩ = some (.int .u8 (c.toNat : Int)) := by rw [cell_of_row wr gc _ _ 5 _ hh2]; exact hc3
          have hfz : wr.frozen? ⟨gc, k, none⟩ = false := row_frozen hh2 k
          have hwc : IntKind.u8.wrap ((c.toNat : Int) + 1) = ((c + 1 : UInt8).toNat : Int) := by
            rw [IntKind.wrap_u8', UInt8.toNat_add]; simp
          clear hcd hc2 hc3 hl' hh2
          go_wp2
          exact ⟨⟨k + 1, by omega, by go_num, ⟨l'.set k (c + 1), by rw [List.length_set, HL'.out], Met.Txt.set HTX.out (c + 1)⟩, HTW.out.set HGL.out, HX.out.setCell (p := ⟨gc, k, none⟩) HGS.out _⟩, by simp [intOf]; omega⟩
        · have hkl2 : ¬ (k : Int) < (b.length : Int) := by omega
          clear hl'
          go_wp2_with fail
          refine (scan_some wr t b HTW.out h0 (by omega) line aline cline (Lline.out wr HX.out) (by omega)).mono ?_
          rintro e w6 ⟨A6, c6, rfl, hp6, hb6⟩
          have HP6 := Lib.hid (fun X (hX : Below w6.heap.size w6 X) => (Prs.Ps.keep hp6 hX).more hX.size)
          have HT6 := Lib.hid (HTW.out.keep hb6)
          have HB6 := Lib.hid (HX.out.trans (hb6.mono HX.out.size))
          have HNX : Hid (∀ X (fr : Nat), Below w6.heap.size w6 X → fr ≤ 1000 → Calls Try.prog 12 #[.pointer (some ⟨t, 0, none⟩), .slice aline line.length cline, .int .i64 (fr : Int)] X fun e w' => e = .returned (.int .i64 (nextOf b line fr)) ∧ Below X.heap.size X w') := Lib.hid fun X fr hX hfr => by
            have := next_some X t b (HT6.out.keep hX) h0 (by omega) line aline cline (Lline.out X (HB6.out.trans (hX.mono HB6.out.size))) (by omega) (fr : Int) (by omega)
            rwa [Int.toNat_natCast] at this
          clear hp6 hb6 HTW HX HTX
          have hpl := pcs_pl b line
          have hplen : (pcs b line).length = (pl b line).length := by rw [hpl, List.length_map]
          have hpmax : (pl b line).length ≤ 1000 := by rw [← hplen]; have := pcsTo_len b line (line.length + 1); rw [pcs]; omega
          obtain ⟨P, hP⟩ : ∃ P, P = pcs b line := ⟨_, rfl⟩
          rw [← hP] at HP6 hpl hplen ⊢
          have HPL := Lib.hid hpl
          have HPN := Lib.hid hplen
          clear hP hpl hplen
          go_wp2_with fail
          go_loopw [12, 13] (fun vf vi wq => ∃ j : Nat, j ≤ P.length ∧ vi = .int .i64 (j : Int) ∧ vf = .int .i64 (fromAt (pl b line) j : Int) ∧ Below w6.heap.size w6 wq) (fun _ vi _ => P.length - (intOf vi).toNat)
          case atStart => exact ⟨0, Nat.zero_le _, rfl, rfl, Below.refl _ _⟩
          case round =>
            obtain ⟨j, hj, rfl, rfl, hX⟩ := hrel
            have HX7 := Lib.hid hX
            clear hX
            by_cases hjl : j < P.length
            · have hjl2 : (j : Int) < (P.length : Int) := by omega
              have hjp : j < (pl b line).length := by rw [← HPN.out]; exact hjl
              have hfst := pl_first h0 hjp
              obtain ⟨a, ha⟩ : ∃ a, a = (pl b line)[j] := ⟨_, rfl⟩
              obtain ⟨f, hf⟩ : ∃ f, f = fromAt (pl b line) j := ⟨_, rfl⟩
              rw [← ha, ← hf] at hfst
              have hle := hfst.2.1.le h0
              have hn1 := nextOf_first h0 hfst
              have hn2 := nextOf_first h0 (first_self hfst.2.1)
              have hfa := hfst.1
              have hnf := fromAt_succ (pl b line) j hjp
              rw [← ha] at hnf
              have HNF := Lib.hid hnf
              have HN1 := Lib.hid (fun X hX => HNX.out X f hX (by omega))
              have HN2 := Lib.hid (fun X hX => HNX.out X a hX (by omega))
              rw [hn1] at HN1
              rw [hn2] at HN2
              obtain ⟨E, hE⟩ : ∃ E, E = a + b.length := ⟨_, rfl⟩
              have hPj : P[j]'hjl = ⟨(a : Int), (E : Int)⟩ := by
                have h1 : P[j]? = some (pieceAt b a) := by rw [HPL.out, List.getElem?_map, List.getElem?_eq_getElem hjp, ← ha]; rfl
                rw [List.getElem?_eq_getElem hjl] at h1
                rw [Option.some.inj h1, pieceAt, hE]
              rw [← hf]
              have hfa2 : ¬ (a : Int) < (f : Int) := by omega
              have hself : ((a : Int) != (a : Int)) = false := by simp
              have hself2 : ((E : Int) != (E : Int)) = false := by simp
              have hwE : IntKind.i64.wrap ((a : Int) + (b.length : Int)) = (E : Int) := by rw [IntWalk.i64_in _ (by omega)]; omega
              have hjb : j ≤ 1000 := by omega
              have hab : a ≤ 1000 := by omega
              have HPJ := Lib.hid hPj
              have HJJ := Lib.hid hjl
              clear hfst hle hn1 hn2 hfa hnf ha hf hE hPj hjp
              go_wp2_with fail
              refine (HN1.out wr HX7.out).mono ?_
              rintro e w8 ⟨rfl, hb8⟩
              have HX8 := Lib.hid (HX7.out.trans (hb8.mono HX7.out.size))
              clear hb8
              obtain ⟨b1, o1, rfl, _, hcs⟩ := HP6.out w8 HX8.out (by omega)
              obtain ⟨hc1, hc2⟩ := hcs j HJJ.out
              rw [HPJ.out] at hc1 hc2
              clear hcs
              go_wp2_with fail
              refine (HN2.out w8 HX8.out).mono ?_
              rintro e w9 ⟨rfl, hb9⟩
              have HX9 := Lib.hid (HX8.out.trans (hb9.mono HX8.out.size))
              clear hb9 hc1 hc2
              obtain ⟨b2, o2, e2, _, hcs⟩ := HP6.out w9 HX9.out (by have := HJJ.out; omega)
              obtain ⟨rfl, rfl⟩ : b1 = b2 ∧ o1 = o2 := by injection e2 with e2; injection e2 with e3 e4; exact ⟨e3, e4⟩
              obtain ⟨hc1, hc2⟩ := hcs j HJJ.out
              rw [HPJ.out] at hc1 hc2
              clear hcs e2
              go_wp2
              exact ⟨⟨j + 1, HJJ.out, by go_num, by rw [HNF.out]; go_num, HX9.out⟩, by have := HJJ.out; simp [intOf]; omega⟩
            · obtain rfl : j = P.length := by omega
              have hjl2 : ¬ (P.length : Int) < (P.length : Int) := by omega
              have hno := pl_none (b := b) (line := line) h0
              rw [← HPN.out] at hno
              have hn1 := nextOf_none hno
              obtain ⟨f, hf⟩ : ∃ f, f = fromAt (pl b line) P.length := ⟨_, rfl⟩
              have hfl : f ≤ 1000 := by
                rw [hf]
                cases hq : P.length with
                | zero => exact Nat.zero_le _
                | succ m =>
                  have hm : m < (pl b line).length := by rw [← HPN.out]; omega
                  rw [fromAt_succ _ m hm]
                  have h1 := ((mem_pl h0 _).1 (List.getElem_mem hm)).le h0
                  omega
              rw [← hf] at hn1 ⊢
              have hover : ∀ d, nextOf b line (line.length + d) = -1 := fun d => nextOf_none fun q hq hs => by have := hs.le h0; omega
              have HN1 := Lib.hid (fun X hX => HNX.out X f hX hfl)
              have HN2 := Lib.hid (fun X hX => HNX.out X line.length hX (by omega))
              have HN3 := Lib.hid (fun X hX => HNX.out X (line.length + 5) hX (by omega))
              rw [hn1] at HN1
              rw [show nextOf b line line.length = -1 from hover 0] at HN2
              rw [hover 5] at HN3
              clear hn1 hf hover hno
              go_wp2_with fail
              refine (HN1.out wr HX7.out).mono ?_
              rintro e w8 ⟨rfl, hb8⟩
              have HX8 := Lib.hid (HX7.out.trans (hb8.mono HX7.out.size))
              clear hb8
              go_wp2_with fail
              refine (HN2.out w8 HX8.out).mono ?_
              rintro e w9 ⟨rfl, hb9⟩
              have HX9 := Lib.hid (HX8.out.trans (hb9.mono HX8.out.size))
              clear hb9
              go_wp2_with fail
              refine (HN3.out w9 HX9.out).mono ?_
              rintro e w10 ⟨rfl, hb10⟩
              have HX10 := Lib.hid (HX9.out.trans (hb10.mono HX9.out.size))
              clear hb10
              go_wp2
              go_ret
              exact ⟨rfl, HW.out.trans ((HB6.out.trans (HX10.out.mono HB6.out.size)).mono HW.out.size)⟩
  · go_wp2_with fail
    refine (few_any w1 _ _ _ _ _ _).mono ?_
    rintro e' w1' ⟨rfl, rfl⟩
    rw [decide_eq_false hf]
    go_wp2
    go_ret
    exact ⟨rfl, HW.out⟩
end Go.Proofs.Ytcoghcfhkndijaa.twowayOnce
