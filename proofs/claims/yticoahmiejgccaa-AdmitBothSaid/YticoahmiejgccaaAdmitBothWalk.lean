/- AdmitBoth, walked. -/
import Derived.Test.YticoahmiejgccaaAdmC
namespace Go.Proofs.Yticoahmiejgccaa.admitBoth
open Go.RowKit Go.Proofs.Yticoahmiejgccaa.Prs Adm
set_option maxRecDepth 100000
set_option maxHeartbeats 4000000 in
theorem walk (W : World) (line : List UInt8) (aline : Option Addr) (cline : Nat) (_hmline : line.length ≤ maxLen) (hbline : Bs W W.heap.size aline line) (l : List Pr) (al : Option Addr) (cl : Nat) (hcl : l.length ≤ cl) (hnl : al = none → cl = 0) (hpl : Ps W W.heap.size al l) :
    Calls Try.prog 5 #[.slice aline line.length cline, .slice al l.length cl] W fun r w' => r = .returned (.bool true) ∧ Below W.heap.size W w' := by
  have HAW := Lib.hid (awake_any W)
  have HT := Lib.hid hbline
  have HL := Lib.hid hpl
  clear hbline hpl
  go_enter Try.func5, Try.ntmps5
  by_cases hA : line.length ≤ 300
  rotate_left
  · have hAi : ¬ (line.length : Int) ≤ 300 := by omega
    go_wp2_with (go_at_call 8; (with_reducible refine HAW.out.mono ?_); rintro r w1 ⟨rfl, hb1⟩)
    go_ret
    exact ⟨rfl, hb1⟩
  have hAi : (line.length : Int) ≤ 300 := by omega
  by_cases hB : l.length ≤ 100
  rotate_left
  · have hBi : ¬ (l.length : Int) ≤ 100 := by omega
    go_wp2_with (go_at_call 8; (with_reducible refine HAW.out.mono ?_); rintro r w1 ⟨rfl, hb1⟩)
    go_ret
    exact ⟨rfl, hb1⟩
  have hBi : (l.length : Int) ≤ 100 := by omega
  have hl9 : line.length ≤ 1000000000 := by omega
  have hl6 : l.length ≤ 1000000 := by omega
  have HLe : Hid (∀ w x, (filt isWd line l w x).length ≤ 1000000) := Lib.hid fun w x => Nat.le_trans (filt_len isWd line l w x) hl6
  have HLn : Hid ((norm l).length ≤ 1000000) := Lib.hid (by have := norm_length l; omega)
  have HLd : Hid ((norm (filt isWd line l false false)).length ≤ 1000000000) := Lib.hid (by rw [filt_norm]; have := filt_len isWd line (norm l) false false; have := HLn.out; omega)
  go_wp2_with (go_at_call 8; (with_reducible refine HAW.out.mono ?_); rintro r w1 ⟨rfl, hb1⟩)
  have BT := Lib.hid (fun (X : World) (h : Below w1.heap.size w1 X) => (HT.out.keep (hb1.trans (h.mono hb1.size))).more (hb1.trans (h.mono hb1.size)).size)
  have PL := Lib.hid (fun (X : World) (h : Below w1.heap.size w1 X) => HL.out.keeps (hb1.trans (h.mono hb1.size)))
  have HB := Lib.hid (fun (X : World) (h : Below w1.heap.size w1 X) => hb1.trans (h.mono hb1.size))
  clear hb1
  go_wp2_with (go_at_call 11; (with_reducible refine (filter_any line aline cline (l) al cl true false w1 hl9 hl6 (BT.out w1 (Below.refl _ _)) (PL.out w1 (Below.refl _ _))).mono ?_); rintro e w2 ⟨aa, ca, rfl, hca, hna, hp, hb⟩)
  have BT := Lib.hid (fun (X : World) (h : Below w2.heap.size w2 X) => BT.out X (hb.trans (h.mono hb.size)))
  have PL := Lib.hid (fun (X : World) (h : Below w2.heap.size w2 X) => PL.out X (hb.trans (h.mono hb.size)))
  have HB := Lib.hid (fun (X : World) (h : Below w2.heap.size w2 X) => HB.out X (hb.trans (h.mono hb.size)))
  clear hb
  have Pa := Lib.hid (fun (X : World) (h : Below w2.heap.size w2 X) => hp.keeps h)
  clear hp
  go_wp2_with (go_at_call 11; (with_reducible refine (filter_any line aline cline (l) al cl false true w2 hl9 hl6 (BT.out w2 (Below.refl _ _)) (PL.out w2 (Below.refl _ _))).mono ?_); rintro e w3 ⟨ab, cb, rfl, hcb, hnb, hp, hb⟩)
  have BT := Lib.hid (fun (X : World) (h : Below w3.heap.size w3 X) => BT.out X (hb.trans (h.mono hb.size)))
  have PL := Lib.hid (fun (X : World) (h : Below w3.heap.size w3 X) => PL.out X (hb.trans (h.mono hb.size)))
  have HB := Lib.hid (fun (X : World) (h : Below w3.heap.size w3 X) => HB.out X (hb.trans (h.mono hb.size)))
  have Pa := Lib.hid (fun (X : World) (h : Below w3.heap.size w3 X) => Pa.out X (hb.trans (h.mono hb.size)))
  clear hb
  have Pb := Lib.hid (fun (X : World) (h : Below w3.heap.size w3 X) => hp.keeps h)
  clear hp
  go_wp2_with (go_at_call 11; (with_reducible refine (filter_any line aline cline (l) al cl true true w3 hl9 hl6 (BT.out w3 (Below.refl _ _)) (PL.out w3 (Below.refl _ _))).mono ?_); rintro e w4 ⟨ac, cc, rfl, hcc, hnc, hp, hb⟩)
  have BT := Lib.hid (fun (X : World) (h : Below w4.heap.size w4 X) => BT.out X (hb.trans (h.mono hb.size)))
  have PL := Lib.hid (fun (X : World) (h : Below w4.heap.size w4 X) => PL.out X (hb.trans (h.mono hb.size)))
  have HB := Lib.hid (fun (X : World) (h : Below w4.heap.size w4 X) => HB.out X (hb.trans (h.mono hb.size)))
  have Pa := Lib.hid (fun (X : World) (h : Below w4.heap.size w4 X) => Pa.out X (hb.trans (h.mono hb.size)))
  have Pb := Lib.hid (fun (X : World) (h : Below w4.heap.size w4 X) => Pb.out X (hb.trans (h.mono hb.size)))
  clear hb
  have Pc := Lib.hid (fun (X : World) (h : Below w4.heap.size w4 X) => hp.keeps h)
  clear hp
  go_wp2_with (go_at_call 11; (with_reducible refine (filter_any line aline cline (l) al cl false false w4 hl9 hl6 (BT.out w4 (Below.refl _ _)) (PL.out w4 (Below.refl _ _))).mono ?_); rintro e w5 ⟨ad, cd, rfl, hcd, hnd, hp, hb⟩)
  have BT := Lib.hid (fun (X : World) (h : Below w5.heap.size w5 X) => BT.out X (hb.trans (h.mono hb.size)))
  have PL := Lib.hid (fun (X : World) (h : Below w5.heap.size w5 X) => PL.out X (hb.trans (h.mono hb.size)))
  have HB := Lib.hid (fun (X : World) (h : Below w5.heap.size w5 X) => HB.out X (hb.trans (h.mono hb.size)))
  have Pa := Lib.hid (fun (X : World) (h : Below w5.heap.size w5 X) => Pa.out X (hb.trans (h.mono hb.size)))
  have Pb := Lib.hid (fun (X : World) (h : Below w5.heap.size w5 X) => Pb.out X (hb.trans (h.mono hb.size)))
  have Pc := Lib.hid (fun (X : World) (h : Below w5.heap.size w5 X) => Pc.out X (hb.trans (h.mono hb.size)))
  clear hb
  have Pd := Lib.hid (fun (X : World) (h : Below w5.heap.size w5 X) => hp.keeps h)
  clear hp
  have CC : Hid (Calls Try.prog 11 #[.slice aline line.length cline, .slice aa (filt isWd line l true false).length ca, .bool false, .bool true] w5 (Gives w5 (filt isWd line l true true))) := Lib.hid (by have h2 := filter_any line aline cline (filt isWd line l true false) aa ca false true w5 hl9 (HLe.out true false) (BT.out w5 (Below.refl _ _)) (Pa.out w5 (Below.refl _ _)); rw [filt_filt] at h2; exact h2)
  go_wp2_with (go_at_call 11; (with_reducible refine (CC.out).mono ?_); rintro e w6 ⟨ae, ce, rfl, hce, hne, hp, hb⟩)
  have BT := Lib.hid (fun (X : World) (h : Below w6.heap.size w6 X) => BT.out X (hb.trans (h.mono hb.size)))
  have PL := Lib.hid (fun (X : World) (h : Below w6.heap.size w6 X) => PL.out X (hb.trans (h.mono hb.size)))
  have HB := Lib.hid (fun (X : World) (h : Below w6.heap.size w6 X) => HB.out X (hb.trans (h.mono hb.size)))
  have Pa := Lib.hid (fun (X : World) (h : Below w6.heap.size w6 X) => Pa.out X (hb.trans (h.mono hb.size)))
  have Pb := Lib.hid (fun (X : World) (h : Below w6.heap.size w6 X) => Pb.out X (hb.trans (h.mono hb.size)))
  have Pc := Lib.hid (fun (X : World) (h : Below w6.heap.size w6 X) => Pc.out X (hb.trans (h.mono hb.size)))
  have Pd := Lib.hid (fun (X : World) (h : Below w6.heap.size w6 X) => Pd.out X (hb.trans (h.mono hb.size)))
  clear hb
  have Pe := Lib.hid (fun (X : World) (h : Below w6.heap.size w6 X) => hp.keeps h)
  clear hp CC
  have CS : Hid (Calls Try.prog 10 #[.slice ae (filt isWd line l true true).length ce, .slice ac (filt isWd line l true true).length cc] w6 fun e w' => e = .returned (.bool true) ∧ ∃ q, w' = w6.drewN q) := Lib.hid (by have h2 := same_any _ _ ae ac ce cc w6 (Nat.le_trans (HLe.out true true) (by decide)) (Pe.out w6 (Below.refl _ _)) (Pc.out w6 (Below.refl _ _)); rwa [decide_eq_true rfl] at h2)
  go_wp2_with (go_at_call 10; (with_reducible refine (CS.out).mono ?_); rintro e x' ⟨rfl, q, rfl⟩)
  have hb : Below w6.heap.size w6 (w6.drewN q) := below_drews (Below.refl _ _) q
  generalize w6.drewN q = w7 at *
  have BT := Lib.hid (fun (X : World) (h : Below w7.heap.size w7 X) => BT.out X (hb.trans (h.mono hb.size)))
  have PL := Lib.hid (fun (X : World) (h : Below w7.heap.size w7 X) => PL.out X (hb.trans (h.mono hb.size)))
  have HB := Lib.hid (fun (X : World) (h : Below w7.heap.size w7 X) => HB.out X (hb.trans (h.mono hb.size)))
  have Pa := Lib.hid (fun (X : World) (h : Below w7.heap.size w7 X) => Pa.out X (hb.trans (h.mono hb.size)))
  have Pb := Lib.hid (fun (X : World) (h : Below w7.heap.size w7 X) => Pb.out X (hb.trans (h.mono hb.size)))
  have Pc := Lib.hid (fun (X : World) (h : Below w7.heap.size w7 X) => Pc.out X (hb.trans (h.mono hb.size)))
  have Pd := Lib.hid (fun (X : World) (h : Below w7.heap.size w7 X) => Pd.out X (hb.trans (h.mono hb.size)))
  have Pe := Lib.hid (fun (X : World) (h : Below w7.heap.size w7 X) => Pe.out X (hb.trans (h.mono hb.size)))
  clear hb
  clear CS
  have CC : Hid (Calls Try.prog 11 #[.slice aline line.length cline, .slice ab (filt isWd line l false true).length cb, .bool true, .bool false] w7 (Gives w7 (filt isWd line l true true))) := Lib.hid (by have h2 := filter_any line aline cline (filt isWd line l false true) ab cb true false w7 hl9 (HLe.out false true) (BT.out w7 (Below.refl _ _)) (Pb.out w7 (Below.refl _ _)); rw [filt_filt] at h2; exact h2)
  go_wp2_with (go_at_call 11; (with_reducible refine (CC.out).mono ?_); rintro e w8 ⟨af, cf, rfl, hcf, hnf, hp, hb⟩)
  have BT := Lib.hid (fun (X : World) (h : Below w8.heap.size w8 X) => BT.out X (hb.trans (h.mono hb.size)))
  have PL := Lib.hid (fun (X : World) (h : Below w8.heap.size w8 X) => PL.out X (hb.trans (h.mono hb.size)))
  have HB := Lib.hid (fun (X : World) (h : Below w8.heap.size w8 X) => HB.out X (hb.trans (h.mono hb.size)))
  have Pa := Lib.hid (fun (X : World) (h : Below w8.heap.size w8 X) => Pa.out X (hb.trans (h.mono hb.size)))
  have Pb := Lib.hid (fun (X : World) (h : Below w8.heap.size w8 X) => Pb.out X (hb.trans (h.mono hb.size)))
  have Pc := Lib.hid (fun (X : World) (h : Below w8.heap.size w8 X) => Pc.out X (hb.trans (h.mono hb.size)))
  have Pd := Lib.hid (fun (X : World) (h : Below w8.heap.size w8 X) => Pd.out X (hb.trans (h.mono hb.size)))
  clear hb
  have Pf := Lib.hid (fun (X : World) (h : Below w8.heap.size w8 X) => hp.keeps h)
  clear hp CC
  have CS : Hid (Calls Try.prog 10 #[.slice af (filt isWd line l true true).length cf, .slice ac (filt isWd line l true true).length cc] w8 fun e w' => e = .returned (.bool true) ∧ ∃ q, w' = w8.drewN q) := Lib.hid (by have h2 := same_any _ _ af ac cf cc w8 (Nat.le_trans (HLe.out true true) (by decide)) (Pf.out w8 (Below.refl _ _)) (Pc.out w8 (Below.refl _ _)); rwa [decide_eq_true rfl] at h2)
  go_wp2_with (go_at_call 10; (with_reducible refine (CS.out).mono ?_); rintro e x' ⟨rfl, q, rfl⟩)
  have hb : Below w8.heap.size w8 (w8.drewN q) := below_drews (Below.refl _ _) q
  generalize w8.drewN q = w9 at *
  have BT := Lib.hid (fun (X : World) (h : Below w9.heap.size w9 X) => BT.out X (hb.trans (h.mono hb.size)))
  have PL := Lib.hid (fun (X : World) (h : Below w9.heap.size w9 X) => PL.out X (hb.trans (h.mono hb.size)))
  have HB := Lib.hid (fun (X : World) (h : Below w9.heap.size w9 X) => HB.out X (hb.trans (h.mono hb.size)))
  have Pa := Lib.hid (fun (X : World) (h : Below w9.heap.size w9 X) => Pa.out X (hb.trans (h.mono hb.size)))
  have Pb := Lib.hid (fun (X : World) (h : Below w9.heap.size w9 X) => Pb.out X (hb.trans (h.mono hb.size)))
  have Pc := Lib.hid (fun (X : World) (h : Below w9.heap.size w9 X) => Pc.out X (hb.trans (h.mono hb.size)))
  have Pd := Lib.hid (fun (X : World) (h : Below w9.heap.size w9 X) => Pd.out X (hb.trans (h.mono hb.size)))
  have Pf := Lib.hid (fun (X : World) (h : Below w9.heap.size w9 X) => Pf.out X (hb.trans (h.mono hb.size)))
  clear hb
  clear CS
  have CC : Hid (Calls Try.prog 11 #[.slice aline line.length cline, .slice ad (filt isWd line l false false).length cd, .bool true, .bool true] w9 (Gives w9 (filt isWd line l true true))) := Lib.hid (by have h2 := filter_any line aline cline (filt isWd line l false false) ad cd true true w9 hl9 (HLe.out false false) (BT.out w9 (Below.refl _ _)) (Pd.out w9 (Below.refl _ _)); rw [filt_filt] at h2; exact h2)
  go_wp2_with (go_at_call 11; (with_reducible refine (CC.out).mono ?_); rintro e w10 ⟨ag, cg, rfl, hcg, hng, hp, hb⟩)
  have BT := Lib.hid (fun (X : World) (h : Below w10.heap.size w10 X) => BT.out X (hb.trans (h.mono hb.size)))
  have PL := Lib.hid (fun (X : World) (h : Below w10.heap.size w10 X) => PL.out X (hb.trans (h.mono hb.size)))
  have HB := Lib.hid (fun (X : World) (h : Below w10.heap.size w10 X) => HB.out X (hb.trans (h.mono hb.size)))
  have Pa := Lib.hid (fun (X : World) (h : Below w10.heap.size w10 X) => Pa.out X (hb.trans (h.mono hb.size)))
  have Pb := Lib.hid (fun (X : World) (h : Below w10.heap.size w10 X) => Pb.out X (hb.trans (h.mono hb.size)))
  have Pc := Lib.hid (fun (X : World) (h : Below w10.heap.size w10 X) => Pc.out X (hb.trans (h.mono hb.size)))
  have Pd := Lib.hid (fun (X : World) (h : Below w10.heap.size w10 X) => Pd.out X (hb.trans (h.mono hb.size)))
  clear hb
  have Pg := Lib.hid (fun (X : World) (h : Below w10.heap.size w10 X) => hp.keeps h)
  clear hp CC
  have CS : Hid (Calls Try.prog 10 #[.slice ag (filt isWd line l true true).length cg, .slice ac (filt isWd line l true true).length cc] w10 fun e w' => e = .returned (.bool true) ∧ ∃ q, w' = w10.drewN q) := Lib.hid (by have h2 := same_any _ _ ag ac cg cc w10 (Nat.le_trans (HLe.out true true) (by decide)) (Pg.out w10 (Below.refl _ _)) (Pc.out w10 (Below.refl _ _)); rwa [decide_eq_true rfl] at h2)
  go_wp2_with (go_at_call 10; (with_reducible refine (CS.out).mono ?_); rintro e x' ⟨rfl, q, rfl⟩)
  have hb : Below w10.heap.size w10 (w10.drewN q) := below_drews (Below.refl _ _) q
  generalize w10.drewN q = w11 at *
  have BT := Lib.hid (fun (X : World) (h : Below w11.heap.size w11 X) => BT.out X (hb.trans (h.mono hb.size)))
  have PL := Lib.hid (fun (X : World) (h : Below w11.heap.size w11 X) => PL.out X (hb.trans (h.mono hb.size)))
  have HB := Lib.hid (fun (X : World) (h : Below w11.heap.size w11 X) => HB.out X (hb.trans (h.mono hb.size)))
  have Pa := Lib.hid (fun (X : World) (h : Below w11.heap.size w11 X) => Pa.out X (hb.trans (h.mono hb.size)))
  have Pb := Lib.hid (fun (X : World) (h : Below w11.heap.size w11 X) => Pb.out X (hb.trans (h.mono hb.size)))
  have Pc := Lib.hid (fun (X : World) (h : Below w11.heap.size w11 X) => Pc.out X (hb.trans (h.mono hb.size)))
  have Pd := Lib.hid (fun (X : World) (h : Below w11.heap.size w11 X) => Pd.out X (hb.trans (h.mono hb.size)))
  have Pg := Lib.hid (fun (X : World) (h : Below w11.heap.size w11 X) => Pg.out X (hb.trans (h.mono hb.size)))
  clear hb
  clear CS
  have CC : Hid (Calls Try.prog 11 #[.slice aline line.length cline, .slice ac (filt isWd line l true true).length cc, .bool true, .bool true] w11 (Gives w11 (filt isWd line l true true))) := Lib.hid (by have h2 := filter_any line aline cline (filt isWd line l true true) ac cc true true w11 hl9 (HLe.out true true) (BT.out w11 (Below.refl _ _)) (Pc.out w11 (Below.refl _ _)); rw [filt_filt] at h2; exact h2)
  go_wp2_with (go_at_call 11; (with_reducible refine (CC.out).mono ?_); rintro e w12 ⟨ai, ci, rfl, hci, hni, hp, hb⟩)
  have BT := Lib.hid (fun (X : World) (h : Below w12.heap.size w12 X) => BT.out X (hb.trans (h.mono hb.size)))
  have PL := Lib.hid (fun (X : World) (h : Below w12.heap.size w12 X) => PL.out X (hb.trans (h.mono hb.size)))
  have HB := Lib.hid (fun (X : World) (h : Below w12.heap.size w12 X) => HB.out X (hb.trans (h.mono hb.size)))
  have Pa := Lib.hid (fun (X : World) (h : Below w12.heap.size w12 X) => Pa.out X (hb.trans (h.mono hb.size)))
  have Pb := Lib.hid (fun (X : World) (h : Below w12.heap.size w12 X) => Pb.out X (hb.trans (h.mono hb.size)))
  have Pc := Lib.hid (fun (X : World) (h : Below w12.heap.size w12 X) => Pc.out X (hb.trans (h.mono hb.size)))
  have Pd := Lib.hid (fun (X : World) (h : Below w12.heap.size w12 X) => Pd.out X (hb.trans (h.mono hb.size)))
  clear hb
  have Pi := Lib.hid (fun (X : World) (h : Below w12.heap.size w12 X) => hp.keeps h)
  clear hp CC
  have CS : Hid (Calls Try.prog 10 #[.slice ai (filt isWd line l true true).length ci, .slice ac (filt isWd line l true true).length cc] w12 fun e w' => e = .returned (.bool true) ∧ ∃ q, w' = w12.drewN q) := Lib.hid (by have h2 := same_any _ _ ai ac ci cc w12 (Nat.le_trans (HLe.out true true) (by decide)) (Pi.out w12 (Below.refl _ _)) (Pc.out w12 (Below.refl _ _)); rwa [decide_eq_true rfl] at h2)
  go_wp2_with (go_at_call 10; (with_reducible refine (CS.out).mono ?_); rintro e x' ⟨rfl, q, rfl⟩)
  have hb : Below w12.heap.size w12 (w12.drewN q) := below_drews (Below.refl _ _) q
  generalize w12.drewN q = w13 at *
  have BT := Lib.hid (fun (X : World) (h : Below w13.heap.size w13 X) => BT.out X (hb.trans (h.mono hb.size)))
  have PL := Lib.hid (fun (X : World) (h : Below w13.heap.size w13 X) => PL.out X (hb.trans (h.mono hb.size)))
  have HB := Lib.hid (fun (X : World) (h : Below w13.heap.size w13 X) => HB.out X (hb.trans (h.mono hb.size)))
  have Pa := Lib.hid (fun (X : World) (h : Below w13.heap.size w13 X) => Pa.out X (hb.trans (h.mono hb.size)))
  have Pb := Lib.hid (fun (X : World) (h : Below w13.heap.size w13 X) => Pb.out X (hb.trans (h.mono hb.size)))
  have Pc := Lib.hid (fun (X : World) (h : Below w13.heap.size w13 X) => Pc.out X (hb.trans (h.mono hb.size)))
  have Pd := Lib.hid (fun (X : World) (h : Below w13.heap.size w13 X) => Pd.out X (hb.trans (h.mono hb.size)))
  have Pi := Lib.hid (fun (X : World) (h : Below w13.heap.size w13 X) => Pi.out X (hb.trans (h.mono hb.size)))
  clear hb
  clear CS
  have CF : Hid (Calls Try.prog 17 #[.slice ad (filt isWd line l false false).length cd, .int .i64 (line.length : Int)] w13 fun e w' => e = .returned (.bool true) ∧ Below w13.heap.size w13 w') := Lib.hid (by have h2 := fits_any (filt isWd line l false false) ad cd (line.length : Int) w13 (Nat.le_trans (HLe.out false false) (by decide)) (Pd.out w13 (Below.refl _ _)); rwa [filt_fits] at h2)
  go_wp2_with (go_at_call 17; (with_reducible refine (CF.out).mono ?_); rintro e w14 ⟨rfl, hb⟩)
  have BT := Lib.hid (fun (X : World) (h : Below w14.heap.size w14 X) => BT.out X (hb.trans (h.mono hb.size)))
  have PL := Lib.hid (fun (X : World) (h : Below w14.heap.size w14 X) => PL.out X (hb.trans (h.mono hb.size)))
  have HB := Lib.hid (fun (X : World) (h : Below w14.heap.size w14 X) => HB.out X (hb.trans (h.mono hb.size)))
  have Pa := Lib.hid (fun (X : World) (h : Below w14.heap.size w14 X) => Pa.out X (hb.trans (h.mono hb.size)))
  have Pb := Lib.hid (fun (X : World) (h : Below w14.heap.size w14 X) => Pb.out X (hb.trans (h.mono hb.size)))
  have Pc := Lib.hid (fun (X : World) (h : Below w14.heap.size w14 X) => Pc.out X (hb.trans (h.mono hb.size)))
  have Pd := Lib.hid (fun (X : World) (h : Below w14.heap.size w14 X) => Pd.out X (hb.trans (h.mono hb.size)))
  clear hb
  clear CF
  go_wp2_with (go_at_call 18; (with_reducible refine (sort_all (filt isWd line l false false) ad cd w14 (HLe.out false false) (Pd.out w14 (Below.refl _ _)) hcd hnd).mono ?_); rintro e w15 ⟨aS, cS, rfl, hcS, hnS, hp, hb⟩)
  have BT := Lib.hid (fun (X : World) (h : Below w15.heap.size w15 X) => BT.out X (hb.trans (h.mono hb.size)))
  have PL := Lib.hid (fun (X : World) (h : Below w15.heap.size w15 X) => PL.out X (hb.trans (h.mono hb.size)))
  have HB := Lib.hid (fun (X : World) (h : Below w15.heap.size w15 X) => HB.out X (hb.trans (h.mono hb.size)))
  have Pa := Lib.hid (fun (X : World) (h : Below w15.heap.size w15 X) => Pa.out X (hb.trans (h.mono hb.size)))
  have Pb := Lib.hid (fun (X : World) (h : Below w15.heap.size w15 X) => Pb.out X (hb.trans (h.mono hb.size)))
  have Pc := Lib.hid (fun (X : World) (h : Below w15.heap.size w15 X) => Pc.out X (hb.trans (h.mono hb.size)))
  have Pd := Lib.hid (fun (X : World) (h : Below w15.heap.size w15 X) => Pd.out X (hb.trans (h.mono hb.size)))
  clear hb
  have PS := Lib.hid (fun (X : World) (h : Below w15.heap.size w15 X) => hp.keeps h)
  clear hp
  go_wp2_with (go_at_call 18; (with_reducible refine (sort_all (l) al cl w15 hl6 (PL.out w15 (Below.refl _ _)) hcl hnl).mono ?_); rintro e w16 ⟨aT, cT, rfl, hcT, hnT, hp, hb⟩)
  have BT := Lib.hid (fun (X : World) (h : Below w16.heap.size w16 X) => BT.out X (hb.trans (h.mono hb.size)))
  have PL := Lib.hid (fun (X : World) (h : Below w16.heap.size w16 X) => PL.out X (hb.trans (h.mono hb.size)))
  have HB := Lib.hid (fun (X : World) (h : Below w16.heap.size w16 X) => HB.out X (hb.trans (h.mono hb.size)))
  have Pa := Lib.hid (fun (X : World) (h : Below w16.heap.size w16 X) => Pa.out X (hb.trans (h.mono hb.size)))
  have Pb := Lib.hid (fun (X : World) (h : Below w16.heap.size w16 X) => Pb.out X (hb.trans (h.mono hb.size)))
  have Pc := Lib.hid (fun (X : World) (h : Below w16.heap.size w16 X) => Pc.out X (hb.trans (h.mono hb.size)))
  have Pd := Lib.hid (fun (X : World) (h : Below w16.heap.size w16 X) => Pd.out X (hb.trans (h.mono hb.size)))
  have PS := Lib.hid (fun (X : World) (h : Below w16.heap.size w16 X) => PS.out X (hb.trans (h.mono hb.size)))
  clear hb
  have PT := Lib.hid (fun (X : World) (h : Below w16.heap.size w16 X) => hp.keeps h)
  clear hp
  go_wp2_with (go_at_call 11; (with_reducible refine (filter_any line aline cline (norm l) aT cT false false w16 hl9 HLn.out (BT.out w16 (Below.refl _ _)) (PT.out w16 (Below.refl _ _))).mono ?_); rintro e w17 ⟨au, cu, rfl, hcu, hnu, hp, hb⟩)
  have BT := Lib.hid (fun (X : World) (h : Below w17.heap.size w17 X) => BT.out X (hb.trans (h.mono hb.size)))
  have PL := Lib.hid (fun (X : World) (h : Below w17.heap.size w17 X) => PL.out X (hb.trans (h.mono hb.size)))
  have HB := Lib.hid (fun (X : World) (h : Below w17.heap.size w17 X) => HB.out X (hb.trans (h.mono hb.size)))
  have Pa := Lib.hid (fun (X : World) (h : Below w17.heap.size w17 X) => Pa.out X (hb.trans (h.mono hb.size)))
  have Pb := Lib.hid (fun (X : World) (h : Below w17.heap.size w17 X) => Pb.out X (hb.trans (h.mono hb.size)))
  have Pc := Lib.hid (fun (X : World) (h : Below w17.heap.size w17 X) => Pc.out X (hb.trans (h.mono hb.size)))
  have Pd := Lib.hid (fun (X : World) (h : Below w17.heap.size w17 X) => Pd.out X (hb.trans (h.mono hb.size)))
  have PS := Lib.hid (fun (X : World) (h : Below w17.heap.size w17 X) => PS.out X (hb.trans (h.mono hb.size)))
  have PT := Lib.hid (fun (X : World) (h : Below w17.heap.size w17 X) => PT.out X (hb.trans (h.mono hb.size)))
  clear hb
  have Pu := Lib.hid (fun (X : World) (h : Below w17.heap.size w17 X) => hp.keeps h)
  clear hp
  have CS : Hid (Calls Try.prog 10 #[.slice aS (norm (filt isWd line l false false)).length cS, .slice au (filt isWd line (norm l) false false).length cu] w17 fun e w' => e = .returned (.bool true) ∧ ∃ q, w' = w17.drewN q) := Lib.hid (by have h2 := same_any _ _ aS au cS cu w17 HLd.out (PS.out w17 (Below.refl _ _)) (Pu.out w17 (Below.refl _ _)); rwa [decide_eq_true (filt_norm isWd line l false false)] at h2)
  go_wp2_with (go_at_call 10; (with_reducible refine (CS.out).mono ?_); rintro e x' ⟨rfl, q, rfl⟩)
  have hb : Below w17.heap.size w17 (w17.drewN q) := below_drews (Below.refl _ _) q
  generalize w17.drewN q = w18 at *
  have BT := Lib.hid (fun (X : World) (h : Below w18.heap.size w18 X) => BT.out X (hb.trans (h.mono hb.size)))
  have PL := Lib.hid (fun (X : World) (h : Below w18.heap.size w18 X) => PL.out X (hb.trans (h.mono hb.size)))
  have HB := Lib.hid (fun (X : World) (h : Below w18.heap.size w18 X) => HB.out X (hb.trans (h.mono hb.size)))
  have Pa := Lib.hid (fun (X : World) (h : Below w18.heap.size w18 X) => Pa.out X (hb.trans (h.mono hb.size)))
  have Pb := Lib.hid (fun (X : World) (h : Below w18.heap.size w18 X) => Pb.out X (hb.trans (h.mono hb.size)))
  have Pc := Lib.hid (fun (X : World) (h : Below w18.heap.size w18 X) => Pc.out X (hb.trans (h.mono hb.size)))
  have Pd := Lib.hid (fun (X : World) (h : Below w18.heap.size w18 X) => Pd.out X (hb.trans (h.mono hb.size)))
  have PS := Lib.hid (fun (X : World) (h : Below w18.heap.size w18 X) => PS.out X (hb.trans (h.mono hb.size)))
  have PT := Lib.hid (fun (X : World) (h : Below w18.heap.size w18 X) => PT.out X (hb.trans (h.mono hb.size)))
  have Pu := Lib.hid (fun (X : World) (h : Below w18.heap.size w18 X) => Pu.out X (hb.trans (h.mono hb.size)))
  clear hb
  clear CS
  go_ret
  exact ⟨rfl, HB.out w18 (Below.refl _ _)⟩
end Go.Proofs.Yticoahmiejgccaa.admitBoth
