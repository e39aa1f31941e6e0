/- Stage 23: the reference's gaps. -/
import Derived.Test.YtlmncljnnpnjmaaPickB4
namespace Go.Proofs.Ytlmncljnnpnjmaa.Pck
open Go.RowKit Go.Proofs.Ytlmncljnnpnjmaa.Prs Adm Reg
set_option maxRecDepth 100000
theorem gaps_cons (n a : Int) (p : Pr) (l : List Pr) : gapsTo n a (p :: l) = (if a < p.s then [⟨a, p.s⟩] else []) ++ gapsTo n (if a < p.e then p.e else a) l := rfl
set_option maxHeartbeats 2000000 in
theorem rgaps_any (n : Int) (l : List Pr) (al : Option Addr) (cl : Nat) (w : World) (hll : l.length ≤ 1000000) (hx : Ps w w.heap.size al l) :
    Calls Try.prog 16 #[.slice al l.length cl, .int .i64 n] w (Gives w (gapsTo n 0 l)) := by
  have HX := Lib.hid hx
  clear hx
  go_enter Try.func16, Try.ntmps16
  go_wp2
  go_loopg [5, 6, 7] l.length (fun gf s5 s6 s7 wr => ∃ (k : Nat) (d : List Pr) (a : Int), k + gf = l.length ∧ s7 = .int .i64 k ∧ s6 = .int .i64 a ∧ wr.ownsRow w.heap.size 25 2 s5 d.length (cellsOf d) ∧ gapsTo n 0 l = d ++ gapsTo n a (l.drop k) ∧ d.length ≤ k ∧ Below w.heap.size w wr)
  case atStart => exact ⟨0, [], 0, by omega, rfl, rfl, World.ownsRow_nil w w.heap.size 25 2, rfl, by simp, Below.refl _ _⟩
  case round =>
    obtain ⟨k, d, a, hk, rfl, rfl, hown, hgd, hdk, hbel⟩ := hrel
    have HO := Lib.hid hown
    have HB := Lib.hid hbel
    have hsz := hbel.size
    cases gk with
    | zero =>
      obtain rfl : k = l.length := by omega
      have hni : ¬ ((l.length : Int) < (l.length : Int)) := by omega
      rw [List.drop_length] at hgd
      obtain ⟨z, hz⟩ : ∃ z, decide (a < n) = z := ⟨_, rfl⟩
      cases z
      · have HG : Hid (gapsTo n 0 l = d) := Lib.hid (by rw [hgd]; unfold gapsTo; rw [if_neg (of_decide_eq_false hz), List.append_nil])
        clear hgd hown hbel
        go_wp2
        obtain ⟨b, cap, rfl, hlc, hnc, hps⟩ := own_ps HO.out rfl
        go_ret
        rw [HG.out]
        exact ⟨b, cap, rfl, hlc, hnc, hps, HB.out⟩
      · have HG : Hid (gapsTo n 0 l = d ++ [⟨a, n⟩]) := Lib.hid (by rw [hgd]; unfold gapsTo; rw [if_pos (of_decide_eq_true hz)])
        clear hgd hown hbel
        go_wp2_with (at_builtin; refine app_ps rfl _ _ rfl w.heap.size _ d.length d rfl (HO.out.alloc _) (some ⟨wr.heap.size, 0, none⟩) [⟨a, n⟩] 1 _ rfl (ps_one wr ⟨a, n⟩ (0, 0)) (fun e => by cases e) (by simp; omega) (by simp; omega) ?_; intro v2 w2 hown2 hg2; have HO2 := Lib.hid hown2; have HB2 := Lib.hid (Prs.app_below (HB.out.alloc HB.out.size _) (HO.out.alloc _) hg2 (by simp; omega) (Nat.le_refl _)); clear hown2 hg2)
        obtain ⟨b, cap, rfl, hlc, hnc, hps⟩ := own_ps HO2.out (by simp)
        go_ret
        rw [HG.out]
        exact ⟨b, cap, rfl, hlc, hnc, hps, HB2.out⟩
    | succ gf =>
      have hlt : k < l.length := by omega
      have hli : (k : Int) < (l.length : Int) := by omega
      obtain ⟨b, o, rfl, hbl, hc⟩ := HX.out (by omega)
      obtain ⟨p, hpk⟩ : ∃ p, l[k] = p := ⟨_, rfl⟩
      have HD : Hid (∀ X, Below w.heap.size w X → X.cell? ⟨b, o + k * 2, none⟩ = some (.int .i64 p.s) ∧ X.cell? ⟨b, o + k * 2 + 1, none⟩ = some (.int .i64 p.e)) := Lib.hid fun X h => by
        have h2 := hc k hlt
        rw [hpk] at h2
        exact ⟨(h.cell (p := ⟨b, o + k * 2, none⟩) hbl).trans h2.1, (h.cell (p := ⟨b, o + k * 2 + 1, none⟩) hbl).trans h2.2⟩
      obtain ⟨d0, d1⟩ := HD.out wr hbel
      rw [List.drop_eq_getElem_cons hlt, hpk] at hgd
      rw [gaps_cons] at hgd
      obtain ⟨z, hz⟩ : ∃ z, decide (a < p.s) = z := ⟨_, rfl⟩
      obtain ⟨y, hy⟩ : ∃ y, decide (a < p.e) = y := ⟨_, rfl⟩
      clear hc hown hbel hpk
      cases z <;> cases y
      · have HG : Hid (gapsTo n 0 l = (d) ++ gapsTo n a (l.drop (k + 1))) := Lib.hid (by rw [hgd, if_neg (of_decide_eq_false hz), if_neg (of_decide_eq_false hy)]; simp)
        clear hgd
        go_wp2
        go_roundg gf
        case rel => exact ⟨k + 1, d, a, by omega, by go_num, rfl, HO.out, HG.out, by first | omega | (simp; omega), HB.out⟩
        case measure => omega
      · have HG : Hid (gapsTo n 0 l = (d) ++ gapsTo n p.e (l.drop (k + 1))) := Lib.hid (by rw [hgd, if_neg (of_decide_eq_false hz), if_pos (of_decide_eq_true hy)]; simp)
        clear hgd
        go_wp2
        go_roundg gf
        case rel => exact ⟨k + 1, d, p.e, by omega, by go_num, rfl, HO.out, HG.out, by first | omega | (simp; omega), HB.out⟩
        case measure => omega
      · have HG : Hid (gapsTo n 0 l = (d ++ [⟨a, p.s⟩]) ++ gapsTo n a (l.drop (k + 1))) := Lib.hid (by rw [hgd, if_pos (of_decide_eq_true hz), if_neg (of_decide_eq_false hy)]; simp)
        clear hgd
        go_wp2_with (at_builtin; refine app_ps rfl _ _ rfl w.heap.size _ d.length d rfl (HO.out.alloc _) (some ⟨wr.heap.size, 0, none⟩) [⟨a, p.s⟩] 1 _ rfl (ps_one wr ⟨a, p.s⟩ (0, 0)) (fun e => by cases e) (by simp; omega) (by simp; omega) ?_; intro v2 w2 hown2 hg2; have HO2 := Lib.hid hown2; have HB2 := Lib.hid (Prs.app_below (HB.out.alloc HB.out.size _) (HO.out.alloc _) hg2 (by simp; omega) (Nat.le_refl _)); obtain ⟨d2, d3⟩ := HD.out w2 HB2.out; clear hown2 hg2)
        go_roundg gf
        case rel => exact ⟨k + 1, d ++ [⟨a, p.s⟩], a, by omega, by go_num, rfl, by simpa using HO2.out, HG.out, by first | omega | (simp; omega), HB2.out⟩
        case measure => omega
      · have HG : Hid (gapsTo n 0 l = (d ++ [⟨a, p.s⟩]) ++ gapsTo n p.e (l.drop (k + 1))) := Lib.hid (by rw [hgd, if_pos (of_decide_eq_true hz), if_pos (of_decide_eq_true hy)]; simp)
        clear hgd
        go_wp2_with (at_builtin; refine app_ps rfl _ _ rfl w.heap.size _ d.length d rfl (HO.out.alloc _) (some ⟨wr.heap.size, 0, none⟩) [⟨a, p.s⟩] 1 _ rfl (ps_one wr ⟨a, p.s⟩ (0, 0)) (fun e => by cases e) (by simp; omega) (by simp; omega) ?_; intro v2 w2 hown2 hg2; have HO2 := Lib.hid hown2; have HB2 := Lib.hid (Prs.app_below (HB.out.alloc HB.out.size _) (HO.out.alloc _) hg2 (by simp; omega) (Nat.le_refl _)); obtain ⟨d2, d3⟩ := HD.out w2 HB2.out; clear hown2 hg2)
        go_roundg gf
        case rel => exact ⟨k + 1, d ++ [⟨a, p.s⟩], p.e, by omega, by go_num, rfl, by simpa using HO2.out, HG.out, by first | omega | (simp; omega), HB2.out⟩
        case measure => omega
end Go.Proofs.Ytlmncljnnpnjmaa.Pck
