/- PickOnly, walked. -/
import Derived.Test.YtlmncljnnpnjmaaPickE
namespace Go.Proofs.Ytlmncljnnpnjmaa.pickOnly
open Go.RowKit Go.Proofs.Ytlmncljnnpnjmaa.Prs Adm Reg Pck
set_option maxRecDepth 100000
/-- What is picked in k rounds. -/
def sel (l : List Pr) (P : List UInt8) (k : Nat) : List Pr := (P.take k).map fun c => l.getD (c.toNat % l.length) ⟨0, 0⟩
theorem sel_succ (l : List Pr) (P : List UInt8) (k : Nat) (hk : k < P.length) : sel l P (k + 1) = sel l P k ++ [l.getD (P[k].toNat % l.length) ⟨0, 0⟩] := by
  unfold sel
  rw [List.take_succ_eq_append_getElem hk, List.map_append]
  rfl
theorem sel_len (l : List Pr) (P : List UInt8) (k : Nat) (hk : k ≤ P.length) : (sel l P k).length = k := by
  unfold sel
  rw [List.length_map, List.length_take]; omega
set_option maxHeartbeats 4000000 in
theorem walk (W : World) (l : List Pr) (al : Option Addr) (cl : Nat) (hpl : Ps W W.heap.size al l) (hlow : ∀ p ∈ l, -9223372036854775808 ≤ p.s) (P : List UInt8) (ap : Option Addr) (cp : Nat) (_hmp : P.length ≤ maxLen) (hbp : Bs W W.heap.size ap P) :
    Calls Try.prog 5 #[.slice al l.length cl, .slice ap P.length cp] W fun r w' => r = .returned (.bool true) ∧ Below W.heap.size W w' := by
  have HAW := Lib.hid (awake_any W)
  have HL := Lib.hid hpl
  have HP := Lib.hid hbp
  have HLOW := Lib.hid hlow
  clear hpl hbp hlow
  obtain ⟨y, hy⟩ : ∃ y, decide (80 < (l.length : Int)) = y := ⟨_, rfl⟩
  obtain ⟨z, hz⟩ : ∃ z, decide (80 < (P.length : Int)) = z := ⟨_, rfl⟩
  by_cases hyz : (y || z) = true
  · cases y
    · obtain rfl : z = true := by simpa using hyz
      clear hyz
      go_enter Try.func5, Try.ntmps5
      go_wp2_with (go_at_call 9; (with_reducible refine HAW.out.mono ?_); rintro r w1 ⟨rfl, hb1⟩)
      go_ret
      exact ⟨rfl, hb1⟩
    · clear hyz
      go_enter Try.func5, Try.ntmps5
      go_wp2_with (go_at_call 9; (with_reducible refine HAW.out.mono ?_); rintro r w1 ⟨rfl, hb1⟩)
      go_ret
      exact ⟨rfl, hb1⟩
  rw [Bool.not_eq_true, Bool.or_eq_false_iff] at hyz
  obtain ⟨rfl, rfl⟩ := hyz
  have hB : l.length ≤ 80 := by have := of_decide_eq_false hy; omega
  have hBP : P.length ≤ 80 := by have := of_decide_eq_false hz; omega
  have hl6 : l.length ≤ 1000000 := by omega
  have CL : Hid (∀ X, Below W.heap.size W X → Calls Try.prog 13 #[.slice al l.length cl] X (Gives X (longFrom l lowest))) := Lib.hid fun X h => longest_any l al cl X hl6 (HL.out.keeps h)
  have CG : Hid (∀ X (q : List Pr) (a : Option Addr) (c : Nat), q.length ≤ 1000000 → Below W.heap.size W X → Ps X X.heap.size a q → Calls Try.prog 17 #[.slice al l.length cl, .slice a q.length c] X fun r w' => r = .returned (.bool (decide (q = longFrom l lowest))) ∧ Below X.heap.size X w') := Lib.hid fun X q a c hq h hp => by
    refine (good_any l q al a cl c X hl6 hq (HL.out.keeps h) hp).mono ?_
    rintro e w' ⟨z, rfl, hz, n, rfl⟩
    rw [goodp_iff HLOW.out] at hz
    exact ⟨by rw [show z = decide (q = longFrom l lowest) from by rw [Bool.eq_iff_iff, decide_eq_true_eq]; exact hz], below_drews (Below.refl _ _) n⟩
  generalize longFrom l lowest = L at *
  go_enter Try.func5, Try.ntmps5
  go_wp2_with (go_at_call 9; (with_reducible refine HAW.out.mono ?_); rintro r w1 ⟨rfl, hb1⟩; have HB1 := Lib.hid hb1; clear hb1)
  obtain ⟨K, hK⟩ : ∃ K, (if l.length = 0 then 0 else P.length) = K := ⟨_, rfl⟩
  have HK : Hid (K ≤ P.length ∧ (0 < K → 0 < l.length) ∧ (K < P.length → l.length = 0)) := Lib.hid (by rw [← hK]; split <;> omega)
  clear hK
  go_loopg [6, 7] K (fun gf s6 s7 wr => ∃ (k : Nat) (d : List Pr), k + gf = K ∧ s7 = .int .i64 k ∧ sel l P k = d ∧ wr.ownsRow w1.heap.size 25 2 s6 d.length (cellsOf d) ∧ Below w1.heap.size w1 wr)
  case atStart => exact ⟨0, [], by omega, rfl, rfl, World.ownsRow_nil w1 w1.heap.size 25 2, Below.refl _ _⟩
  case round =>
    obtain ⟨k, d, hk, rfl, hd, hown, hbel⟩ := hrel
    obtain ⟨hk1, hk2, hk3⟩ := HK.out
    have HO := Lib.hid hown
    have HB := Lib.hid hbel
    have HD := Lib.hid hd
    have hdl : d.length = k := by rw [← hd]; exact sel_len l P k (by omega)
    clear hown hbel hd
    cases gk with
    | zero =>
      obtain rfl : k = K := by omega
      obtain ⟨a3, d3, rfl, hlc3, hnc3, hps3⟩ := own_ps HO.out rfl
      have HQ3 := Lib.hid hps3
      have HDL : Hid (d.length ≤ 1000000) := Lib.hid (by omega)
      have HB2 := Lib.hid (HB1.out.trans (HB.out.mono HB1.out.size))
      obtain ⟨y, hy2⟩ : ∃ y, decide ((k : Int) < (P.length : Int)) = y := ⟨_, rfl⟩
      have hy3 : decide (k < P.length) = y := by rw [← hy2, Bool.eq_iff_iff, decide_eq_true_eq, decide_eq_true_eq]; omega
      have HY : Hid (y = true → decide (0 < (l.length : Int)) = false) := Lib.hid fun h => by
        rw [h] at hy3
        have h1 := of_decide_eq_true hy3
        have h2 := hk3 (by omega)
        exact decide_eq_false (by omega)
      obtain ⟨E, hE⟩ : ∃ E, decide (d = L) = E := ⟨_, rfl⟩
      have CS : Hid (∀ X (a b : Option Addr) (c e : Nat), Ps X X.heap.size a d → Ps X X.heap.size b L → Calls Try.prog 12 #[.slice a d.length c, .slice b L.length e] X fun r w' => r = .returned (.bool E) ∧ Below X.heap.size X w') := Lib.hid fun X a b c e h1 h2 => by
        refine (same_any d L a b c e X (by have := HDL.out; omega) h1 h2).mono ?_
        rintro r w' ⟨rfl, q, rfl⟩
        exact ⟨by rw [hE], below_drews (Below.refl _ _) q⟩
      have CGG : Hid (∀ X (a : Option Addr) (c : Nat), Below W.heap.size W X → Ps X X.heap.size a d → Calls Try.prog 17 #[.slice al l.length cl, .slice a d.length c] X fun r w' => r = .returned (.bool E) ∧ Below X.heap.size X w') := Lib.hid fun X a c h1 h2 => by
        have h := CG.out X d a c HDL.out h1 h2
        rwa [hE] at h
      clear hps3 hlc3 hk1 hk2 hk3 hdl CG hE
      cases y <;> cases E
      all_goals
        (try have hl0 := HY.out rfl)
        (try have hl2 : decide (0 < l.length) = false := by rw [← hl0, Bool.eq_iff_iff, decide_eq_true_eq, decide_eq_true_eq]; omega)
        go_wp2_with (first
          | (go_at_call 13; (with_reducible refine (CL.out _ HB2.out).mono ?_); rintro r w4 ⟨a4, d4, rfl, _, _, hp4, hb4⟩; have HB3 := Lib.hid (HB2.out.trans (hb4.mono HB2.out.size)); have HQ4 := Lib.hid (HQ3.out.keeps hb4); have H4 := Lib.hid hp4; clear hp4 hb4)
          | (go_at_call 12; (with_reducible refine (CS.out _ _ _ _ _ HQ4.out H4.out).mono ?_); rintro r w5 ⟨rfl, hb5⟩; have HB4 := Lib.hid (HB3.out.trans (hb5.mono HB3.out.size)); have HQ5 := Lib.hid (HQ4.out.keeps hb5); clear hb5)
          | (go_at_call 17; (with_reducible refine (CGG.out _ _ _ HB4.out HQ5.out).mono ?_); rintro r w6 ⟨rfl, hb6⟩; have HB5 := Lib.hid (HB4.out.trans (hb6.mono HB4.out.size)); clear hb6))
        go_ret
        first
          | exact ⟨rfl, HB5.out⟩
          | exact ⟨rfl, HB4.out⟩
    | succ gf =>
      have hpos := hk2 (by omega)
      have hlt : k < P.length := by omega
      have hli : (k : Int) < (P.length : Int) := by omega
      have hl0 : decide (0 < (l.length : Int)) = true := decide_eq_true (by omega)
      have hl1 : (0 : Int) < (l.length : Int) := by omega
      obtain ⟨b2, o2, rfl, hbl2, hc2⟩ := HP.out (by omega)
      have HT0 := Lib.hid (sel_succ l P k hlt)
      have hch := hc2 k hlt
      have ht := P[k].toNat_lt
      generalize P[k] = ch at *
      obtain ⟨t, hte⟩ : ∃ t, ch.toNat = t := ⟨_, rfl⟩
      rw [hte] at HT0 hch ht
      obtain ⟨m, hm⟩ : ∃ m, t % l.length = m := ⟨_, rfl⟩
      have hml : m < l.length := by rw [← hm]; exact Nat.mod_lt _ hpos
      have hmi : (m : Int) < (l.length : Int) := by omega
      have htm : (t : Int).tmod (l.length : Int) = (m : Int) := by rw [← hm]; exact (Int.ofNat_tmod t l.length).symm
      have hem : (t : Int) % (l.length : Int) = (m : Int) := by rw [← hm]; exact (Int.natCast_emod t l.length).symm
      have hwr : wrap64 (t : Int) = (t : Int) := by unfold wrap64; omega
      have hbw := HB1.out.trans (HB.out.mono HB1.out.size)
      have hcc : wr.cell? ⟨b2, o2 + k, none⟩ = some (.int .u8 (t : Int)) := (hbw.cell (p := ⟨b2, o2 + k, none⟩) hbl2).trans hch
      obtain ⟨b, o, rfl, hbl, hc⟩ := HL.out (by omega)
      obtain ⟨p, hp⟩ : ∃ p, l[m]? = some p := ⟨_, List.getElem?_eq_getElem hml⟩
      have hpm : l[m] = p := (List.getElem?_eq_some_iff.1 hp).2
      have hd := hc m hml
      rw [hpm] at hd
      have d0 := (hbw.cell (p := ⟨b, o + m * 2, none⟩) hbl).trans hd.1
      have d1 := (hbw.cell (p := ⟨b, o + m * 2 + 1, none⟩) hbl).trans hd.2
      have HT : Hid (sel l P (k + 1) = d ++ [p]) := Lib.hid (by rw [HT0.out, hm, HD.out, List.getD_eq_getElem?_getD, hp]; rfl)
      clear hc hc2 hpm hp hm hd hch hbw HT0 hte hk1 hk2 hk3 HK
      go_wp2_with (at_builtin; refine app_ps rfl _ _ rfl w1.heap.size _ d.length d rfl (HO.out.alloc _) (some ⟨wr.heap.size, 0, none⟩) [p] 1 _ rfl (ps_one wr p (0, 0)) (fun e => by cases e) (by simp; omega) (by have := HB.out.size; simp; omega) ?_; intro v3 w3 hown3 hg3; rw [← List.length_append] at hown3; have HO3 := Lib.hid hown3; have HB3 := Lib.hid (Prs.app_below (HB.out.alloc HB.out.size _) (HO.out.alloc _) hg3 (by have := HB.out.size; simp; omega) (Nat.le_refl _)); clear hown3 hg3)
      go_roundg gf
      case rel => exact ⟨k + 1, d ++ [p], by omega, by go_num, HT.out, HO3.out, HB3.out⟩
      case measure => omega
end Go.Proofs.Ytlmncljnnpnjmaa.pickOnly
