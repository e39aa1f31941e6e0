/- PickGaps, walked. -/
import Derived.Test.YtlmncljnnpnjmaaPickE
import Derived.BigQuiet
namespace Go.Proofs.Ytlmncljnnpnjmaa.pickGaps
open Go.RowKit Go.Proofs.Ytlmncljnnpnjmaa.Prs Adm Reg Pck
set_option maxRecDepth 100000
theorem gaps_len (n : Int) : ∀ (l : List Pr) (a : Int), (gapsTo n a l).length ≤ l.length + 1
  | [], a => by unfold gapsTo; split <;> simp
  | p :: l, a => by
    rw [gaps_cons, List.length_append, List.length_cons]
    have := gaps_len n l (if a < p.e then p.e else a)
    split <;> simp <;> omega
/-- What stands within the line. -/
def within (n : Int) (p : Pr) : Bool := decide (0 ≤ p.s) && decide (p.e ≤ n)
theorem filt_snoc (n : Int) (l : List Pr) (k : Nat) (p : Pr) (h : l[k]? = some p) : (l.take (k + 1)).filter (within n) = (l.take k).filter (within n) ++ if within n p then [p] else [] := by
  rw [Pck.take_snoc h, List.filter_append]
  cases e : within n p <;> simp [e]
theorem inn_snoc (x : Int) (l : List Pr) (k : Nat) (p : Pr) (h : l[k]? = some p) : inn x (l.take (k + 1)) = inn x (l.take k) + if p.s ≤ x ∧ x < p.e then 1 else 0 := by
  rw [Pck.take_snoc h, inn_append, inn_one]
theorem parts (l : List Pr) (n x : Nat) : (∀ g ∈ gapsTo n 0 (longFrom (l.filter (within n)) lowest), g.s < g.e ∧ 0 ≤ g.s ∧ g.e ≤ n) ∧
    inn x (longFrom (l.filter (within n)) lowest) + inn x (gapsTo n 0 (longFrom (l.filter (within n)) lowest)) = if x < n then 1 else 0 := by
  have hw : ∀ p ∈ l.filter (within n), 0 ≤ p.s ∧ p.e ≤ n := fun p hp => by
    have h := (List.mem_filter.1 hp).2
    unfold within at h
    rw [Bool.and_eq_true, decide_eq_true_eq, decide_eq_true_eq] at h
    exact h
  rw [long_from (g := 0) (fun p hp => by show (-9223372036854775808 : Int) ≤ p.s; have := (hw p hp).1; omega) (fun p hp => (hw p hp).1)]
  have hg := good_long (l.filter (within n)) 0
  have hn : ∀ p ∈ longFrom (l.filter (within n)) 0, p.e ≤ (n : Int) := fun p hp => (hw p (hg.mem p hp)).2
  refine ⟨gaps_fit hg.chain hn, ?_⟩
  rw [gaps_make hg.chain hn x (by omega)]
  by_cases h : x < n
  · rw [if_pos h, if_pos (by omega)]
  · rw [if_neg h, if_neg (by omega)]
set_option maxHeartbeats 8000000 in
theorem walkN (W : World) (l : List Pr) (al : Option Addr) (cl : Nat) (hpl : Ps W W.heap.size al l) (n : Nat) (hn : n < 256) (x : Nat) (hx : x < 256) :
    Calls Try.prog 7 #[.slice al l.length cl, .int .u8 n, .int .u8 x] W fun r w' => r = .returned (.bool true) ∧ Below W.heap.size W w' := by
  have HAW := Lib.hid (awake_any W)
  have HL := Lib.hid hpl
  clear hpl
  go_enter Try.func7, Try.ntmps7
  by_cases hB : l.length ≤ 60
  rotate_left
  · have hBi : ¬ (l.length : Int) ≤ 60 := by omega
    go_wp2_with (go_at_call 9; (with_reducible refine HAW.out.mono ?_); rintro r w1 ⟨rfl, hb1⟩)
    go_ret
    exact ⟨rfl, hb1⟩
  have hBi : (l.length : Int) ≤ 60 := by omega
  have hwn : wrap64 (n : Int) = (n : Int) := by unfold wrap64; omega
  have hwx : wrap64 (x : Int) = (x : Int) := by unfold wrap64; omega
  obtain ⟨F, hF⟩ : ∃ F, l.filter (within n) = F := ⟨_, rfl⟩
  have hFl : F.length ≤ 60 := by rw [← hF]; exact Nat.le_trans (List.length_filter_le _ _) hB
  obtain ⟨L, hL⟩ : ∃ L, longFrom F lowest = L := ⟨_, rfl⟩
  have hLl : L.length ≤ 60 := by rw [← hL]; exact Nat.le_trans (long_len F lowest) hFl
  obtain ⟨G, hG⟩ : ∃ G, gapsTo n 0 L = G := ⟨_, rfl⟩
  have hGl : G.length ≤ 61 := by rw [← hG]; have := gaps_len n L 0; omega
  have HPT := parts l n x
  rw [hF, hL, hG] at HPT
  have HP1 := Lib.hid HPT.1
  have HP2 := Lib.hid HPT.2
  have CL : Hid (∀ X (a : Option Addr) (c : Nat), Ps X X.heap.size a F → Calls Try.prog 13 #[.slice a F.length c] X (Gives X L)) := Lib.hid fun X a c h => by
    have h := longest_any F a c X (by omega) h
    rwa [hL] at h
  have CG : Hid (∀ X (a : Option Addr) (c : Nat), Ps X X.heap.size a L → Calls Try.prog 15 #[.slice a L.length c, .int .i64 n] X (Gives X G)) := Lib.hid fun X a c h => by
    have h := gaps_any n L a c X (by omega) h
    rwa [hG] at h
  have HFL := Lib.hid hFl
  have HLL := Lib.hid hLl
  have HGL := Lib.hid hGl
  have HF := Lib.hid hF
  clear hL hG HPT hFl hLl hGl hF
  go_wp2_with (go_at_call 9; (with_reducible refine HAW.out.mono ?_); rintro r w1 ⟨rfl, hb1⟩; have HB1 := Lib.hid hb1; clear hb1)
  go_loopg [8, 9] l.length (fun gf s8 s9 wr => ∃ (k : Nat) (d : List Pr), k + gf = l.length ∧ s9 = .int .i64 k ∧ (l.take k).filter (within n) = d ∧ wr.ownsRow w1.heap.size 25 2 s8 d.length (cellsOf d) ∧ Below w1.heap.size w1 wr)
  case atStart => exact ⟨0, [], by omega, rfl, by simp, World.ownsRow_nil w1 w1.heap.size 25 2, Below.refl _ _⟩
  case round =>
    obtain ⟨k, d, hk, rfl, hd, hown, hbel⟩ := hrel
    have HO := Lib.hid hown
    have HB := Lib.hid hbel
    have hdl : d.length ≤ 60 := by rw [← hd]; refine Nat.le_trans (List.length_filter_le _ _) ?_; rw [List.length_take]; omega
    have HDL := Lib.hid hdl
    have HD := Lib.hid hd
    clear hown hbel hdl hd
    cases gk with
    | zero =>
      obtain rfl : k = l.length := by omega
      have hni : ¬ ((l.length : Int) < (l.length : Int)) := by omega
      obtain ⟨a3, d3, rfl, hlc3, hnc3, hps3⟩ := own_ps HO.out rfl
      obtain rfl : d = F := by rw [← HD.out, ← HF.out, List.take_length]
      have HQ3 := Lib.hid hps3
      have HB2 := Lib.hid (HB1.out.trans (HB.out.mono HB1.out.size))
      clear hps3 hlc3
      go_wp2_with (first
        | (go_at_call 13; (with_reducible refine (CL.out _ _ _ HQ3.out).mono ?_); rintro r w4 ⟨a4, d4, rfl, _, _, hp4, hb4⟩; have HB3 := Lib.hid (HB2.out.trans (hb4.mono HB2.out.size)); have HQ4 := Lib.hid hp4; clear hp4 hb4)
        | (go_at_call 15; (with_reducible refine (CG.out _ _ _ HQ4.out).mono ?_); rintro r w5 ⟨a5, d5, rfl, _, _, hp5, hb5⟩; have HB4 := Lib.hid (HB3.out.trans (hb5.mono HB3.out.size)); have HQ5 := Lib.hid hp5; have HR5 := Lib.hid (HQ4.out.keeps hb5); clear hp5 hb5))
      go_loopg [12, 13] L.length (fun gf s12 s13 wr => ∃ i : Nat, i + gf = L.length ∧ s13 = .int .i64 i ∧ s12 = .int .i64 (inn x (L.take i) : Nat) ∧ wr = w5)
      case atStart => exact ⟨0, by omega, rfl, rfl, rfl⟩
      case round =>
        obtain ⟨i, hi, rfl, rfl, rfl⟩ := hrel
        have hil : inn x (L.take i) ≤ 60 := Nat.le_trans (List.length_filter_le _ _) (by rw [List.length_take]; have := HLL.out; omega)
        obtain ⟨c, hc⟩ : ∃ c, inn x (L.take i) = c := ⟨_, rfl⟩
        rw [hc] at hil ⊢
        have HC := Lib.hid hc
        clear hc
        cases gk with
        | zero =>
          obtain rfl : i = L.length := by omega
          have hni : ¬ ((L.length : Int) < (L.length : Int)) := by omega
          rw [List.take_length] at HC
          clear hi
          go_wp2
          go_loopg [12, 14] G.length (fun gf s12 s14 wq => ∃ j m : Nat, j + gf = G.length ∧ s14 = .int .i64 j ∧ s12 = .int .i64 (c + inn x (G.take j) : Nat) ∧ wq = wr.drewN m)
          case atStart => exact ⟨0, 0, by omega, rfl, rfl, rfl⟩
          case round =>
            obtain ⟨j, m, hj, rfl, rfl, rfl⟩ := hrel
            have hGl := HGL.out
            have hel : inn x (G.take j) ≤ 61 := Nat.le_trans (List.length_filter_le _ _) (by rw [List.length_take]; omega)
            obtain ⟨e, he⟩ : ∃ e, inn x (G.take j) = e := ⟨_, rfl⟩
            rw [he] at hel ⊢
            have HE := Lib.hid he
            clear he
            obtain ⟨f, hf⟩ : ∃ f, c + e = f := ⟨_, rfl⟩
            have hfl : f ≤ 200 := by omega
            rw [hf]
            have HFE := Lib.hid hf
            clear hf hel
            cases gk with
            | zero =>
              obtain rfl : j = G.length := by omega
              have hni : ¬ ((G.length : Int) < (G.length : Int)) := by omega
              have HZ := HP2.out
              rw [List.take_length] at HE
              rw [HC.out, HE.out, HFE.out] at HZ
              have HBE := Lib.hid (below_drews HB4.out m)
              obtain ⟨y, hy⟩ : ∃ y, decide (x < n) = y := ⟨_, rfl⟩
              have hy2 : decide ((x : Int) < (n : Int)) = y := by rw [← hy, Bool.eq_iff_iff, decide_eq_true_eq, decide_eq_true_eq]; omega
              have hy3 : decide ((n : Int) ≤ (x : Int)) = !y := by rw [← hy, Bool.eq_iff_iff, decide_eq_true_eq, Bool.not_eq_true', decide_eq_false_iff_not]; omega
              have hy4 : decide (n ≤ x) = !y := by rw [← hy, Bool.eq_iff_iff, decide_eq_true_eq, Bool.not_eq_true', decide_eq_false_iff_not]; omega
              cases y
              · obtain rfl : f = 0 := by rw [if_neg (of_decide_eq_false hy)] at HZ; exact HZ
                clear HZ HFE
                go_wp2
                go_ret
                exact ⟨rfl, HBE.out⟩
              · obtain rfl : f = 1 := by rw [if_pos (of_decide_eq_true hy)] at HZ; exact HZ
                clear HZ HFE
                go_wp2
                go_ret
                exact ⟨rfl, HBE.out⟩
            | succ gj =>
              have hlt2 : j < G.length := by omega
              have hli2 : (j : Int) < (G.length : Int) := by omega
              obtain ⟨b1, o1, rfl, _, hc1⟩ := HQ5.out (by omega)
              obtain ⟨p, hp⟩ : ∃ p, G[j]? = some p := ⟨_, List.getElem?_eq_getElem hlt2⟩
              have hd := hc1 j hlt2
              rw [(List.getElem?_eq_some_iff.1 hp).2] at hd
              obtain ⟨d0, d1⟩ := hd
              have hfit := HP1.out p (List.mem_of_getElem? hp)
              have e1 : decide (p.e ≤ p.s) = false := decide_eq_false (by omega)
              have e2 : decide (p.s < 0) = false := decide_eq_false (by omega)
              have e3 : decide ((n : Int) < p.e) = false := decide_eq_false (by omega)
              have HT := inn_snoc x G j p hp
              obtain ⟨y, hy⟩ : ∃ y, decide (p.s ≤ (x : Int)) = y := ⟨_, rfl⟩
              obtain ⟨z, hz⟩ : ∃ z, decide ((x : Int) < p.e) = z := ⟨_, rfl⟩
              rw [HE.out] at HT
              have HS : Hid (c + inn x (G.take (j + 1)) = f + if (y && z) = true then 1 else 0) := Lib.hid (by
                rw [HT, ← hy, ← hz, ← HFE.out]; simp only [Bool.and_eq_true, decide_eq_true_eq]; omega)
              clear hc1 hp HT hfit
              cases y <;> cases z
              all_goals
                go_wp2
                go_quiet (fail)
                go_wp2
                go_roundg gj
                case rel => exact ⟨j + 1, _, by omega, by go_num, by rw [HS.out]; go_num, rfl⟩
                case measure => omega
        | succ gi =>
          have hlt2 : i < L.length := by omega
          have hLl := HLL.out
          have hli2 : (i : Int) < (L.length : Int) := by omega
          obtain ⟨b1, o1, rfl, _, hc1⟩ := HR5.out (by omega)
          obtain ⟨p, hp⟩ : ∃ p, L[i]? = some p := ⟨_, List.getElem?_eq_getElem hlt2⟩
          have hd := hc1 i hlt2
          rw [(List.getElem?_eq_some_iff.1 hp).2] at hd
          obtain ⟨d0, d1⟩ := hd
          have HT := inn_snoc x L i p hp
          obtain ⟨y, hy⟩ : ∃ y, decide (p.s ≤ (x : Int)) = y := ⟨_, rfl⟩
          obtain ⟨z, hz⟩ : ∃ z, decide ((x : Int) < p.e) = z := ⟨_, rfl⟩
          rw [HC.out] at HT
          have HS : Hid (inn x (L.take (i + 1)) = c + if (y && z) = true then 1 else 0) := Lib.hid (by
            rw [HT, ← hy, ← hz]; simp only [Bool.and_eq_true, decide_eq_true_eq])
          clear hc1 hp HT
          cases y <;> cases z
          all_goals
            go_wp2
            go_roundg gi
            case rel => exact ⟨i + 1, by omega, by go_num, by rw [HS.out]; go_num, rfl⟩
            case measure => omega
    | succ gf =>
      have hlt : k < l.length := by omega
      have hli : (k : Int) < (l.length : Int) := by omega
      have hbw := HB1.out.trans (HB.out.mono HB1.out.size)
      obtain ⟨b, o, rfl, hbl, hc⟩ := HL.out (by omega)
      obtain ⟨p, hp⟩ : ∃ p, l[k]? = some p := ⟨_, List.getElem?_eq_getElem hlt⟩
      have hd := hc k hlt
      rw [(List.getElem?_eq_some_iff.1 hp).2] at hd
      have d0 := (hbw.cell (p := ⟨b, o + k * 2, none⟩) hbl).trans hd.1
      have d1 := (hbw.cell (p := ⟨b, o + k * 2 + 1, none⟩) hbl).trans hd.2
      have HT := filt_snoc n l k p hp
      obtain ⟨y, hy⟩ : ∃ y, decide (0 ≤ p.s) = y := ⟨_, rfl⟩
      obtain ⟨z, hz⟩ : ∃ z, decide (p.e ≤ (n : Int)) = z := ⟨_, rfl⟩
      have HS : Hid ((l.take (k + 1)).filter (within n) = d ++ if (y && z) = true then [p] else []) := Lib.hid (by
        rw [HT, HD.out]; unfold within; rw [hy, hz])
      clear hc hd hp HT hbw
      cases y
      · go_wp2
        go_roundg gf
        case rel => exact ⟨k + 1, d, by omega, by go_num, by rw [HS.out]; simp, HO.out, HB.out⟩
        case measure => omega
      · cases z
        · go_wp2
          go_roundg gf
          case rel => exact ⟨k + 1, d, by omega, by go_num, by rw [HS.out]; simp, HO.out, HB.out⟩
          case measure => omega
        · go_wp2_with (at_builtin; refine app_ps rfl _ _ rfl w1.heap.size _ d.length d rfl (HO.out.alloc _) (some ⟨wr.heap.size, 0, none⟩) [p] 1 _ rfl (ps_one wr p (0, 0)) (fun e => by cases e) (by have := HDL.out; simp; omega) (by have := HB.out.size; simp; omega) ?_; intro v3 w3 hown3 hg3; rw [← List.length_append] at hown3; have HO3 := Lib.hid hown3; have HB3 := Lib.hid (Prs.app_below (HB.out.alloc HB.out.size _) (HO.out.alloc _) hg3 (by have := HB.out.size; simp; omega) (Nat.le_refl _)); clear hown3 hg3)
          go_roundg gf
          case rel => exact ⟨k + 1, d ++ [p], by omega, by go_num, by rw [HS.out]; simp, HO3.out, HB3.out⟩
          case measure => omega
theorem walk (W : World) (l : List Pr) (al : Option Addr) (cl : Nat) (hpl : Ps W W.heap.size al l) (n x : UInt8) :
    Calls Try.prog 7 #[.slice al l.length cl, .int .u8 (n.toNat : Int), .int .u8 (x.toNat : Int)] W fun r w' => r = .returned (.bool true) ∧ Below W.heap.size W w' := walkN W l al cl hpl n.toNat n.toNat_lt x.toNat x.toNat_lt
end Go.Proofs.Ytlmncljnnpnjmaa.pickGaps
