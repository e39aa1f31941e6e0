/- Which pieces may be: the reference. -/
import Derived.Test.YticoahmiejgccaaAdmMath
import Derived.Test.YticoahmiejgccaaGB
import Derived.Deep.LoopGhost
namespace Go.Proofs.Yticoahmiejgccaa.Adm
open Go.RowKit Go.Proofs.Yticoahmiejgccaa.Prs
set_option maxRecDepth 100000

/-- Bytes of words. -/
def wdN (n : Nat) : Bool := decide (65 ≤ n ∧ n ≤ 90 ∨ 97 ≤ n ∧ n ≤ 122 ∨ 48 ≤ n ∧ n ≤ 57 ∨ n = 95)
def isWd (c : UInt8) : Bool := wdN c.toNat
theorem ret_b {a b : Bool} (h : a = b) : Ending.returned (.bool a) = .returned (.bool b) := by rw [h]
theorem rword_any (c : UInt8) (w : World) :
    Calls Try.prog 25 #[.int .u8 (c.toNat : Int)] w fun e w' => e = .returned (.bool (isWd c)) ∧ w' = w := by
  obtain ⟨n, hn⟩ : ∃ n, c.toNat = n := ⟨_, rfl⟩
  have hb : ∀ b, b = wdN n → Ending.returned (.bool b) = .returned (.bool (isWd c)) := fun b h => by rw [h]; unfold isWd; rw [hn]
  rw [hn]
  go_enter Try.func25, Try.ntmps25
  go_wp2
  all_goals (go_ret; refine ⟨hb _ ?_, rfl⟩; clear hb; unfold wdN; first | (symm; apply decide_eq_true; omega) | (symm; apply decide_eq_false; omega) | (rw [Bool.eq_iff_iff]; simp only [Bool.or_eq_true, decide_eq_true_eq, beq_iff_eq]; omega))
theorem rpiece_any (line : Tx) (p : Pr) (w : World) :
    Calls Try.prog 24 #[.string (str line), pv p] w fun e w' => e = .returned (.bool (fit line.length p)) ∧ Below w.heap.size w w' := by
  have hz := str_size line
  have hb : ∀ b, b = fit line.length p → Ending.returned (.bool b) = .returned (.bool (fit line.length p)) := fun b h => by rw [h]
  go_enter Try.func24, Try.ntmps24
  go_wp2
  all_goals (go_ret; refine ⟨hb _ ?_, (Below.refl _ _).alloc (Nat.le_refl _) _⟩; clear hb; rw [Bool.eq_iff_iff, fit_iff]; simp; omega)
theorem fit_nat {n : Nat} {p : Pr} (h : fit n p = true) : ∃ a b : Nat, p = ⟨(a : Int), (b : Int)⟩ ∧ a ≤ b ∧ b ≤ n := by
  obtain ⟨h1, h2, h3⟩ := (fit_iff _ _).1 h
  exact ⟨p.s.toNat, p.e.toNat, pr_ext (Int.toNat_of_nonneg h1).symm (Int.toNat_of_nonneg (by omega)).symm, by omega, by omega⟩
/-- A pair in a block of its own. -/
def Pb (w : World) (x : Nat) (s e : Int) : Prop := w.heap[x]? = some (.cells #[.int .i64 s, .int .i64 e] 31 (0, 0))
theorem pb_new (w : World) (s e : Int) : Pb (w.alloc (.cells #[.int .i64 s, .int .i64 e] 31)) w.heap.size s e := heap_alloc_new w _
theorem Pb.lt {w : World} {x : Nat} {s e : Int} (h : Pb w x s e) : x < w.heap.size := txt_lt h
theorem Pb.keep {w w' : World} {B x : Nat} {s e : Int} (h : Pb w x s e) (hb : Below B w w') (hx : x < B) : Pb w' x s e := (hb.block x hx).trans h
theorem Pb.cells {w : World} {x : Nat} {s e : Int} (h : Pb w x s e) : w.cell? ⟨x, 0, none⟩ = some (.int .i64 s) ∧ w.cell? ⟨x, 1, none⟩ = some (.int .i64 e) := by
  unfold Pb at h
  constructor <;> (rw [cell_of_row w x _ _ 31 (0, 0) h]; rfl)
theorem free_is (line : Tx) (a b : Nat) (hab : a < b) (hbn : b ≤ line.length) : free isWd line ⟨(a : Int), (b : Int)⟩ = (!(decide (0 < a) && isWd (line.getD (a - 1) 0)) && (decide (b = line.length) || !isWd (line.getD b 0))) := by
  have hf : fit line.length ⟨(a : Int), (b : Int)⟩ = true := (fit_iff _ _).2 ⟨by show (0 : Int) ≤ (a : Int); omega, by show (a : Int) ≤ (b : Int); omega, by show (b : Int) ≤ _; omega⟩
  unfold free
  rw [hf]
  have h1 : decide ((a : Int) ≠ (b : Int)) = true := decide_eq_true (by omega)
  have h2 : decide ((0 : Int) < (a : Int)) = decide (0 < a) := by rw [decide_eq_decide]; omega
  have h3 : decide ((b : Int) = (line.length : Int)) = decide (b = line.length) := by rw [decide_eq_decide]; omega
  have h4 : ((a : Int) - 1).toNat = a - 1 := by omega
  simp only [h1, h2, h3, h4, Int.toNat_natCast, Bool.true_and]

set_option maxHeartbeats 1000000 in
theorem rfree_any (line : Tx) (p : Pr) (w : World) (hl : line.length ≤ 1000000000) :
    Calls Try.prog 14 #[.string (str line), pv p] w fun e w' => e = .returned (.bool (free isWd line p)) ∧ Below w.heap.size w w' := by
  have hz := str_size line
  have CP := Lib.hid (fun X => rpiece_any line p X)
  have CW := Lib.hid (fun c X => rword_any c X)
  have hB0 := (Below.refl w.heap.size w).alloc (Nat.le_refl _) (.cells #[.int .i64 p.s, .int .i64 p.e] 31)
  have HB0 := Lib.hid hB0
  have P0 := pb_new w p.s p.e
  clear hB0
  cases hf : fit line.length p
  · have hfr : free isWd line p = false := by simp [free, hf]
    rw [hf] at CP
    rw [hfr]
    go_enter Try.func14, Try.ntmps14
    go_wp2_with (go_at_call 24; (with_reducible refine (CP.out _).mono ?_); rintro e w1 ⟨rfl, hb1⟩)
    go_ret
    exact ⟨rfl, HB0.out.trans (hb1.mono HB0.out.size)⟩
  · obtain ⟨a, b, rfl, hab, hbn⟩ := fit_nat hf
    rw [hf] at CP
    by_cases he : a = b
    · subst he
      rw [free_empty]
      go_enter Try.func14, Try.ntmps14
      go_wp2_with (go_at_call 24; (with_reducible refine (CP.out _).mono ?_); rintro e w1 ⟨rfl, hb1⟩; obtain ⟨c0, c1⟩ := (P0.keep hb1 (by simp)).cells)
      go_ret
      exact ⟨rfl, HB0.out.trans (hb1.mono HB0.out.size)⟩
    · have hlt : a < b := by omega
      have hne : ((a : Int) == (b : Int)) = false := by simp; omega
      have HFR := Lib.hid (free_is line a b hlt hbn)
      clear he hf
      by_cases ha : 0 < a
      · have hai : decide ((0 : Int) < (a : Int)) = true := decide_eq_true (by omega)
        have hal : a - 1 < line.length := by omega
        obtain ⟨a1, rfl⟩ : ∃ a1, a = a1 + 1 := ⟨a - 1, by omega⟩
        have hix := str_at line a1 (by omega)
        have hgd : line.getD (a1 + 1 - 1) 0 = line[a1]'(by omega) := by simp [List.getD, show a1 < line.length by omega]
        rw [hgd, decide_eq_true ha] at HFR
        obtain ⟨c, hc⟩ : ∃ c, line[a1]'(by omega) = c := ⟨_, rfl⟩
        rw [hc] at hix HFR
        have ecast : ((a1 + 1 : Nat) : Int) = (a1 : Int) + 1 := by omega
        rw [ecast] at CP P0 HB0 HFR hne hai ⊢
        clear hgd hal hc ecast
        cases hw : isWd c
        · rw [hw] at HFR
          by_cases hbl : b = line.length
          · subst hbl
            have hbi : ((line.length : Int) == (line.length : Int)) = true := by simp
            rw [HFR.out]
            go_enter Try.func14, Try.ntmps14
            go_wp2_with (first | (go_at_call 24; (with_reducible refine (CP.out _).mono ?_); rintro e w1 ⟨rfl, hb1⟩; obtain ⟨c0, c1⟩ := (P0.keep hb1 (by simp)).cells) | (go_at_call 25; (with_reducible refine (CW.out _ _).mono ?_); rintro e w2 ⟨rfl, rfl⟩; rw [hw]) | (go_at_call 25; (with_reducible refine (CW.out _ _).mono ?_); rintro e w2 ⟨rfl, rfl⟩; rw [hv]))
            go_ret
            exact ⟨by simp, HB0.out.trans (hb1.mono HB0.out.size)⟩
          · have hbi : ((b : Int) == (line.length : Int)) = false := by simp; omega
            have hbl2 : b < line.length := by omega
            have hixb := str_at line b hbl2
            have hgb : line.getD b 0 = line[b]'hbl2 := by simp [List.getD, hbl2]
            obtain ⟨d, hd⟩ : ∃ d, line[b]'hbl2 = d := ⟨_, rfl⟩
            rw [hd] at hixb hgb
            rw [hgb, decide_eq_false hbl] at HFR
            clear hgb hd
            cases hv : isWd d
            all_goals (
              rw [hv] at HFR
              rw [HFR.out]
              go_enter Try.func14, Try.ntmps14
              go_wp2_with (first | (go_at_call 24; (with_reducible refine (CP.out _).mono ?_); rintro e w1 ⟨rfl, hb1⟩; obtain ⟨c0, c1⟩ := (P0.keep hb1 (by simp)).cells) | (go_at_call 25; (with_reducible refine (CW.out _ _).mono ?_); rintro e w2 ⟨rfl, rfl⟩; rw [hw]) | (go_at_call 25; (with_reducible refine (CW.out _ _).mono ?_); rintro e w2 ⟨rfl, rfl⟩; rw [hv]))
              go_ret
              exact ⟨by simp, HB0.out.trans (hb1.mono HB0.out.size)⟩)
        · rw [hw] at HFR
          rw [HFR.out]
          go_enter Try.func14, Try.ntmps14
          go_wp2_with (first | (go_at_call 24; (with_reducible refine (CP.out _).mono ?_); rintro e w1 ⟨rfl, hb1⟩; obtain ⟨c0, c1⟩ := (P0.keep hb1 (by simp)).cells) | (go_at_call 25; (with_reducible refine (CW.out _ _).mono ?_); rintro e w2 ⟨rfl, rfl⟩; rw [hw]) | (go_at_call 25; (with_reducible refine (CW.out _ _).mono ?_); rintro e w2 ⟨rfl, rfl⟩; rw [hv]))
          go_ret
          exact ⟨by simp, HB0.out.trans (hb1.mono HB0.out.size)⟩
      · have hai : decide ((0 : Int) < (a : Int)) = false := decide_eq_false (by omega)
        rw [decide_eq_false ha] at HFR
        have hw : True := trivial
        by_cases hbl : b = line.length
        · subst hbl
          have hbi : ((line.length : Int) == (line.length : Int)) = true := by simp
          rw [HFR.out]
          go_enter Try.func14, Try.ntmps14
          go_wp2_with (first | (go_at_call 24; (with_reducible refine (CP.out _).mono ?_); rintro e w1 ⟨rfl, hb1⟩; obtain ⟨c0, c1⟩ := (P0.keep hb1 (by simp)).cells) | (go_at_call 25; (with_reducible refine (CW.out _ _).mono ?_); rintro e w2 ⟨rfl, rfl⟩; rw [hw]) | (go_at_call 25; (with_reducible refine (CW.out _ _).mono ?_); rintro e w2 ⟨rfl, rfl⟩; rw [hv]))
          go_ret
          exact ⟨by simp, HB0.out.trans (hb1.mono HB0.out.size)⟩
        · have hbi : ((b : Int) == (line.length : Int)) = false := by simp; omega
          have hbl2 : b < line.length := by omega
          have hixb := str_at line b hbl2
          have hgb : line.getD b 0 = line[b]'hbl2 := by simp [List.getD, hbl2]
          obtain ⟨d, hd⟩ : ∃ d, line[b]'hbl2 = d := ⟨_, rfl⟩
          rw [hd] at hixb hgb
          rw [hgb, decide_eq_false hbl] at HFR
          clear hgb hd
          cases hv : isWd d
          all_goals (
            rw [hv] at HFR
            rw [HFR.out]
            go_enter Try.func14, Try.ntmps14
            go_wp2_with (first | (go_at_call 24; (with_reducible refine (CP.out _).mono ?_); rintro e w1 ⟨rfl, hb1⟩; obtain ⟨c0, c1⟩ := (P0.keep hb1 (by simp)).cells) | (go_at_call 25; (with_reducible refine (CW.out _ _).mono ?_); rintro e w2 ⟨rfl, rfl⟩; rw [hw]) | (go_at_call 25; (with_reducible refine (CW.out _ _).mono ?_); rintro e w2 ⟨rfl, rfl⟩; rw [hv]))
            go_ret
            exact ⟨by simp, HB0.out.trans (hb1.mono HB0.out.size)⟩)
set_option maxHeartbeats 1000000 in
theorem rmay_any (line : Tx) (p : Pr) (w x : Bool) (v : World) (hl : line.length ≤ 1000000000) :
    Calls Try.prog 16 #[.string (str line), pv p, .bool w, .bool x] v fun e w' => e = .returned (.bool (may isWd line w x p)) ∧ Below v.heap.size v w' := by
  have hz := str_size line
  have CP := Lib.hid (fun X => rpiece_any line p X)
  have CF := Lib.hid (fun X => rfree_any line p X hl)
  have HB0 := Lib.hid ((Below.refl v.heap.size v).alloc (Nat.le_refl _) (.cells #[.int .i64 p.s, .int .i64 p.e] 31))
  have P0 := pb_new v p.s p.e
  have HM : Hid (may isWd line w x p = ((!w || free isWd line p) && (!x || (decide (p.s = 0) && decide (p.e = (line.length : Int)))) && fit line.length p)) := Lib.hid rfl
  cases hf : free isWd line p
  all_goals rw [hf] at HM
  all_goals cases w
  all_goals (
    by_cases hs : p.s = 0
    · have hs1 : (p.s != 0) = false := by simp [hs]
      by_cases he : p.e = (line.length : Int)
      · have he1 : (p.e != (line.length : Int)) = false := by simp [he]
        rw [decide_eq_true hs, decide_eq_true he] at HM
        clear hs he
        cases x
        all_goals (
          rw [HM.out]
          go_enter Try.func16, Try.ntmps16
          go_wp2_with (first | (go_at_call 14; (with_reducible refine (CF.out _).mono ?_); rintro e w1 ⟨rfl, hb1⟩; rw [hf]; obtain ⟨c0, c1⟩ := (P0.keep hb1 (by simp)).cells) | (go_at_call 24; (with_reducible refine (CP.out _).mono ?_); rintro e w2 ⟨rfl, hb2⟩))
          go_ret
          first
            | exact ⟨by simp, HB0.out.trans (hb2.mono HB0.out.size)⟩
            | exact ⟨by simp, (HB0.out.trans (hb1.mono HB0.out.size)).trans (hb2.mono (HB0.out.trans (hb1.mono HB0.out.size)).size)⟩
            | exact ⟨by simp, HB0.out.trans (hb1.mono HB0.out.size)⟩)
      · have he1 : (p.e != (line.length : Int)) = true := by simp [he]
        rw [decide_eq_true hs, decide_eq_false he] at HM
        clear hs he
        cases x
        all_goals (
          rw [HM.out]
          go_enter Try.func16, Try.ntmps16
          go_wp2_with (first | (go_at_call 14; (with_reducible refine (CF.out _).mono ?_); rintro e w1 ⟨rfl, hb1⟩; rw [hf]; obtain ⟨c0, c1⟩ := (P0.keep hb1 (by simp)).cells) | (go_at_call 24; (with_reducible refine (CP.out _).mono ?_); rintro e w2 ⟨rfl, hb2⟩))
          go_ret
          first
            | exact ⟨by simp, HB0.out.trans (hb2.mono HB0.out.size)⟩
            | exact ⟨by simp, (HB0.out.trans (hb1.mono HB0.out.size)).trans (hb2.mono (HB0.out.trans (hb1.mono HB0.out.size)).size)⟩
            | exact ⟨by simp, HB0.out.trans (hb1.mono HB0.out.size)⟩
            | exact ⟨by simp, HB0.out⟩)
    · have hs1 : (p.s != 0) = true := by simp [hs]
      rw [decide_eq_false hs] at HM
      clear hs
      cases x
      all_goals (
        rw [HM.out]
        go_enter Try.func16, Try.ntmps16
        go_wp2_with (first | (go_at_call 14; (with_reducible refine (CF.out _).mono ?_); rintro e w1 ⟨rfl, hb1⟩; rw [hf]; obtain ⟨c0, c1⟩ := (P0.keep hb1 (by simp)).cells) | (go_at_call 24; (with_reducible refine (CP.out _).mono ?_); rintro e w2 ⟨rfl, hb2⟩))
        go_ret
        first
          | exact ⟨by simp, HB0.out.trans (hb2.mono HB0.out.size)⟩
          | exact ⟨by simp, (HB0.out.trans (hb1.mono HB0.out.size)).trans (hb2.mono (HB0.out.trans (hb1.mono HB0.out.size)).size)⟩
          | exact ⟨by simp, HB0.out.trans (hb1.mono HB0.out.size)⟩
          | exact ⟨by simp, HB0.out⟩))
end Go.Proofs.Yticoahmiejgccaa.Adm
