/- PickAgain, walked. -/
import Derived.Test.YtlmncljnnpnjmaaPickE
namespace Go.Proofs.Ytlmncljnnpnjmaa.pickAgain
open Go.RowKit Go.Proofs.Ytlmncljnnpnjmaa.Prs Adm Reg Pck
set_option maxRecDepth 100000
theorem same3 (v : World) (l : List Pr) (a b : Option Addr) (c d : Nat) (h : Ps v v.heap.size a l) (h2 : Ps v v.heap.size b l) (hl : l.length ≤ 1000000000) :
    Calls Try.prog 12 #[.slice a l.length c, .slice b l.length d] v fun e w' => e = .returned (.bool true) ∧ Below v.heap.size v w' := by
  refine (same_any l l a b c d v hl h h2).mono ?_
  rintro e w' ⟨rfl, q, rfl⟩
  exact ⟨by rw [decide_eq_true rfl], below_drews (Below.refl _ _) q⟩
/-- What is laid in k rounds. -/
def rots (l : List Pr) (t : Nat) (x : Int) (k : Nat) : List Pr := (List.range k).flatMap fun i => [l.getD ((i + t) % l.length) ⟨0, 0⟩, ⟨x, x⟩]
theorem rots_succ (l : List Pr) (t : Nat) (x : Int) (k : Nat) : rots l t x (k + 1) = rots l t x k ++ [l.getD ((k + t) % l.length) ⟨0, 0⟩] ++ [⟨x, x⟩] := by
  unfold rots
  rw [List.range_succ, List.flatMap_append]
  simp
theorem rots_mem (l : List Pr) (t : Nat) (x : Int) (p : Pr) (hn : 0 < l.length) (hp : p.s < p.e) : p ∈ rots l t x l.length ↔ p ∈ l := by
  unfold rots
  rw [List.mem_flatMap]
  have hd : ∀ j, j < l.length → l.getD j ⟨0, 0⟩ ∈ l := fun j hj => by
    rw [List.getD_eq_getElem?_getD, List.getElem?_eq_getElem hj]; exact List.getElem_mem hj
  constructor
  · rintro ⟨i, hi, h⟩
    rcases List.mem_cons.1 h with rfl | h
    · exact hd _ (Nat.mod_lt _ hn)
    · obtain rfl : p = ⟨x, x⟩ := by simpa using h
      exact absurd hp (by simp)
  · intro h
    obtain ⟨j, hj, rfl⟩ := List.mem_iff_getElem.1 h
    obtain ⟨i, hi, hij⟩ : ∃ i, i < l.length ∧ (i + t) % l.length = j := by
      have h1 := Nat.mod_lt t hn
      have h2 := Nat.div_add_mod t l.length
      by_cases hc : t % l.length ≤ j
      · refine ⟨j - t % l.length, by omega, ?_⟩
        rw [show j - t % l.length + t = j + l.length * (t / l.length) from by omega, Nat.add_mul_mod_self_left, Nat.mod_eq_of_lt hj]
      · refine ⟨j + l.length - t % l.length, by omega, ?_⟩
        rw [show j + l.length - t % l.length + t = j + l.length * (t / l.length) + l.length from by omega, Nat.add_mod_right, Nat.add_mul_mod_self_left, Nat.mod_eq_of_lt hj]
    refine ⟨i, List.mem_range.2 hi, ?_⟩
    rw [hij, List.getD_eq_getElem?_getD, List.getElem?_eq_getElem hj]
    exact List.mem_cons_self
theorem rots_long (l : List Pr) (t : Nat) (x : Int) (p0 : Pr) (h0 : l[0]? = some p0) : longFrom (rots l t x l.length ++ [p0]) lowest = longFrom l lowest := by
  have hn : 0 < l.length := (List.getElem?_eq_some_iff.1 h0).1
  apply long_congr
  intro p hp
  rw [List.mem_append, rots_mem l t x p hn hp, List.mem_singleton]
  constructor
  · rintro (h | rfl)
    · exact h
    · exact List.mem_of_getElem? h0
  · exact .inl
set_option maxHeartbeats 4000000 in
theorem walkN (W : World) (l : List Pr) (al : Option Addr) (cl : Nat) (hpl : Ps W W.heap.size al l) (t : Nat) (hlt : t < 256) (x : Int) :
    Calls Try.prog 6 #[.slice al l.length cl, .int .u8 t, .int .i64 x] W fun r w' => r = .returned (.bool true) ∧ Below W.heap.size W w' := by
  have HAW := Lib.hid (awake_any W)
  have HL := Lib.hid hpl
  clear hpl
  by_cases hB : l.length ≤ 60 ∧ 0 < l.length
  rotate_left
  · obtain ⟨y, hy⟩ : ∃ y, decide (60 < l.length) = y := ⟨_, rfl⟩
    obtain ⟨z, hz⟩ : ∃ z, decide (l.length = 0) = z := ⟨_, rfl⟩
    have hyz : y = true ∨ z = true := by
      rw [← hy, ← hz, decide_eq_true_eq, decide_eq_true_eq]; omega
    have hy2 : decide (60 < (l.length : Int)) = y := by rw [← hy, Bool.eq_iff_iff, decide_eq_true_eq, decide_eq_true_eq]; omega
    have hz2 : ((l.length : Int) == 0) = z := by rw [← hz, Bool.eq_iff_iff, beq_iff_eq, decide_eq_true_eq]; omega
    cases y
    · obtain rfl : z = true := by simpa using hyz
      have hl0 : (l.length : Int) = 0 := by simpa using hz2
      have hl1 : l.length = 0 := by omega
      clear hyz
      go_enter Try.func6, Try.ntmps6
      go_wp2_with (go_at_call 9; (with_reducible refine HAW.out.mono ?_); rintro r w1 ⟨rfl, hb1⟩)
      go_ret
      exact ⟨rfl, hb1⟩
    · have hBi : ¬ (l.length : Int) ≤ 60 := by have := of_decide_eq_true hy; omega
      clear hyz
      go_enter Try.func6, Try.ntmps6
      go_wp2_with (go_at_call 9; (with_reducible refine HAW.out.mono ?_); rintro r w1 ⟨rfl, hb1⟩)
      go_ret
      exact ⟨rfl, hb1⟩
  obtain ⟨hB, hpos⟩ := hB
  have hBi : (l.length : Int) ≤ 60 := by omega
  have hBj : ¬ (l.length : Int) = 0 := by omega
  have hBk : ((l.length : Int) == 0) = false := by rw [Bool.eq_false_iff, ne_eq, beq_iff_eq]; omega
  have hBm : decide (60 < (l.length : Int)) = false := decide_eq_false (by omega)
  have hl6 : l.length ≤ 1000000 := by omega
  obtain ⟨p0, hp0⟩ : ∃ p0, l[0]? = some p0 := ⟨_, List.getElem?_eq_getElem hpos⟩
  have CL : Hid (∀ X, Below W.heap.size W X → Calls Try.prog 13 #[.slice al l.length cl] X (Gives X (longFrom l lowest))) := Lib.hid fun X h => longest_any l al cl X hl6 (HL.out.keeps h)
  have HQL : Hid ((longFrom l lowest).length ≤ 1000000) := Lib.hid (by have := long_len l lowest; omega)
  have CA : Hid (∀ X (a : Option Addr) (c : Nat), Ps X X.heap.size a (longFrom l lowest) → Calls Try.prog 13 #[.slice a (longFrom l lowest).length c] X (Gives X (longFrom l lowest))) := Lib.hid fun X a c h => by
    have h := longest_any _ a c X HQL.out h
    rwa [long_again] at h
  have CO : Hid (∀ X (a : Option Addr) (c : Nat), Ps X X.heap.size a (rots l t x l.length ++ [p0]) → Calls Try.prog 13 #[.slice a (rots l t x l.length ++ [p0]).length c] X (Gives X (longFrom l lowest))) := Lib.hid fun X a c h => by
    have hrl : ∀ k, (rots l t x k).length = 2 * k := fun k => by
      induction k with
      | zero => rfl
      | succ k ih => rw [rots_succ]; simp [ih]; omega
    have h := longest_any _ a c X (by rw [List.length_append, hrl]; simp; omega) h
    rwa [rots_long l t x p0 hp0] at h
  generalize longFrom l lowest = q at *
  have HP0 := Lib.hid hp0
  clear hp0
  go_enter Try.func6, Try.ntmps6
  go_wp2_with (first
    | (go_at_call 9; (with_reducible refine HAW.out.mono ?_); rintro r w1 ⟨rfl, hb1⟩; have HB1 := Lib.hid hb1; clear hb1)
    | (go_at_call 13; (with_reducible refine (CL.out _ HB1.out).mono ?_); rintro r w2 ⟨a1, g1, rfl, _, _, hp2, hb2⟩; have HB2 := Lib.hid (HB1.out.trans (hb2.mono HB1.out.size)); have H2 := Lib.hid hp2; clear hp2 hb2))
  have HRL : Hid (∀ k, (rots l t x k).length = 2 * k) := Lib.hid fun k => by
    induction k with
    | zero => rfl
    | succ k ih => rw [rots_succ]; simp [ih]; omega
  go_loopg [9, 10] l.length (fun gf s9 s10 wr => ∃ (k : Nat) (d : List Pr), k + gf = l.length ∧ s10 = .int .i64 k ∧ rots l t x k = d ∧ wr.ownsRow w2.heap.size 25 2 s9 d.length (cellsOf d) ∧ Below w2.heap.size w2 wr)
  case atStart => exact ⟨0, [], by omega, rfl, rfl, World.ownsRow_nil w2 w2.heap.size 25 2, Below.refl _ _⟩
  case round =>
    obtain ⟨k, d, hk, rfl, hd, hown, hbel⟩ := hrel
    have HO := Lib.hid hown
    have HB := Lib.hid hbel
    have hdl : d.length = 2 * k := by rw [← hd]; exact HRL.out k
    have HDL := Lib.hid hdl
    clear hdl
    have HD := Lib.hid hd
    clear hown hbel hd
    cases gk with
    | zero =>
      obtain rfl : k = l.length := by omega
      have hni : ¬ ((l.length : Int) < (l.length : Int)) := by omega
      obtain ⟨b, o, rfl, hbl, hc⟩ := HL.out (by omega)
      have hpz : l[0] = p0 := (List.getElem?_eq_some_iff.1 HP0.out).2
      have HLW : Hid (∀ X, Below w2.heap.size w2 X → X.cell? ⟨b, o, none⟩ = some (.int .i64 p0.s) ∧ X.cell? ⟨b, o + 1, none⟩ = some (.int .i64 p0.e)) := Lib.hid fun X h => by
        have h2 := hc 0 hpos
        rw [hpz, Nat.zero_mul, Nat.add_zero] at h2
        have hbx := HB2.out.trans (h.mono HB2.out.size)
        exact ⟨(hbx.cell (p := ⟨b, o, none⟩) hbl).trans h2.1, (hbx.cell (p := ⟨b, o + 1, none⟩) hbl).trans h2.2⟩
      obtain ⟨d0, d1⟩ := HLW.out wr HB.out
      have hpi : (0 : Int) < (l.length : Int) := by omega
      clear hc hpz
      go_wp2_with (at_builtin; refine app_ps rfl _ _ rfl w2.heap.size _ d.length d rfl (HO.out.alloc _) (some ⟨wr.heap.size, 0, none⟩) [p0] 1 _ rfl (ps_one wr p0 (0, 0)) (fun e => by cases e) (by have := HDL.out; simp; omega) (by have := HB.out.size; simp; omega) ?_; intro v3 w3 hown3 hg3; have HO3 := Lib.hid hown3; have HB3 := Lib.hid (Prs.app_below (HB.out.alloc HB.out.size _) (HO.out.alloc _) hg3 (by have := HB.out.size; simp; omega) (Nat.le_refl _)); clear hown3 hg3)
      obtain ⟨a3, d3, rfl, hlc3, hnc3, hps3⟩ := own_ps HO3.out (List.length_append.symm)
      rw [← HD.out] at hps3
      have HQ3 := Lib.hid hps3
      have HR3 := Lib.hid (H2.out.keeps HB3.out)
      have e1 : (d ++ [p0]).length = (rots l t x l.length ++ [p0]).length := by rw [HD.out]
      rw [e1]
      have HB4 := Lib.hid (HB2.out.trans (HB3.out.mono HB2.out.size))
      generalize rots l t x l.length ++ [p0] = o2 at *
      clear hps3 hlc3 e1
      go_wp2_with (first
        | (go_at_call 13; (with_reducible refine (CA.out _ _ _ HR3.out).mono ?_); rintro r w4 ⟨a4, d4, rfl, _, _, hp4, hb4⟩; have HB5 := Lib.hid (HB4.out.trans (hb4.mono HB4.out.size)); have CS1 := Lib.hid (same3 w4 q a4 a1 d4 g1 hp4 (HR3.out.keeps hb4) (by have := HQL.out; omega)); have HQ4 := Lib.hid (HQ3.out.keeps hb4); have HR4 := Lib.hid (HR3.out.keeps hb4); clear hp4 hb4)
        | (go_at_call 12; (with_reducible refine CS1.out.mono ?_); rintro r w5 ⟨rfl, hb5⟩; have HB6 := Lib.hid (HB5.out.trans (hb5.mono HB5.out.size)); have HQ5 := Lib.hid (HQ4.out.keeps hb5); have HR5 := Lib.hid (HR4.out.keeps hb5); clear hb5 CS1)
        | (go_at_call 13; (with_reducible refine (CO.out _ _ _ HQ5.out).mono ?_); rintro r w6 ⟨a6, d6, rfl, _, _, hp6, hb6⟩; have HB7 := Lib.hid (HB6.out.trans (hb6.mono HB6.out.size)); have CS2 := Lib.hid (same3 w6 q a6 a1 d6 g1 hp6 (HR5.out.keeps hb6) (by have := HQL.out; omega)); clear hp6 hb6)
        | (go_at_call 12; (with_reducible refine CS2.out.mono ?_); rintro r w7 ⟨rfl, hb7⟩; have HB8 := Lib.hid (HB7.out.trans (hb7.mono HB7.out.size)); clear hb7))
      go_ret
      exact ⟨rfl, HB8.out⟩
    | succ gf =>
      have hlt2 : k < l.length := by omega
      have hli : (k : Int) < (l.length : Int) := by omega
      obtain ⟨m, hm⟩ : ∃ m, (k + t) % l.length = m := ⟨_, rfl⟩
      have hml : m < l.length := by rw [← hm]; exact Nat.mod_lt _ hpos
      have hmi : (m : Int) < (l.length : Int) := by omega
      have htm : ((k : Int) + (t : Int)).tmod (l.length : Int) = (m : Int) := by rw [← hm]; exact (Int.ofNat_tmod (k + t) l.length).symm
      have hem : ((k : Int) + (t : Int)) % (l.length : Int) = (m : Int) := by rw [← hm]; exact (Int.natCast_emod (k + t) l.length).symm
      obtain ⟨b, o, rfl, hbl, hc⟩ := HL.out (by omega)
      obtain ⟨p, hp⟩ : ∃ p, l[m]? = some p := ⟨_, List.getElem?_eq_getElem hml⟩
      have hpm : l[m] = p := (List.getElem?_eq_some_iff.1 hp).2
      have HLW : Hid (∀ X, Below w2.heap.size w2 X → X.cell? ⟨b, o + m * 2, none⟩ = some (.int .i64 p.s) ∧ X.cell? ⟨b, o + m * 2 + 1, none⟩ = some (.int .i64 p.e)) := Lib.hid fun X h => by
        have h2 := hc m hml
        rw [hpm] at h2
        have hbx := HB2.out.trans (h.mono HB2.out.size)
        exact ⟨(hbx.cell (p := ⟨b, o + m * 2, none⟩) hbl).trans h2.1, (hbx.cell (p := ⟨b, o + m * 2 + 1, none⟩) hbl).trans h2.2⟩
      obtain ⟨d0, d1⟩ := HLW.out wr HB.out
      have HT : Hid (rots l t x (k + 1) = d ++ [p] ++ [⟨x, x⟩]) := Lib.hid (by rw [rots_succ, hm, HD.out, List.getD_eq_getElem?_getD, hp]; rfl)
      clear hc hpm hp hm
      go_wp2_with (first
        | (at_builtin; refine app_ps rfl _ _ rfl w2.heap.size _ d.length d rfl (HO.out.alloc _) (some ⟨wr.heap.size, 0, none⟩) [p] 1 _ rfl (ps_one wr p (0, 0)) (fun e => by cases e) (by have := HDL.out; simp; omega) (by have := HB.out.size; simp; omega) ?_; intro v3 w3 hown3 hg3; rw [← List.length_append] at hown3; have HO3 := Lib.hid hown3; have HB3 := Lib.hid (Prs.app_below (HB.out.alloc HB.out.size _) (HO.out.alloc _) hg3 (by have := HB.out.size; simp; omega) (Nat.le_refl _)); clear hown3 hg3)
        | (at_builtin; refine app_ps rfl _ _ rfl w2.heap.size _ (d ++ [p]).length (d ++ [p]) rfl (HO3.out.alloc _) (some ⟨w3.heap.size, 0, none⟩) [⟨x, x⟩] 1 _ rfl (ps_one w3 ⟨x, x⟩ (0, 0)) (fun e => by cases e) (by have := HDL.out; simp; omega) (by have := HB3.out.size; simp; omega) ?_; intro v4 w4 hown4 hg4; rw [← List.length_append] at hown4; have HO4 := Lib.hid hown4; have HB4 := Lib.hid (Prs.app_below (HB3.out.alloc HB3.out.size _) (HO3.out.alloc _) hg4 (by have := HB3.out.size; simp; omega) (Nat.le_refl _)); clear hown4 hg4))
      go_roundg gf
      case rel => exact ⟨k + 1, d ++ [p] ++ [⟨x, x⟩], by omega, by go_num, HT.out, HO4.out, HB4.out⟩
      case measure => omega
theorem walk (W : World) (l : List Pr) (al : Option Addr) (cl : Nat) (hpl : Ps W W.heap.size al l) (c : UInt8) (x : Int) :
    Calls Try.prog 6 #[.slice al l.length cl, .int .u8 (c.toNat : Int), .int .i64 x] W fun r w' => r = .returned (.bool true) ∧ Below W.heap.size W w' := walkN W l al cl hpl c.toNat c.toNat_lt x
end Go.Proofs.Ytlmncljnnpnjmaa.pickAgain
