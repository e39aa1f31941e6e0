/- Options: words of a text, and Read. -/
import Derived.Test.YtjccnhipdhpkoaaOptA6
import Derived.Shelf.Strings.FieldsFuncAny
namespace Go.Proofs.Ytjccnhipdhpkoaa.Opt
open Go.RowKit
set_option maxRecDepth 100000

/-- The library's numbers here. -/
def ren : Go.Shelf.Ren := ⟨fun | 229 => 18 | n => n, fun | 0 => 0 | 3 => 3 | 4 => 4 | 9 => 9 | 21 => 21 | 31 => 42 | 40 => 44 | 152 => 49 | 154 => 51 | n => n, fun n => n⟩
theorem lays229 : Lays.n229 Try.prog ren := {
  mixed := by kernel_rfl,
  f229 := Try.func18.trans (congrArg some (by kernel_rfl)),
  t0 := Try.underlying0,
  a0 := Try.isAgg0,
  z0 := Try.sizeOf0,
  v0 := Try.zeroValue0,
  t3 := Try.underlying3,
  a3 := Try.isAgg3,
  z3 := Try.sizeOf3,
  v3 := Try.zeroValue3,
  t4 := Try.underlying4,
  a4 := Try.isAgg4,
  z4 := Try.sizeOf4,
  v4 := Try.zeroValue4,
  t9 := Try.underlying9,
  a9 := Try.isAgg9,
  z9 := Try.sizeOf9,
  v9 := Try.zeroValue9,
  t21 := Try.underlying21,
  a21 := Try.isAgg21,
  z21 := Try.sizeOf21,
  v21 := Try.zeroValue21,
  t31 := Try.underlying42,
  a31 := Try.isAgg42,
  z31 := Try.sizeOf42,
  v31 := Try.zeroValue42,
  t40 := Try.underlying44,
  a40 := Try.isAgg44,
  z40 := Try.sizeOf44,
  v40 := Try.zeroValue44,
  t152 := Try.underlying49,
  a152 := Try.isAgg49,
  z152 := Try.sizeOf49,
  v152 := Try.zeroValue49,
  t154 := Try.underlying51,
  a154 := Try.isAgg51,
  z154 := Try.sizeOf51,
  v154 := Try.zeroValue51 }
theorem words_any (s : Tx) (hs : s.length ≤ 1000000000) (w : World) :
    Calls Try.prog 18 #[.string (str s), .func (.func 19) #[] #[]] w fun e w' => ∃ A, e = .returned (.slice (some ⟨A, 0, none⟩) (wordsO s).length (wordsO s).length) ∧ w.heap.size ≤ A ∧
      w'.ownsRow w.heap.size 9 1 (.slice (some ⟨A, 0, none⟩) (wordsO s).length (wordsO s).length) (wordsO s).length ((wordsO s).map fun t => Value.string (str t)) ∧ Below w.heap.size w w' := by
  have h := Any.strings_FieldsFunc lays229 19 #[] (enters_of Try.func19 (by kernel_rfl) rfl) (fun r => r == 32) (str s) w (by rw [str_size]; omega) (fun W r _ => by
    refine (blank_any (r : Int) W).mono ?_
    rintro e w' ⟨rfl, rfl⟩
    refine ⟨?_, 0, rfl⟩
    congr 2
    rw [Bool.eq_iff_iff]; simp; omega) (by kernel_rfl) (by kernel_rfl)
  rw [fields_words, List.length_map, List.map_map] at h
  exact h
theorem wgo_len : ∀ (s cur : Tx), (∀ t ∈ wgo cur [] s, t.length ≤ cur.length + s.length) ∧ (wgo cur [] s).length ≤ s.length + 1
  | [], cur => by
    unfold wgo
    split <;> simp
  | c :: s, cur => by
    unfold wgo
    by_cases h : c = 32
    · rw [if_pos h]
      by_cases hc : cur = []
      · rw [if_pos hc]
        have ih := wgo_len s []
        exact ⟨fun t ht => by have := ih.1 t ht; simp at this ⊢; omega, by simp; omega⟩
      · rw [if_neg hc, wgo_acc]
        have ih := wgo_len s []
        refine ⟨fun t ht => ?_, by simp; omega⟩
        rcases List.mem_append.1 ht with h1 | h1
        · simp at h1; subst h1; simp
        · have := ih.1 t h1; simp at this ⊢; omega
    · rw [if_neg h]
      have ih := wgo_len s (cur ++ [c])
      exact ⟨fun t ht => by have := ih.1 t ht; simp at this ⊢; omega, by simp; omega⟩
theorem outW_snoc (o : List Bool) (ws : List Tx) (t : Tx) : outW o (ws ++ [t]) = orL (outW o ws) (lettersIn t) := by simp [outW]
theorem outW_len : ∀ (ws : List Tx) (o : List Bool), o.length = 7 → (outW o ws).length = 7
  | [], _, h => h
  | t :: ws, o, h => outW_len ws (orL o (lettersIn t)) (orL_len h (lettersIn_len _))
theorem seven (l : List Bool) (h : l.length = 7) : ∃ a b c d e f g, l = [a, b, c, d, e, f, g] := by
  match l, h with
  | [a, b, c, d, e, f, g], _ => exact ⟨a, b, c, d, e, f, g, rfl⟩
/-- A call that hands out options, or that there are none, and leaves what was there as it was. -/
def GivesR (w : World) (r : Option (List Bool)) (e : Ending) (w' : World) : Prop :=
  (∃ a b c d e1 f g, r.getD none7 = [a, b, c, d, e1, f, g] ∧ e = .returned (.tuple #[val7 a b c d e1 f g, .int .i64 (if r.isSome then 0 else 10)])) ∧ Below w.heap.size w w'

theorem below_grown {B x : Nat} {v w X : World} (h : Below B v w) (hg : w.grownBy X (some x)) (hx : B ≤ x) (hw : B ≤ w.heap.size) : Below B v X :=
  h.grown hg hw (fun k hk => by cases hk; exact hx)

set_option maxHeartbeats 1000000 in
theorem read_any (s : Tx) (hs : s.length ≤ 100000000) (w : World) : Calls Try.prog 9 #[.string (str s)] w (GivesR w (readO s)) := by
  have hwl := wgo_len s []
  obtain ⟨L, hL⟩ : ∃ L, wordsO s = L := ⟨_, rfl⟩
  have HW := Lib.hid (fun W => words_any s (by omega) W)
  have HR := Lib.hid (read_words s)
  rw [show wgo [] [] s = wordsO s from rfl] at hwl
  rw [hL] at hwl HW HR
  have hn : L.length ≤ 1000000000 := by omega
  have HWL := Lib.hid hwl
  clear hwl hL
  go_enter Try.func9, Try.ntmps9
  go_wp2_with (go_at_call 18; (with_reducible refine (HW.out _).mono ?_); rintro e w2 ⟨A, rfl, hA, hown, hb⟩)
  have HB2 := Lib.hid ((((Below.refl w.heap.size w).alloc (Nat.le_refl _) _).alloc (by simp) _).trans (hb.mono (by simp; omega)))
  have z0 : Bk w2 w.heap.size [false, false, false, false, false, false, false] := ((bk_at rfl _ _ _ _ _ _ _).keep ((Below.refl _ _).alloc (Nat.le_refl _) _) (by simp)).keep hb (by simp; omega)
  have z1 : Bk w2 (w.heap.size + 1) [false, false, false, false, false, false, false] := (bk_at (by simp) _ _ _ _ _ _ _).keep hb (by simp)
  have hrow : w2.ownsRow (w.heap.size + 1 + 1) 9 1 (.slice (some ⟨A, 0, none⟩) L.length L.length) L.length (L.map fun t => Value.string (str t)) := by simpa using hown
  clear hown hb hA
  go_loopg [6, 10] L.length (fun gf s6 s10 wx => ∃ k : Nat, k + gf = L.length ∧ s10 = .int .i64 k ∧ ((L.take k).all okW) = true ∧ Bk wx w.heap.size [false, false, false, false, false, false, false] ∧ Bk wx (w.heap.size + 1) (outW none7 (L.take k)) ∧
    wx.ownsRow (w.heap.size + 1 + 1) 9 1 (.slice (some ⟨A, 0, none⟩) L.length L.length) L.length (L.map fun t => Value.string (str t)) ∧ Below w.heap.size w wx)
  case atStart => exact ⟨0, by simp, rfl, rfl, z0, z1, hrow, HB2.out⟩
  case round =>
    obtain ⟨k, hk, rfl, hal, hb0, hbk, hown, hbel⟩ := hrel
    cases gk with
    | succ gf =>
      have hlt : k < L.length := by omega
      have hli : (k : Int) < (L.length : Int) := by omega
      obtain ⟨t, ht⟩ : ∃ t, L[k]? = some t := ⟨_, List.getElem?_eq_getElem hlt⟩
      have hcl : wr.cell? ⟨A, k, none⟩ = some (.string (str t)) := by
        rw [hown.cellAt k (by simpa using hlt), List.getElem?_map, ht]; rfl
      have C1 := Lib.hid (add_any wr (w.heap.size + 1) (outW none7 (L.take k)) hbk t (by have := HWL.out.1 t (List.mem_of_getElem? ht); simp at this; omega))
      have HT := Lib.hid (show L.take (k + 1) = L.take k ++ [t] by rw [List.take_add_one, ht]; rfl)
      have HM := Lib.hid (List.mem_of_getElem? ht)
      clear ht
      cases hok : okW t
      · go_wp2_with (go_at_call 20; (with_reducible refine C1.out.mono ?_); rintro e W' ⟨rfl, _, hgr⟩; rw [hok]; have hbe := below_grown hbel hgr (by omega) hbel.size; have hb0 : Bk W' w.heap.size [false, false, false, false, false, false, false] := ⟨(hgr.block _ hb0.lt (by simp)).trans hb0.1, rfl⟩; have c0 := hb0.cell (k := 0) rfl; have c1 := hb0.cell (k := 1) rfl; have c2 := hb0.cell (k := 2) rfl; have c3 := hb0.cell (k := 3) rfl; have c4 := hb0.cell (k := 4) rfl; have c5 := hb0.cell (k := 5) rfl; have c6 := hb0.cell (k := 6) rfl; have f0 := hb0.free)
        have HP := hb0.put false false false false false false false
        have HQ := below_put7 hbe (Nat.le_refl _) false false false false false false false
        unfold put7 at HP HQ
        have m0 := HP.cell (k := 0) rfl
        have m1 := HP.cell (k := 1) rfl
        have m2 := HP.cell (k := 2) rfl
        have m3 := HP.cell (k := 3) rfl
        have m4 := HP.cell (k := 4) rfl
        have m5 := HP.cell (k := 5) rfl
        have m6 := HP.cell (k := 6) rfl
        refine bodyPost_ret (v := .tuple #[val7 false false false false false false false, .int .i64 10]) (by simp [results, Try.results9, go_sem, m0, m1, m2, m3, m4, m5, m6]) rfl ?_
        have hr : readO s = none := by
          rw [HR.out, if_neg]
          intro h
          have := List.all_eq_true.1 h t HM.out
          rw [hok] at this; cases this
        exact ⟨⟨false, false, false, false, false, false, false, by rw [hr]; rfl, by rw [hr]; rfl⟩, HQ⟩
      · go_wp2_with (go_at_call 20; (with_reducible refine C1.out.mono ?_); rintro e W' ⟨rfl, hbn, hgr⟩; rw [hok])
        go_roundg gf
        case rel =>
          refine ⟨k + 1, by omega, by go_num, ?_, ?_, ?_, ?_, below_grown hbel hgr (by omega) hbel.size⟩
          · rw [HT.out, List.all_append, hal]; simp [hok]
          · exact ⟨(hgr.block _ hb0.lt (by simp)).trans hb0.1, rfl⟩
          · rw [HT.out, outW_snoc]; exact hbn hok
          · exact hown.kept hgr (Or.inr (by have := @own_ge _ _ _ _ _ _ _ hown; intro e; have := this e; omega))
        case measure => omega
    | zero =>
      obtain rfl : k = L.length := by omega
      rw [List.take_length] at hal hbk
      obtain ⟨a, b, c, d, e1, f, g, ho⟩ := seven (outW none7 L) (outW_len L none7 rfl)
      have hr : readO s = some [a, b, c, d, e1, f, g] := by rw [HR.out, if_pos hal, ho]
      have HRR := Lib.hid hr
      rw [ho] at hbk
      have hni : ¬ ((L.length : Int) < (L.length : Int)) := by omega
      clear hr ho
      have l0 := hbk.cell (k := 0) rfl
      have l1 := hbk.cell (k := 1) rfl
      have l2 := hbk.cell (k := 2) rfl
      have l3 := hbk.cell (k := 3) rfl
      have l4 := hbk.cell (k := 4) rfl
      have l5 := hbk.cell (k := 5) rfl
      have l6 := hbk.cell (k := 6) rfl
      have c0 := hb0.cell (k := 0) rfl
      have c1 := hb0.cell (k := 1) rfl
      have c2 := hb0.cell (k := 2) rfl
      have c3 := hb0.cell (k := 3) rfl
      have c4 := hb0.cell (k := 4) rfl
      have c5 := hb0.cell (k := 5) rfl
      have c6 := hb0.cell (k := 6) rfl
      have f0 := hb0.free
      go_wp2
      have HP := hb0.put a b c d e1 f g
      have HQ := below_put7 hbel (Nat.le_refl _) a b c d e1 f g
      unfold put7 at HP HQ
      have m0 := HP.cell (k := 0) rfl
      have m1 := HP.cell (k := 1) rfl
      have m2 := HP.cell (k := 2) rfl
      have m3 := HP.cell (k := 3) rfl
      have m4 := HP.cell (k := 4) rfl
      have m5 := HP.cell (k := 5) rfl
      have m6 := HP.cell (k := 6) rfl
      refine bodyPost_ret (v := .tuple #[val7 a b c d e1 f g, .int .i64 0]) (by simp [results, Try.results9, go_sem, m0, m1, m2, m3, m4, m5, m6]) rfl ?_
      exact ⟨⟨a, b, c, d, e1, f, g, by rw [HRR.out]; rfl, by rw [HRR.out]; rfl⟩, HQ⟩
end Go.Proofs.Ytjccnhipdhpkoaa.Opt
