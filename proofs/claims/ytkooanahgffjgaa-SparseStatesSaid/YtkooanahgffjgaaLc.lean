/- Contracts of the closure that falls back, of linked and ownText. -/
import Derived.Test.YtkooanahgffjgaaLb
namespace Go.Proofs.Ytkooanahgffjgaa.Lnk
open Go.RowKit Go.Maps Go.Proofs.Ytkooanahgffjgaa.Tri
set_option maxRecDepth 100000

theorem own_word (ps l : List Tx) {p : Tx} (hp : p ∈ ps) : wordOf ps l (place ps p) = place l p ∧ pathD ps (place ps p) = p := by
  obtain ⟨i, hi, e, e2, _⟩ := place_mem hp
  rw [e, wordOf_at l hi, pathD_at hi, e2]
  exact ⟨rfl, rfl⟩
theorem owntext_any (w : World) (s t : Nat) (ps l : List Tx) (h : Tr w s t ps l) (p : Tx) (hp : p ∈ ps) :
    Calls Try.prog 58 #[.pointer (some ⟨t, 0, none⟩), .int .i64 (place ps p)] w fun e w' => e = .returned (.int .i64 (own l p : Int)) ∧ Below w.heap.size w w' := by
  have HW := Lib.hid (word_any w s t ps l h (place ps p))
  have HD : Hid (∀ X, Below w.heap.size w X → Calls Try.prog 53 #[.pointer (some ⟨t, 0, none⟩), .int .i64 (place ps p)] X fun e w' => e = .returned (.int .i64 (p.length : Int)) ∧ Below X.heap.size X w') := Lib.hid fun X hX => by
    have := depth_any X s t ps l (h.keep hX) (place ps p)
    rwa [(own_word ps l hp).2] at this
  rw [(own_word ps l hp).1] at HW
  clear h
  generalize place ps p = n at *
  by_cases hm : p ∈ l
  · have h0 : ¬ place l p < 0 := by have := (place_nonneg l p).2 hm; omega
    have HE : Hid (own l p = p.length) := Lib.hid (by rw [own, if_pos hm])
    clear hm hp
    generalize place l p = z at *
    go_enter Try.func58, Try.ntmps58
    go_wp2_with (first | (go_at_call 59; (with_reducible refine HW.out.mono ?_); rintro e w1 ⟨rfl, hb⟩; have HB1 := Lib.hid hb; clear hb) | (go_at_call 53; (with_reducible refine (HD.out _ HB1.out).mono ?_); rintro e w2 ⟨rfl, hb⟩; have HB2 := Lib.hid hb; clear hb))
    go_ret
    exact ⟨ret_int (by rw [HE.out]), HB1.out.trans (HB2.out.mono HB1.out.size)⟩
  · have h0 : place l p < 0 := by rw [place_not hm]; omega
    have HE : Hid (own l p = 0) := Lib.hid (by rw [own, if_neg hm])
    clear hm hp
    generalize place l p = z at *
    go_enter Try.func58, Try.ntmps58
    go_wp2_with (go_at_call 59; (with_reducible refine HW.out.mono ?_); rintro e w1 ⟨rfl, hb⟩; have HB1 := Lib.hid hb; clear hb)
    go_ret
    exact ⟨ret_int (by rw [HE.out]; rfl), HB1.out⟩
set_option maxHeartbeats 1000000 in
/-- linked, at a node that is in the order. -/
theorem linked_any (w : World) (s t : Nat) (ps l Q : List Tx) (h : LiQ w s t ps l Q) (z : Tx) (hz : z ∈ ps) (hq : z ∈ Q) (n : Nat) :
    Calls Try.prog 57 #[.pointer (some ⟨t, 0, none⟩), .int .i64 (place ps z), .int .i64 (n : Int)] w fun e w' => e = .returned (.agg #[.int .i64 (place ps z), .int .i64 (if 0 < own l z then place ps z else outOf ps l z), .int .i64 (n : Int)]) ∧ Below w.heap.size w w' := by
  obtain ⟨g, cap, vo, i, h1, hg, ei, hi, d0, d1, d2⟩ := h.row hz hq
  obtain ⟨c0, c1⟩ := h1.cells
  have ht := h1.lt
  have hin : (i : Int) < (ps.length : Int) := by omega
  rw [ei]
  clear h h1 ei hz hq d0
  generalize outOf ps l z = y at *
  by_cases ho : 0 < own l z
  · rw [if_pos ho]
    have ho2 : ((own l z : Int) == 0) = false := beq_eq_false_iff_ne.2 (by omega)
    go_enter Try.func57, Try.ntmps57
    go_wp2
    exact bodyPost_ret (v := .agg #[.int .i64 (i : Int), .int .i64 (i : Int), .int .i64 (n : Int)]) (by simp [results, Try.results57, go_sem]) rfl ⟨rfl, (Below.refl _ _).alloc (Nat.le_refl _) _⟩
  · rw [if_neg ho]
    have ho2 : own l z = 0 := by omega
    rw [ho2] at d2
    go_enter Try.func57, Try.ntmps57
    go_wp2
    exact bodyPost_ret (v := .agg #[.int .i64 (i : Int), .int .i64 y, .int .i64 (n : Int)]) (by simp [results, Try.results57, go_sem]) rfl ⟨rfl, (Below.refl _ _).alloc (Nat.le_refl _) _⟩
/-- How deep a number is. -/
def mz (ps : List Tx) (n : Int) : Nat := if n < 0 then 0 else (pathD ps n).length + 1
theorem mz_place {ps : List Tx} {z : Tx} (h : z ∈ ps) : mz ps (place ps z) = z.length + 1 := by
  have h0 := (place_nonneg ps z).2 h
  rw [mz, if_neg (by omega), (own_word ps [] h).2]
theorem mz_fail {ps : List Tx} (hw : Wf ps) (z : Tx) : mz ps (failOf ps z) ≤ z.length := by
  by_cases hz : z = []
  · subst hz; rw [fail_nil, mz, if_pos (by omega)]; simp
  · obtain ⟨u, z', e, hu, h1, h2, h3, _⟩ := fail_step hw z hz
    rw [h3, mz_place h1]; omega
set_option maxHeartbeats 2000000 in
/-- The closure: from where a beginning falls to, by a byte. -/
theorem land_any (w : World) (st tt s t : Nat) (ps l Q : List Tx) (htr : Tr w st tt ps l) (h : LiQ w s t ps l Q) (b2 b3 : Nat) (hb2 : w.cell? ⟨b2, 0, none⟩ = some (.pointer (some ⟨t, 0, none⟩))) (hb3 : w.cell? ⟨b3, 0, none⟩ = some (.pointer (some ⟨tt, 0, none⟩)))
    (p : Tx) (hp : ∀ y ∈ ps, y.length < p.length → y ∈ Q) (c : UInt8) :
    Calls Try.prog 56 #[.int .i64 (failOf ps p), .int .u8 (c.toNat : Int), .pointer (some ⟨b2, 0, none⟩), .pointer (some ⟨b3, 0, none⟩)] w fun e w' => e = .returned (.int .i64 (failOf ps (p ++ [c]))) ∧ w = w' := by
  have HS := Lib.hid (step_any w st tt ps l htr)
  have HW := Lib.hid htr.2.1
  have hn := htr.2.2.2.1
  have HR : Hid (∀ z ∈ ps, z ∈ Q → _) := Lib.hid (fun z hz hq => h.row (p := z) hz hq)
  have HQ := Lib.hid hp
  clear hp htr h
  go_enter Try.func56, Try.ntmps56
  go_wp2
  go_loop [0] (fun v => ∃ z : Tx, z.length ≤ p.length ∧ v = .int .i64 (failOf ps z) ∧ failOf ps (z ++ [c]) = failOf ps (p ++ [c])) (fun v => mz ps (intOf v))
  case atStart => exact ⟨p, Nat.le_refl _, rfl, rfl⟩
  case round =>
    obtain ⟨z, hz, rfl, he⟩ := hrel
    by_cases hz0 : z = []
    · subst hz0
      rw [List.nil_append, fail_one HW.out] at he
      have HE := Lib.hid he
      clear he
      rw [fail_nil]
      go_wp2
      go_ret
      exact ⟨ret_int HE.out, rfl⟩
    · obtain ⟨u, y, e, hu, hy, hyl, ef, ec, _⟩ := fail_step HW.out z hz0
      rw [ec c] at he
      obtain ⟨g, cap, vo, i, h1, hg, ei, hi, d0, _, _⟩ := HR.out y hy (HQ.out y hy (by omega))
      have HSC : Hid (Calls Try.prog 43 #[.pointer (some ⟨tt, 0, none⟩), .int .i64 (i : Int), .int .u8 (c.toNat : Int)] w fun e w' => e = .returned (.int .i64 (place ps (y ++ [c]))) ∧ w = w') := Lib.hid (by
        have := HS.out (i : Int) (wf_nat (by omega) (by omega)) c
        rwa [← ei, step_eq hy c, ei] at this)
      have HM : Hid (mz ps (failOf ps y) < mz ps (failOf ps z)) := Lib.hid (by
        have := mz_fail HW.out y
        rw [ef, mz_place hy]; omega)
      rw [ef, ei] at HM ⊢
      obtain ⟨c0, c1⟩ := h1.cells
      have ht := h1.lt
      have hin : (i : Int) < (ps.length : Int) := by omega
      clear h1 hy ef ei ec hz0 e hu
      by_cases hm : y ++ [c] ∈ ps
      · rw [if_pos hm] at he
        have hx : 0 ≤ place ps (y ++ [c]) := (place_nonneg ps _).2 hm
        have HE := Lib.hid he
        clear he hm d0
        generalize place ps (y ++ [c]) = x at *
        go_wp2_with (go_at_call 43; (with_reducible refine HSC.out.mono ?_); rintro e w1 ⟨rfl, rfl⟩)
        go_ret
        exact ⟨ret_int HE.out, rfl⟩
      · rw [if_neg hm] at he
        have hx : place ps (y ++ [c]) < 0 := (place_neg ps _).2 hm
        have HE := Lib.hid he
        clear he hm
        generalize place ps (y ++ [c]) = x at *
        generalize hfy : failOf ps y = fy at *
        have HFY := Lib.hid hfy
        clear hfy
        go_wp2_with (go_at_call 43; (with_reducible refine HSC.out.mono ?_); rintro e w1 ⟨rfl, rfl⟩)
        go_round
        case rel => exact ⟨y, by omega, by rw [HFY.out], HE.out⟩
        case measure => simpa [intOf] using HM.out
end Go.Proofs.Ytkooanahgffjgaa.Lnk
