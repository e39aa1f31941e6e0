/- Options: a word asks for options. -/
import Derived.Test.YtjccnhipdhpkoaaOptA5
import Derived.Test.YtjccnhipdhpkoaaOptW
namespace Go.Proofs.Ytjccnhipdhpkoaa.Opt
open Go.RowKit
set_option maxRecDepth 100000

theorem idx_letter (c : UInt8) : (∃ j, j < 7 ∧ idx (c.toNat : Int) = some j ∧ letters[j]? = some c) ∨ (idx (c.toNat : Int) = none ∧ letters.contains c = false) := by
  have h : ∀ n : Fin 256, (∃ j : Fin 7, idx (n.val : Int) = some j.val ∧ letters[j.val]? = some (UInt8.ofNat n.val)) ∨ (idx (n.val : Int) = none ∧ letters.contains (UInt8.ofNat n.val) = false) := by decide +kernel
  have h1 := h ⟨c.toNat, c.toNat_lt⟩
  have e : UInt8.ofNat c.toNat = c := by apply UInt8.toNat_inj.1; simp
  simp only [e] at h1
  rcases h1 with ⟨j, h2, h3⟩ | h2
  · exact Or.inl ⟨j.val, j.isLt, h2, h3⟩
  · exact Or.inr h2
theorem idx_high {z : Int} (h : 128 ≤ z) : idx z = none := by
  unfold idx
  have e : ∀ k : Int, k < 128 → (z == k) = false := fun k hk => by simp; omega
  simp [e 105 (by decide), e 119 (by decide), e 120 (by decide), e 111 (by decide), e 98 (by decide), e 118 (by decide), e 99 (by decide)]
theorem letters_snoc (t : Tx) (c : UInt8) {j : Nat} (hj : letters[j]? = some c) : lettersIn (t ++ [c]) = (lettersIn t).set j true := by
  have hnd : ∀ i, i < 7 → ∀ d, letters[i]? = some d → (decide (d = c)) = decide (i = j) := by
    have h7 : j < 7 := (List.getElem?_eq_some_iff.1 hj).1
    have h : ∀ (i j : Fin 7), (decide (letters[i.val]? = letters[j.val]?)) = decide (i.val = j.val) := by decide +kernel
    intro i hi d hd
    have h2 := h ⟨i, hi⟩ ⟨j, h7⟩
    simp only [hd, hj] at h2
    rw [← h2, decide_eq_decide]
    exact ⟨fun e => by rw [e], fun e => Option.some.inj e⟩
  apply List.ext_getElem?
  intro i
  rw [List.getElem?_set]
  unfold lettersIn
  simp only [List.getElem?_map, List.length_map]
  rcases Nat.lt_or_ge i 7 with hi | hi
  · obtain ⟨d, hd⟩ : ∃ d, letters[i]? = some d := ⟨_, List.getElem?_eq_getElem hi⟩
    have h3 := hnd i hi d hd
    rw [hd]
    by_cases e : j = i
    · subst e
      have : d = c := by simpa using h3
      subst this
      simp
      exact hi
    · rw [if_neg e]
      have : ¬ d = c := by
        intro e2
        rw [decide_eq_true e2] at h3
        exact e (of_decide_eq_true h3.symm).symm
      simp [this]
  · have e : ¬ j = i := by
      have h7 : j < 7 := (List.getElem?_eq_some_iff.1 hj).1
      omega
    rw [if_neg e]
    have : letters[i]? = none := List.getElem?_eq_none hi
    rw [this]; rfl
theorem orL_set (a b : List Bool) (ha : a.length = 7) (hb : b.length = 7) (j : Nat) : (orL a b).set j true = orL a (b.set j true) := by
  match a, ha, b, hb with
  | [_, _, _, _, _, _, _], _, [_, _, _, _, _, _, _], _ =>
    rcases Nat.lt_or_ge j 7 with h | h
    · match j, h with
      | 0, _ => simp [orL]
      | 1, _ => simp [orL]
      | 2, _ => simp [orL]
      | 3, _ => simp [orL]
      | 4, _ => simp [orL]
      | 5, _ => simp [orL]
      | 6, _ => simp [orL]
    · rw [List.set_eq_of_length_le (by simpa [orL] using h), List.set_eq_of_length_le (by simpa using h)]
theorem dec_low (s : ByteArray) (i : Nat) (h : (s.get! i).toNat < 128) : Utf8.decode s i = ((s.get! i).toNat, 1) := by
  rw [Lib.decode_at]
  unfold Lib.decodeN
  rw [if_pos h]
theorem dec_none {s : ByteArray} {i : Nat} (h : idx ((s.get! i).toNat : Int) = none) : idx ((Utf8.decode s i).1 : Int) = none := by
  by_cases h0 : (s.get! i).toNat < 128
  · rw [dec_low s i h0]; exact h
  · have hd := dec_cont (s.size - i) (s.get! i).toNat (s.get! (i + 1)).toNat (s.get! (i + 2)).toNat (s.get! (i + 3)).toNat (by omega)
    rw [← Lib.decode_at] at hd
    exact idx_high (by have := hd.2.2.2.2; omega)
theorem lettersIn_dash (r : Tx) : lettersIn (45 :: r) = lettersIn r := by
  simp [lettersIn, letters]
theorem okW_dash (c : UInt8) (r : Tx) : okW (45 :: c :: r) = (c :: r).all fun x => letters.contains x := rfl
theorem grown_iter {w X : World} {row : Option Nat} (h : w.grownBy X row) {j : Nat} (hj : w.heap.size ≤ j) (s : ByteArray) (p : Nat) : w.grownBy (X.iterAt j s p) row :=
  ⟨h.os, h.tape, h.output, by rw [Lib.iterAt_size]; exact h.size, fun k hk hr => (Lib.iterAt_other _ _ _ _ _ (by omega)).trans (h.block k hk hr)⟩
theorem grown_set {w X : World} {x : Nat} (h : w.grownBy X (some x)) (i : Nat) (v : Value) : w.grownBy (X.setCell ⟨x, i, none⟩ v) (some x) :=
  ⟨h.os, h.tape, h.output, by rw [show (X.setCell ⟨x, i, none⟩ v).heap.size = X.heap.size by simp [World.setCell]]; exact h.size, fun k hk hr => (Below.heap_setCell _ _ _ _ (fun e => hr (by rw [e]))).trans (h.block k hk hr)⟩
/-- A call that asks for a word's options, in block x. -/
def GivesAdd (w : World) (x : Nat) (l : List Bool) (s : Tx) (e : Ending) (w' : World) : Prop := e = .returned (.bool (okW s)) ∧ (okW s = true → Bk w' x (orL l (lettersIn s))) ∧ w.grownBy w' (some x)

set_option maxHeartbeats 1000000 in
theorem add_any (w : World) (x : Nat) (l : List Bool) (hx : Bk w x l) (s : Tx) (hs : s.length ≤ 1000000000) :
    Calls Try.prog 20 #[.pointer (some ⟨x, 0, none⟩), .string (str s)] w (GivesAdd w x l s) := by
  have C0 := Lib.hid (cutp_any s hs w)
  by_cases hd : ∃ r, s = 45 :: r
  rotate_left
  · have hf : cutW s = (s, false) := by
      cases s with
      | nil => rfl
      | cons c r =>
        have : ¬ c = 45 := fun e => hd ⟨r, by rw [e]⟩
        simp [cutW, this]
    have ho : okW s = false := by
      match s, hd with
      | [], _ => rfl
      | [c], _ => rfl
      | c :: d :: r, hd =>
        have : ¬ c = 45 := fun e => hd ⟨d :: r, by rw [e]⟩
        simp [okW, this]
    rw [hf] at C0
    go_enter Try.func20, Try.ntmps20
    go_wp2_with (go_at_call 23; (with_reducible refine C0.out.mono ?_); rintro e W' ⟨rfl, rfl⟩)
    go_ret
    exact ⟨by rw [ho]; rfl, (fun h => by rw [ho] at h; cases h), World.grownBy.refl _ _⟩
  · obtain ⟨r, rfl⟩ := hd
    have C1 : Hid (Calls Try.prog 23 #[.string (str (45 :: r)), .string ⟨#[45]⟩] w fun e w' => e = .returned (.tuple #[.string (str r), .bool true]) ∧ w = w') := C0
    clear C0
    cases r with
    | nil =>
      have hem : (str ([] : Tx)).toList.isEmpty = true := by rw [str_list]; rfl
      go_enter Try.func20, Try.ntmps20
      go_wp2_with (go_at_call 23; (with_reducible refine C1.out.mono ?_); rintro e W' ⟨rfl, rfl⟩)
      go_ret
      exact ⟨rfl, (fun h => by cases h), World.grownBy.refl _ _⟩
    | cons c0 r0 =>
      obtain ⟨r, hr⟩ : ∃ r, r = c0 :: r0 := ⟨_, rfl⟩
      have hok : Hid (okW (45 :: c0 :: r0) = r.all fun x => letters.contains x) := Lib.hid (by rw [hr]; rfl)
      have hem : (str r).toList.isEmpty = false := by rw [str_list, hr]; rfl
      have hsz := str_size r
      have HX := Lib.hid hx
      rw [← hr] at C1 hok ⊢
      clear hr
      go_enter Try.func20, Try.ntmps20
      go_wp2_with (go_at_call 23; (with_reducible refine C1.out.mono ?_); rintro e W' ⟨rfl, rfl⟩)
      go_loopg [8, 9] r.length (fun gf s8 s9 wx => ∃ k : Nat, k + gf = r.length ∧ ((r.take k).all fun x => letters.contains x) = true ∧ wx.heap[w.heap.size]? = some (.stringIter (str r) k) ∧ Bk wx x (orL l (lettersIn (r.take k))) ∧ w.grownBy wx (some x))
      case atStart =>
        refine ⟨0, by simp, rfl, World.iter_heap _ _ _, ?_, (World.grownBy_alloc _ _ _)⟩
        have hb := HX.out.keep ((Below.refl w.heap.size w).alloc (Nat.le_refl _) (.stringIter (str r) 0)) HX.out.lt
        rw [show orL l (lettersIn (r.take 0)) = l from orL_none hx.2]
        exact hb
      case round =>
        obtain ⟨k, hk, hal, hit, hbk, hgr⟩ := hrel
        have hxl := HX.out.lt
        have hl7 := HX.out.2
        cases gk with
        | succ gf =>
          have hlt : k < r.length := by omega
          obtain ⟨c, hc⟩ : ∃ c, r[k]? = some c := ⟨_, List.getElem?_eq_getElem hlt⟩
          have hpos : k < (str r).size := by rw [hsz]; exact hlt
          have hget : (str r).get! k = c := by
            have := get_list (str r) k hpos
            rw [show (str r).data.toList = r from rfl, hc] at this
            exact (Option.some.inj this).symm
          have hnx := fun ty => Lib.run_next_any_at (P := Try.prog) wr w.heap.size (str r) k ty hit hpos
          rcases idx_letter c with ⟨j, hj7, hij, hlj⟩ | ⟨hin, hct⟩
          · have h128 : c.toNat < 128 := Nat.lt_of_not_le fun h => by
              rw [idx_high (z := (c.toNat : Int)) (by omega)] at hij
              cases hij
            have hdec := dec_low (str r) k (by rw [hget]; exact h128)
            rw [hget] at hdec
            rw [hdec] at hnx
            have hit2 := Lib.iterAt_heap wr _ (str r) k (k + 1) hit
            have hbk2 := hbk.iter hit (k + 1)
            have hgr2 := grown_iter hgr (Nat.le_refl _) (str r) (k + 1)
            obtain ⟨W, hWd⟩ : ∃ W, wr.iterAt w.heap.size (str r) (k + 1) = W := ⟨_, rfl⟩
            rw [hWd] at hnx hit2 hbk2 hgr2
            clear hit hbk hgr hWd hdec hget
            have C2 : Hid (Calls Try.prog 22 #[.pointer (some ⟨x, 0, none⟩), .int .i32 (c.toNat : Int)] W fun e w' => e = .returned (.pointer (some ⟨x, j, none⟩)) ∧ w' = W) :=
              Lib.hid ((field_any x _ W).mono fun _ _ ⟨he, hw⟩ => ⟨by rw [he]; unfold ptrO; rw [hij], hw.symm⟩)
            obtain ⟨b, hb⟩ : ∃ b, (orL l (lettersIn (r.take k)))[j]? = some b := ⟨_, List.getElem?_eq_getElem (by rw [hbk2.2]; exact hj7)⟩
            have hcl := hbk2.cell hb
            have hfr := hbk2.free j
            have HN : Hid (lettersIn (r.take (k + 1)) = (lettersIn (r.take k)).set j true) := Lib.hid (by rw [List.take_add_one, hc]; exact letters_snoc _ c hlj)
            have HA : Hid (((r.take (k + 1)).all fun x => letters.contains x) = true) := Lib.hid (by
              rw [List.take_add_one, hc, List.all_append, hal]
              simp
              exact List.mem_of_getElem? hlj)
            have HBK := Lib.hid hbk2
            have HC := Lib.hid hc
            clear hb hbk2 hc hal hij hlj
            go_wp2_with (go_at_call 22; (with_reducible refine C2.out.mono ?_); rintro e W' ⟨rfl, rfl⟩)
            go_roundg gf
            case rel =>
              refine ⟨k + 1, by omega, HA.out, ?_, ?_, grown_set hgr2 _ _⟩
              · exact (Below.heap_setCell _ _ _ _ (by show w.heap.size ≠ x; omega)).trans hit2
              · rw [HN.out, ← orL_set _ _ hl7 (lettersIn_len _)]; exact HBK.out.set j true
            case measure => omega
          · have hR := dec_none (s := str r) (i := k) (by rw [hget]; exact hin)
            obtain ⟨R, hRe⟩ : ∃ R, (Utf8.decode (str r) k).1 = R := ⟨_, rfl⟩
            obtain ⟨K, hKe⟩ : ∃ K, (Utf8.decode (str r) k).2 = K := ⟨_, rfl⟩
            rw [hRe, hKe] at hnx
            rw [hRe] at hR
            have hgr2 := grown_iter hgr (Nat.le_refl _) (str r) (k + K)
            obtain ⟨W, hWd⟩ : ∃ W, wr.iterAt w.heap.size (str r) (k + K) = W := ⟨_, rfl⟩
            rw [hWd] at hnx hgr2
            have C2 : Hid (Calls Try.prog 22 #[.pointer (some ⟨x, 0, none⟩), .int .i32 (R : Int)] W fun e w' => e = .returned (.pointer none) ∧ w' = W) :=
              Lib.hid ((field_any x _ W).mono fun _ _ ⟨he, hw⟩ => ⟨by rw [he]; unfold ptrO; rw [hR], hw.symm⟩)
            have HO : Hid (okW (45 :: r) = false) := Lib.hid (by
              rw [hok.out]
              apply Bool.eq_false_iff.2
              intro h
              have := List.all_eq_true.1 h c (List.mem_of_getElem? hc)
              rw [hct] at this; cases this)
            clear hR hc hct hin hget hit hbk hgr hal hWd hRe hKe
            go_wp2_with (go_at_call 22; (with_reducible refine C2.out.mono ?_); rintro e W' ⟨rfl, rfl⟩)
            go_ret
            exact ⟨by rw [HO.out]; rfl, (fun h => by rw [HO.out] at h; cases h), hgr2⟩
        | zero =>
          obtain rfl : k = r.length := by omega
          have hnx := fun ty => Lib.run_next_end_at (P := Try.prog) wr w.heap.size (str r) r.length ty hit (by rw [hsz]; omega)
          go_wp2
          go_ret
          rw [List.take_length] at hal hbk
          have ho : okW (45 :: r) = true := by rw [hok.out]; exact hal
          exact ⟨by rw [ho]; rfl, (fun _ => by rw [lettersIn_dash]; exact hbk), hgr⟩
end Go.Proofs.Ytjccnhipdhpkoaa.Opt
