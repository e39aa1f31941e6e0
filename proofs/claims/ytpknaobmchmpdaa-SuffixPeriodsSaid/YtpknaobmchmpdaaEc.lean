/- The reference's Max and Borders. -/
import Derived.Test.YtpknaobmchmpdaaEb
namespace Go.Proofs.Ytpknaobmchmpdaa.Suf
open Go.RowKit Go.Maps Go.Proofs.Ytpknaobmchmpdaa.Crt
set_option maxRecDepth 100000
set_option linter.unusedVariables false

/-- A world in which nothing but draws was done. -/
def Drew (w x : World) : Prop := ∃ q, x = w.drewN q
theorem Drew.refl (w : World) : Drew w w := ⟨0, rfl⟩
theorem Drew.more {w x : World} (h : Drew w x) (n : Nat) : Drew w (x.drewN n) := by
  obtain ⟨q, rfl⟩ := h
  exact ⟨_, by rw [World.drewN_drewN]⟩
theorem Drew.trans {w x y : World} (h : Drew w x) (k : Drew x y) : Drew w y := by
  obtain ⟨n, rfl⟩ := k
  exact h.more n
theorem bestTo_step (t : Bool) (s : Tx) (k : Nat) : bestTo t s (k + 1) = if less t (s.drop (bestTo t s k)) (s.drop k) then k else bestTo t s k := rfl
set_option maxHeartbeats 1000000 in
theorem rmax_any (w : World) (s : Tx) (hl : s.length ≤ 1000000) (t : Bool) :
    Calls Try.prog 11 #[.string (str s), .bool t] w fun e w' => e = .returned (.tuple #[.int .i64 (bestTo t s s.length : Int), .int .i64 (per (s.drop (bestTo t s s.length)) : Int)]) ∧ Drew w w' := by
  have hz := str_size s
  go_enter Try.func11, Try.ntmps11
  go_wp2
  go_loopw [6, 7] (fun a i wr => ∃ (k : Nat), (k + 1 ≤ s.length ∨ k = 0) ∧ i = .int .i64 ((k : Int) + 1) ∧ a = .int .i64 (bestTo t s (k + 1) : Int) ∧ Drew w wr) (fun _ i _ => s.length + 1 - (intOf i).toNat)
  case atStart => exact ⟨0, .inr rfl, rfl, by rw [bestTo_one]; rfl, Drew.refl _⟩
  case round =>
    obtain ⟨k, hk, rfl, rfl, hdr⟩ := hrel
    have HD := Lib.hid hdr
    clear hdr
    have hblt := bestTo_lt t s (k + 1) (by omega)
    have hst := bestTo_step t s (k + 1)
    by_cases hlt : k + 1 < s.length
    · have hkl : (k : Int) + 1 < (s.length : Int) := by omega
      have hex := Lnk.str_drop s (k + 1)
      have hex2 := Lnk.str_drop s (bestTo t s (k + 1))
      have HL := Lib.hid (fun X => rless_any X (s.drop (bestTo t s (k + 1))) (s.drop (k + 1)) (by simp; omega) (by simp; omega) t)
      generalize bestTo t s (k + 1) = A at *
      have hA : A < s.length := by omega
      have hA1 : A ≤ s.length := by omega
      have hk0 : (0 : Int) ≤ (k : Int) + 1 := by omega
      have hk1 : (k : Int) + 1 ≤ (s.length : Int) := by omega
      cases hb : less t (s.drop A) (s.drop (k + 1))
      · rw [hb] at hst HL
        have HST := Lib.hid hst
        clear hst hb
        go_wp2
        go_quiet ((go_at_call 18; exact Calls.quiet_of (HL.out _)))
        go_wp2
        exact ⟨⟨k + 1, .inl hlt, by go_num, by rw [HST.out]; rfl, HD.out.more _⟩, by simp [intOf]; omega⟩
      · rw [hb] at hst HL
        have HST := Lib.hid hst
        clear hst hb
        go_wp2
        go_quiet ((go_at_call 18; exact Calls.quiet_of (HL.out _)))
        go_wp2
        exact ⟨⟨k + 1, .inl hlt, by go_num, by rw [HST.out]; rfl, HD.out.more _⟩, by simp [intOf]; omega⟩
    · have hkl : ¬ (k : Int) + 1 < (s.length : Int) := by omega
      have hE : bestTo t s (k + 1) = bestTo t s s.length := by
        rcases hk with h | rfl
        · rw [show s.length = k + 1 by omega]
        · rcases Nat.eq_zero_or_pos s.length with h | h
          · rw [h]; exact bestTo_one t s
          · rw [show s.length = 0 + 1 by omega]
      have hA1 : bestTo t s s.length ≤ s.length := by
        rcases Nat.eq_zero_or_pos s.length with h | h
        · rw [h]; exact Nat.zero_le _
        · have := bestTo_lt t s s.length h; omega
      clear hst hblt
      rw [hE] at *
      have hex2 := Lnk.str_drop s (bestTo t s s.length)
      have HP := Lib.hid (fun X => rperiod_any X (s.drop (bestTo t s s.length)) (by simp; omega))
      clear hE
      generalize hAe : bestTo t s s.length = A at *
      have HAE := Lib.hid hAe
      clear hAe
      go_wp2_with (go_at_call 13; (with_reducible refine (HP.out _).mono ?_); rintro e w1 ⟨rfl, hd⟩)
      exact bodyPost_ret (v := .tuple #[.int .i64 (A : Int), .int .i64 (per (s.drop A) : Int)]) (by simp [results, Try.results11, go_sem]) rfl ⟨by rw [HAE.out], HD.out.trans hd⟩
/-- Numbers, as the model has them. -/
def ints (l : List Nat) : List Int := l.map fun n : Nat => (n : Int)
theorem ints_length (l : List Nat) : (ints l).length = l.length := by simp [ints]
theorem ints_append (l m : List Nat) : ints (l ++ m) = ints l ++ ints m := by simp [ints]
theorem bordTo_len (s : Tx) : ∀ k, (bordTo s k).length ≤ k
  | 0 => Nat.le_refl _
  | k + 1 => by
    have := bordTo_len s k
    rw [bordTo]
    split
    · rw [List.length_cons]; omega
    · omega
set_option maxHeartbeats 1000000 in
theorem rborders_any (w : World) (s : Tx) (hl : s.length ≤ 1000000) :
    Calls Try.prog 16 #[.string (str s)] w (Lnk.GivesInts w (ints (borders s))) := by
  have hz := str_size s
  by_cases h0 : s = []
  · subst h0
    go_enter Try.func16, Try.ntmps16
    go_wp2
    go_loopw [3, 4] (fun v i wr => v = .slice none 0 0 ∧ i = .int .i64 (-1) ∧ wr = w) (fun _ i _ => 0)
    case atStart => exact ⟨rfl, rfl, rfl⟩
    case round =>
      obtain ⟨rfl, rfl, rfl⟩ := hrel
      go_wp2
      go_ret
      exact ⟨none, 0, rfl, fun h => by simp [ints, borders_nil] at h, fun _ => rfl, Below.refl _ _⟩
  · have hp := List.length_pos_iff.2 h0
    clear h0
    go_enter Try.func16, Try.ntmps16
    go_wp2
    go_loopw [3, 4] (fun v i wr => ∃ (k : Nat) (es : List Nat), k < s.length ∧ es.length + k ≤ s.length ∧ i = .int .i64 (k : Int) ∧ es ++ bordTo s (k + 1) = borders s ∧ wr.ownsRow w.heap.size 3 1 v es.length (Lnk.ivals (ints es)) ∧ Below w.heap.size w wr) (fun _ i _ => (intOf i).toNat)
    case atStart => exact ⟨s.length - 1, [], by omega, by simp, by go_num, by rw [show s.length - 1 + 1 = s.length by omega]; rfl, World.ownsRow_nil _ _ _ _, Below.refl _ _⟩
    case round =>
      obtain ⟨k, es, hk, hel, rfl, he, hown, hbel⟩ := hrel
      have HO := Lib.hid hown
      have HB := Lib.hid hbel
      clear hown hbel
      rcases Nat.eq_zero_or_pos k with rfl | hk0
      · rw [bordTo_low, List.append_nil] at he
        have HE := Lib.hid he
        clear he
        go_wp2
        go_ret
        rw [← HE.out]
        have hown := HO.out
        rw [← ints_length es] at hown
        obtain ⟨a, cap, e, hi, hnil⟩ := Lnk.own_is hown
        exact ⟨a, cap, by rw [← e]; rfl, hi, hnil, HB.out⟩
      · rw [bordTo_step] at he
        have hkl : (0 : Int) < (k : Int) := by omega
        have hk1 : k ≤ s.length := by omega
        have hex := Tri.str_take s k
        have hex2 := Lnk.str_drop s (s.length - k)
        have hsb := Tri.str_beq (s.take k) (s.drop (s.length - k))
        by_cases hb : Bord s k
        · rw [if_pos hb] at he
          rw [decide_eq_true hb.2.2] at hsb
          have HE : Hid ((es ++ [k]) ++ bordTo s k = borders s) := Lib.hid (by rw [← he]; simp)
          clear he hb
          go_wp2
          go_quiet (fail)
          have hown : (wr.drewN nq).ownsRow w.heap.size 3 1 u3 es.length (Lnk.ivals (ints es)) := HO.out
          have hbel : Below w.heap.size w (wr.drewN nq) := below_drews HB.out nq
          generalize wr.drewN nq = w2 at *
          have HO2 := Lib.hid hown
          have HB2 := Lib.hid hbel
          have hsz := hbel.size
          clear hown hbel
          go_wp2_with (at_builtin; refine Lnk.app_is rfl _ _ rfl w.heap.size _ _ (ints es) (k : Int) rfl (HO2.out.alloc _) ⟨w2.heap.size, 0, none⟩ rfl (Lnk.cell_new_at _ _ rfl) (by omega) (by simp; omega) ?_; intro v3 w3 hown3 hg3)
          go_roundw
          case rel => exact ⟨k - 1, es ++ [k], by omega, by simp; omega, by go_num, by rw [show k - 1 + 1 = k by omega]; exact HE.out, by rw [List.length_append, ints_append]; exact hown3, (HB2.out.alloc hsz _).grown hg3 (by simp; omega) (fun q hq => own_ge HO2.out hq)⟩
          case measure => simp [intOf]; omega
        · rw [if_neg hb] at he
          rw [decide_eq_false (fun e => hb ⟨hk0, hk, e⟩)] at hsb
          have HE := Lib.hid he
          clear he hb
          go_wp2
          go_quiet (fail)
          go_wp2
          go_roundw
          case rel => exact ⟨k - 1, es, by omega, by omega, by go_num, by rw [show k - 1 + 1 = k by omega]; exact HE.out, HO.out, below_drews HB.out _⟩
          case measure => simp [intOf]; omega
end Go.Proofs.Ytpknaobmchmpdaa.Suf
