/- Contracts of the reference: Fail, Out, Ends, Same. -/
import Derived.Test.YtcknipokplomcaaLBase
import Derived.Test.YtcknipokplomcaaTh
namespace Go.Proofs.Ytcknipokplomcaa.Lnk
open Go.RowKit Go.Maps Go.Proofs.Ytcknipokplomcaa.Tri

theorem str_drop (x : Tx) (k : Nat) : (str x).extract k x.length = str (x.drop k) := by
  unfold str
  rw [ByteArray.extract_mk]
  congr 1
  show (List.take (x.length - k) (x.drop k)).toArray = _
  rw [List.take_of_length_le (by simp)]
theorem drop_at (s : Tx) (k : Nat) (h : k < s.length) : s.drop k = s[k] :: s.drop (k + 1) := List.drop_eq_getElem_cons h
set_option maxHeartbeats 1000000 in
theorem rfail_any (w : World) (ps : List Tx) (a : Option Addr) (cap : Nat) (hs : Ss w a ps) (hl : ps.length ≤ 1000000000) (s : Tx) (hsl : s.length ≤ 1000000) :
    Calls Try.prog 14 #[.slice a ps.length cap, .string (str s)] w fun e w' => e = .returned (.int .i64 (failOf ps s)) ∧ w = w' := by
  have HP := Lib.hid (place_any w ps a cap hs hl)
  have hz := str_size s
  clear hs
  go_enter Try.func14, Try.ntmps14
  go_wp2
  go_loop [5] (fun v => ∃ k : Nat, k ≤ s.length ∧ v = .int .i64 ((k : Int) + 1) ∧ failOf ps (s.drop k) = failOf ps s) (fun v => s.length + 1 - (intOf v).toNat)
  case atStart => exact ⟨0, Nat.zero_le _, rfl, rfl⟩
  case round =>
    obtain ⟨k, hk, rfl, he⟩ := hrel
    by_cases hlt : k < s.length
    · have hkl : (k : Int) + 1 ≤ (s.length : Int) := by omega
      rw [drop_at s k hlt, failOf] at he
      have hex := str_drop s (k + 1)
      have HPL := Lib.hid (HP.out (s.drop (k + 1)))
      by_cases hm : s.drop (k + 1) ∈ ps
      · rw [if_pos hm] at he
        have h0 := (place_nonneg ps _).2 hm
        have HE := Lib.hid he
        clear he hm
        generalize s.drop (k + 1) = y at *
        generalize place ps y = z at *
        go_wp2_with (go_at_call 31; (with_reducible refine HPL.out.mono ?_); rintro e w1 ⟨rfl, rfl⟩)
        go_ret
        exact ⟨ret_int HE.out, rfl⟩
      · rw [if_neg hm] at he
        have h0 := (place_neg ps _).2 hm
        have HE := Lib.hid he
        clear he hm
        generalize place ps (s.drop (k + 1)) = z at *
        go_wp2_with (go_at_call 31; (with_reducible refine HPL.out.mono ?_); rintro e w1 ⟨rfl, rfl⟩)
        go_round
        case rel => exact ⟨k + 1, by omega, by go_num, HE.out⟩
        case measure => simp [intOf]; omega
    · obtain rfl : k = s.length := by omega
      rw [List.drop_length, fail_nil] at he
      have HE := Lib.hid he
      clear he
      go_wp2
      go_ret
      exact ⟨ret_int HE.out, rfl⟩
set_option maxHeartbeats 1000000 in
theorem rout_any (w : World) (ps l : List Tx) (a b : Option Addr) (cap cb : Nat) (hs : Ss w a ps) (hl : ps.length ≤ 1000000000) (ht : Ss w b l) (hll : l.length ≤ 1000000000) (s : Tx) (hsl : s.length ≤ 1000000) :
    Calls Try.prog 16 #[.slice a ps.length cap, .slice b l.length cb, .string (str s)] w fun e w' => e = .returned (.int .i64 (outOf ps l s)) ∧ w = w' := by
  have HP := Lib.hid (place_any w ps a cap hs hl)
  have HL := Lib.hid (place_any w l b cb ht hll)
  have hz := str_size s
  clear hs ht
  go_enter Try.func16, Try.ntmps16
  go_wp2
  go_loop [7] (fun v => ∃ k : Nat, k ≤ s.length ∧ v = .int .i64 ((k : Int) + 1) ∧ outOf ps l (s.drop k) = outOf ps l s) (fun v => s.length + 1 - (intOf v).toNat)
  case atStart => exact ⟨0, Nat.zero_le _, rfl, rfl⟩
  case round =>
    obtain ⟨k, hk, rfl, he⟩ := hrel
    by_cases hlt : k + 1 < s.length
    · have hkl : (k : Int) + 1 < (s.length : Int) := by omega
      rw [drop_at s k (by omega), outOf] at he
      have hne : s.drop (k + 1) ≠ [] := fun e => by have := congrArg List.length e; simp at this; omega
      have hex := str_drop s (k + 1)
      have HPL := Lib.hid (HP.out (s.drop (k + 1)))
      have HPP := Lib.hid (HL.out (s.drop (k + 1)))
      by_cases hm : s.drop (k + 1) ∈ l
      · rw [if_pos ⟨hne, hm⟩] at he
        have h0 := (place_nonneg l _).2 hm
        have HE := Lib.hid he
        clear he hm hne
        generalize s.drop (k + 1) = y at *
        generalize place l y = z at *
        generalize place ps y = z2 at *
        go_wp2_with (first
          | (go_at_call 31; (with_reducible refine HPP.out.mono ?_); rintro e w1 ⟨rfl, rfl⟩)
          | (go_at_call 31; (with_reducible refine HPL.out.mono ?_); rintro e w1 ⟨rfl, rfl⟩))
        go_ret
        exact ⟨ret_int HE.out, rfl⟩
      · rw [if_neg (fun e => hm e.2)] at he
        have h0 := (place_neg l _).2 hm
        have HE := Lib.hid he
        clear he hm hne HPL
        generalize place l (s.drop (k + 1)) = z at *
        go_wp2_with (go_at_call 31; (with_reducible refine HPP.out.mono ?_); rintro e w1 ⟨rfl, rfl⟩)
        go_round
        case rel => exact ⟨k + 1, by omega, by go_num, HE.out⟩
        case measure => simp [intOf]; omega
    · have hkl : ¬ (k : Int) + 1 < (s.length : Int) := by omega
      have HE : Hid (outOf ps l s = -1) := Lib.hid (by
        rw [← he]
        by_cases h1 : k = s.length
        · rw [h1, List.drop_length]; rfl
        · rw [drop_at s k (by omega), List.drop_of_length_le (by omega), outOf, if_neg (fun e => e.1 rfl)]; rfl)
      clear he
      go_wp2
      go_ret
      exact ⟨ret_int HE.out.symm, rfl⟩
set_option maxHeartbeats 1000000 in
theorem rends_any (w : World) (l : List Tx) (b : Option Addr) (cb : Nat) (ht : Ss w b l) (hll : l.length ≤ 1000000000) (s : Tx) (hsl : s.length ≤ 1000000) :
    Calls Try.prog 12 #[.slice b l.length cb, .string (str s)] w (GivesInts w (endsOf l s)) := by
  have HT := Lib.hid ht
  have hz := str_size s
  clear ht
  go_enter Try.func12, Try.ntmps12
  go_wp2
  go_loopw [5, 6] (fun v i wr => ∃ (k : Nat) (es : List Int), k ≤ s.length ∧ es.length ≤ k ∧ i = .int .i64 (k : Int) ∧ es ++ endsOf l (s.drop k) = endsOf l s ∧ wr.ownsRow w.heap.size 3 1 v es.length (ivals es) ∧ Below w.heap.size w wr) (fun _ i _ => s.length - (intOf i).toNat)
  case atStart => exact ⟨0, [], Nat.zero_le _, Nat.le_refl _, rfl, rfl, World.ownsRow_nil _ _ _ _, Below.refl _ _⟩
  case round =>
    obtain ⟨k, es, hk, hel, rfl, he, hown, hbel⟩ := hrel
    by_cases hlt : k < s.length
    · have hkl : (k : Int) < (s.length : Int) := by omega
      have HDA := Lib.hid (drop_at s k hlt)
      rw [HDA.out, endsOf, ← HDA.out] at he
      have hex := str_drop s k
      have HPL := Lib.hid (place_any wr l b cb (HT.out.keep hbel) hll (s.drop k))
      have HO := Lib.hid hown
      have HB := Lib.hid hbel
      have hsz := hbel.size
      clear hown hbel
      by_cases hm : s.drop k ∈ l
      · rw [if_pos hm] at he
        have h0 := (place_nonneg l _).2 hm
        have HE : Hid ((es ++ [(s.length : Int) - (k : Int)]) ++ endsOf l (s.drop (k + 1)) = endsOf l s) := Lib.hid (by
          rw [← he]
          have e1 : ((s.drop (k + 1)).length : Int) + 1 = (s.length : Int) - (k : Int) := by simp; omega
          rw [e1]
          simp)
        clear he hm
        generalize place l (s.drop k) = z at *
        go_wp2_with (first
          | (go_at_call 31; (with_reducible refine HPL.out.mono ?_); rintro e w1 ⟨rfl, rfl⟩)
          | (at_builtin; refine app_is rfl _ _ rfl w.heap.size _ _ es ((s.length : Int) - (k : Int)) rfl (HO.out.alloc _) ⟨wr.heap.size, 0, none⟩ rfl (cell_new_at _ _ rfl) (by omega) (by simp; omega) ?_; intro v3 w3 hown3 hg3))
        go_roundw
        case rel => exact ⟨k + 1, es ++ [(s.length : Int) - (k : Int)], by omega, by simp; omega, by go_num, HE.out, by rw [List.length_append]; exact hown3, (HB.out.alloc hsz _).grown hg3 (by simp; omega) (fun q hq => own_ge HO.out hq)⟩
        case measure => simp [intOf]; omega
      · rw [if_neg hm] at he
        have h0 := (place_neg l _).2 hm
        have HE := Lib.hid he
        clear he hm
        generalize place l (s.drop k) = z at *
        go_wp2_with (go_at_call 31; (with_reducible refine HPL.out.mono ?_); rintro e w1 ⟨rfl, rfl⟩)
        go_roundw
        case rel => exact ⟨k + 1, es, by omega, by omega, by go_num, HE.out, HO.out, HB.out⟩
        case measure => simp [intOf]; omega
    · obtain rfl : k = s.length := by omega
      rw [List.drop_length] at he
      have HE : Hid (es = endsOf l s) := Lib.hid (by rw [← he]; simp [endsOf])
      have HO := Lib.hid hown
      have HB := Lib.hid hbel
      clear hown hbel he
      go_wp2
      go_ret
      obtain ⟨a, cap, e, hi, hnil⟩ := own_is HO.out
      rw [HE.out] at e hi
      exact ⟨a, cap, by rw [← e]; rfl, hi, hnil, HB.out⟩
theorem ib_eq (x y : Int) : (x != y) = decide (x ≠ y) := by
  rw [Bool.eq_iff_iff]; simp
set_option maxHeartbeats 1000000 in
/-- Same leaves what is there as it is: it draws alone. -/
theorem isame_any (w : World) (xs ys : List Int) (a b : Option Addr) (ca cb B : Nat) (hx : Is w B a xs) (hy : Is w B b ys) (hl : xs.length ≤ 1000000000) (hl2 : ys.length ≤ 1000000000) :
    Calls Try.prog 17 #[.slice a xs.length ca, .slice b ys.length cb] w fun e w' => e = .returned (.bool (decide (xs = ys))) ∧ ∃ q, w' = w.drewN q := by
  by_cases hlen : xs.length = ys.length
  · have hne : ((xs.length : Int) != (ys.length : Int)) = false := by rw [ib_eq]; simp; omega
    have HX := Lib.hid hx
    have HY := Lib.hid hy
    have HLE := Lib.hid hlen
    clear hx hy hlen
    go_enter Try.func17, Try.ntmps17
    go_wp2
    go_loopw [5] (fun i wr => ∃ (k q : Nat), k ≤ xs.length ∧ i = .int .i64 (k : Int) ∧ (∀ j (h1 : j < xs.length) (h2 : j < ys.length), j < k → xs[j] = ys[j]) ∧ wr = w.drewN q) (fun i _ => xs.length - (intOf i).toNat)
    case atStart => exact ⟨0, 0, Nat.zero_le _, rfl, fun j _ _ h => by omega, rfl⟩
    case round =>
      obtain ⟨k, q, hk, rfl, hall, rfl⟩ := hrel
      have HA := Lib.hid hall
      clear hall
      by_cases hlt : k < xs.length
      · have hlt2 : k < ys.length := by have := HLE.out; omega
        obtain ⟨b1, o1, rfl, hb1, hc1⟩ := HX.out (by omega)
        obtain ⟨b2, o2, rfl, hb2, hc2⟩ := HY.out (by omega)
        have hk1 : w.cell? ⟨b1, o1 + k, none⟩ = some (.int .i64 xs[k]) := hc1 k hlt
        have hk2 : w.cell? ⟨b2, o2 + k, none⟩ = some (.int .i64 ys[k]) := hc2 k hlt2
        have hkl : (k : Int) < (xs.length : Int) := by omega
        have hkl2 : (k : Int) < (ys.length : Int) := by omega
        have hk1 : (w.drewN q).cell? ⟨b1, o1 + k, none⟩ = some (.int .i64 xs[k]) := hk1
        have hk2 : (w.drewN q).cell? ⟨b2, o2 + k, none⟩ = some (.int .i64 ys[k]) := hk2
        clear hc1 hc2
        by_cases he : xs[k] = ys[k]
        · have hd : (xs[k] != ys[k]) = false := by rw [ib_eq]; simp [he]
          have HE := Lib.hid he
          clear he
          go_wp2
          go_quiet (fail)
          go_wp2
          exact ⟨⟨k + 1, q + nq, by omega, by go_num, fun j h1 h2 hj => by
            by_cases hjk : j = k
            · subst hjk; exact HE.out
            · exact HA.out j h1 h2 (by omega), rfl⟩, by simp [intOf]; omega⟩
        · have hd : (xs[k] != ys[k]) = true := by rw [ib_eq]; simp [he]
          have HE : Hid (decide (xs = ys) = false) := Lib.hid (decide_eq_false fun e => he (by subst e; rfl))
          clear he
          go_wp2
          go_quiet (fail)
          go_wp2
          go_ret
          exact ⟨ret_bool HE.out.symm, q + nq, by simp⟩
      · have HE : Hid (decide (xs = ys) = true) := Lib.hid (decide_eq_true (List.ext_getElem HLE.out fun j h1 h2 => HA.out j h1 h2 (by omega)))
        go_wp2
        go_ret
        exact ⟨ret_bool HE.out.symm, q, rfl⟩
  · have hne : ((xs.length : Int) != (ys.length : Int)) = true := by rw [ib_eq]; simp; omega
    have HE : Hid (decide (xs = ys) = false) := Lib.hid (decide_eq_false fun e => hlen (by rw [e]))
    clear hx hy hlen
    go_enter Try.func17, Try.ntmps17
    go_wp2
    go_ret
    exact ⟨ret_bool HE.out.symm, 0, rfl⟩
end Go.Proofs.Ytcknipokplomcaa.Lnk
