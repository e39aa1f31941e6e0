/- Options: the reference's Read. -/
import Derived.Test.YtjccnhipdhpkoaaOptB
namespace Go.Proofs.Ytjccnhipdhpkoaa.Opt
open Go.RowKit
set_option maxRecDepth 100000

theorem close_bad {r : RS} (h : r.bad = true) : (close r).bad = true := by
  unfold close
  split
  · exact h
  · split
    · exact h
    · rfl
theorem step_bad {r : RS} (h : r.bad = true) (c : UInt8) : (step r c).bad = true := by
  unfold step
  split
  · exact close_bad h
  · exact h
theorem go_bad : ∀ (s : Tx) (r : RS), r.bad = true → (go r s).bad = true
  | [], _, h => h
  | c :: s, r, h => go_bad s (step r c) (step_bad h c)
theorem go_take (t : Tx) (k : Nat) (c : UInt8) (h : t[k]? = some c) (r : RS) : go r (t.take (k + 1)) = step (go r (t.take k)) c := by
  rw [List.take_add_one, h, go_append]; rfl
theorem go_bad_all (t : Tx) (k : Nat) (r : RS) (h : (go r (t.take k)).bad = true) : (go r t).bad = true := by
  have e : go r t = go (go r (t.take k)) (t.drop k) := by rw [← go_append, List.take_append_drop]
  rw [e]
  exact go_bad _ _ h
/-- The first k of the letters of a word joined to options. -/
def orTo (o : List Bool) (w : Tx) (k : Nat) : List Bool := (orL o (lettersIn w)).take k ++ o.drop k
theorem orTo_len {o : List Bool} (h : o.length = 7) (w : Tx) {k : Nat} (hk : k ≤ 7) : (orTo o w k).length = 7 := by
  unfold orTo
  rw [List.length_append, List.length_take, List.length_drop, orL_len h (lettersIn_len w), h]
  omega
theorem orTo_zero (o : List Bool) (w : Tx) : orTo o w 0 = o := by simp [orTo]
theorem orTo_all {o : List Bool} (h : o.length = 7) (w : Tx) : orTo o w 7 = orL o (lettersIn w) := by
  unfold orTo
  rw [List.take_of_length_le (by rw [orL_len h (lettersIn_len w)]; omega), List.drop_eq_nil_of_le (by omega), List.append_nil]
theorem orTo_get {o : List Bool} (h : o.length = 7) (w : Tx) {k : Nat} {b : Bool} (hb : o[k]? = some b) : (orTo o w k)[k]? = some b := by
  have hk : k < 7 := by have := (List.getElem?_eq_some_iff.1 hb).1; omega
  unfold orTo
  rw [List.getElem?_append_right (by rw [List.length_take]; omega), List.length_take, orL_len h (lettersIn_len w), show min k 7 = k by omega, Nat.sub_self, List.getElem?_drop]
  exact hb
theorem orTo_next {o : List Bool} (h : o.length = 7) (w : Tx) {k : Nat} {b : Bool} {c : UInt8} (hb : o[k]? = some b) (hc : letters[k]? = some c) : (orTo o w k).set k (b || has w c) = orTo o w (k + 1) := by
  have hk : k < 7 := by have := (List.getElem?_eq_some_iff.1 hb).1; omega
  have hx : (orL o (lettersIn w))[k]? = some (b || has w c) := by
    unfold orL lettersIn
    rw [List.getElem?_zipWith, hb, List.getElem?_map, hc]
    rfl
  have hl : ((orL o (lettersIn w)).take k).length = k := by rw [List.length_take, orL_len h (lettersIn_len w)]; omega
  unfold orTo
  rw [List.set_append_right _ _ (by omega), hl, Nat.sub_self, List.take_add_one, hx]
  have hd : o.drop k = b :: o.drop (k + 1) := by
    have hlt : k < o.length := by omega
    rw [List.drop_eq_getElem_cons hlt]
    congr 1
    rw [List.getElem?_eq_getElem hlt] at hb
    exact Option.some.inj hb
  rw [hd]
  simp
/-- A call that hands out seven bools in new memory, or none. -/
def GivesRR (w : World) (r : Option (List Bool)) (e : Ending) (w' : World) : Prop :=
  (match r with
   | some l => ∃ x, e = .returned (.tuple #[.slice (some ⟨x, 0, none⟩) 7 7, .bool true]) ∧ w.heap.size ≤ x ∧ Bb w' x l
   | none => e = .returned (.tuple #[.slice none 0 0, .bool false])) ∧ Below w.heap.size w w'
theorem und28 : Try.prog.underlying 28 = some (.slice 4) := by kernel_rfl
theorem info4 : (Try.prog.info? 4).map (fun i => (i.zero, i.size, i.bytes)) = some (some (.bool false), 1, 1) := by kernel_rfl

theorem make7 (W : World) : (Instr.makeSlice 28 (.int .i64 7) (.int .i64 7)).run Try.prog W = .ok (.slice (some ⟨W.heap.size, 0, none⟩) 7 7) (W.alloc (.cells #[.bool false, .bool false, .bool false, .bool false, .bool false, .bool false, .bool false] 4)) := by
  obtain ⟨i0, hi, hz0, hz1, hz2⟩ := info_parts info4
  have h := run_make (P := Try.prog) W 28 4 i0 (.bool false) und28 hi hz0 .i64 .i64 7 7 (by decide) (by decide) (by rw [hz2]; decide) (by decide)
  rw [hz1] at h
  rw [h]
  have e : madeCells (Value.bool false).cells ((7 : Int).toNat * 1) = #[Value.bool false, Value.bool false, Value.bool false, Value.bool false, Value.bool false, Value.bool false, Value.bool false] := by
    apply Array.ext'
    rw [show (Value.bool false).cells = #[Value.bool false] from rfl, toList_madeCells_one]
    rfl
  rw [e]
  rfl
set_option maxHeartbeats 2000000 in
theorem rread_any (s : Tx) (hs : s.length ≤ 100000000) (w : World) : Calls Try.prog 10 #[.string (str s)] w (GivesRR w (readO s)) := by
  obtain ⟨t, ht⟩ : ∃ t, s ++ [32] = t := ⟨_, rfl⟩
  have htl : t.length = s.length + 1 := by rw [← ht]; simp
  have HA := Lib.hid (show str s ++ ⟨#[32]⟩ = str t by rw [← ht]; exact str_add s [32])
  have HR : Hid (readO s = if (go start t).bad then none else some (go start t).out) := Lib.hid (by rw [← ht]; rfl)
  have hz := str_size s
  have hzt := str_size t
  have HTL := Lib.hid htl
  have HA2 := HA.out
  clear ht htl
  go_enter Try.func10, Try.ntmps10
  have hmk := make7
  go_wp2
  go_loopg [6, 8, 9, 10] t.length (fun gf s6 s8 s9 s10 wx => ∃ k : Nat, ∃ wd : Tx, ∃ o : List Bool, k + gf = t.length ∧ s8 = .int .i64 k ∧ s6 = .string (str wd) ∧ go start (t.take k) = ⟨wd, o, false⟩ ∧ wd.length ≤ k ∧ o.length = 7 ∧ Bb wx w.heap.size o ∧ Below w.heap.size w wx)
  case atStart => exact ⟨0, [], none7, by simp, rfl, rfl, rfl, Nat.le_refl _, rfl, heap_alloc_new w _, (Below.refl _ _).alloc (Nat.le_refl _) _⟩
  case round =>
    obtain ⟨k, wd, o, hk, rfl, rfl, hgo, hwl, ho7, hbb, hbel⟩ := hrel
    cases gk with
    | succ gf =>
      have hlt : k < t.length := by omega
      obtain ⟨c, hc⟩ : ∃ c, t[k]? = some c := ⟨_, List.getElem?_eq_getElem hlt⟩
      have hix : (str t)[k]'(by rw [hzt]; exact hlt) = c := by
        rw [str_at t k hlt]
        rw [List.getElem?_eq_getElem hlt] at hc
        exact Option.some.inj hc
      have HGO := Lib.hid (go_take t k c hc start)
      have HBAD := Lib.hid (go_bad_all t (k + 1) start)
      have HG0 := Lib.hid hgo
      have HO7 := Lib.hid ho7
      have HC := Lib.hid hc
      have hzw := str_size wd
      have hzl := HTL.out
      have hli : (k : Int) < (t.length : Int) := by omega
      clear hgo ho7
      by_cases h32 : c = 32
      · subst h32
        have hq : (((32 : UInt8).toNat : Int) != 32) = false := rfl
        have HST : Hid (go start (t.take (k + 1)) = close ⟨wd, o, false⟩) := Lib.hid (by rw [HGO.out, HG0.out]; rfl)
        cases wd with
        | nil =>
          have hem : (str ([] : Tx)).toList.isEmpty = true := by rw [str_list]; rfl
          go_wp2
          go_roundg gf
          case rel => exact ⟨k + 1, [], o, by omega, by go_num, rfl, by rw [HST.out]; rfl, Nat.zero_le _, HO7.out, hbb, hbel⟩
          case measure => omega
        | cons d r =>
          have hem : (str (d :: r)).toList.isEmpty = false := by rw [str_list]; rfl
          have hd0 : (str (d :: r))[0]'(by rw [hzw]; simp) = d := by rw [str_at _ 0 (by simp)]; rfl
          have HBD : Hid (okW (d :: r) = false → ∀ X, Below w.heap.size w X → GivesRR w (readO s) (.returned (.tuple #[.slice none 0 0, .bool false])) X) := Lib.hid fun h X hX => by
            have h1 : readO s = none := by rw [HR.out, HBAD.out (by rw [HST.out]; simp [close, h]), if_pos rfl]
            rw [h1]
            exact ⟨rfl, hX⟩
          by_cases hd : d = 45
          · subst hd
            have hdq : (((45 : UInt8).toNat : Int) != 45) = false := rfl
            cases r with
            | nil =>
              go_wp2
              exact bodyPost_ret (v := .tuple #[.slice none 0 0, .bool false]) (by simp [results, Try.results10, go_sem]) rfl (HBD.out rfl wr hbel)
            | cons d1 r1 =>
              obtain ⟨W, hW⟩ : ∃ W, W = 45 :: d1 :: r1 := ⟨_, rfl⟩
              have HOK : Hid (okW W = (W.drop 1).all fun x => letters.contains x) := Lib.hid (by rw [hW]; rfl)
              have hw2 : 2 ≤ W.length := by rw [hW]; simp
              have HNE : Hid (W ≠ []) := Lib.hid (by rw [hW]; simp)
              clear hd0 hzw
              have hzw := str_size W
              have hd0 : (str W)[0]'(by rw [hzw]; omega) = 45 := by rw [str_at W 0 (by omega)]; simp [hW]
              rw [← hW] at HBD HST hem hwl
              rw [← hW]
              clear hW
              have hn2 : ¬ ((W.length : Int) < 2) := by omega
              go_wp2
              go_loopg [9] (W.length - 1) (fun gf2 s9 wx => ∃ j : Nat, 1 ≤ j ∧ j + gf2 = W.length ∧ s9 = .int .i64 j ∧ (((W.take j).drop 1).all fun x => letters.contains x) = true ∧ wx = wr)
              case atStart => exact ⟨1, Nat.le_refl _, by omega, rfl, by simp, rfl⟩
              case round =>
                obtain ⟨j, hj1, hj, rfl, hal, rfl⟩ := hrel
                cases gk with
                | succ gf2 =>
                  have hlj : j < W.length := by omega
                  have hlji : (j : Int) < (W.length : Int) := by omega
                  have hixj := str_at W j hlj
                  obtain ⟨e, he⟩ : ∃ e, W[j] = e := ⟨_, rfl⟩
                  have hej : W[j]? = some e := by rw [List.getElem?_eq_getElem hlj, he]
                  rw [he] at hixj
                  have C1 : Hid (∀ X, Calls Try.prog 21 #[.string LIT, .int .u8 (e.toNat : Int)] X fun r w' => r = .returned (.bool (has letters e)) ∧ w' = X) := Lib.hid fun X => rin_any letters e X (by decide)
                  have HNX : Hid (((W.take (j + 1)).drop 1).all (fun x => letters.contains x) = (((W.take j).drop 1).all (fun x => letters.contains x) && has letters e)) := Lib.hid (by
                    rw [List.take_add_one, hej, List.drop_append_of_le_length (by rw [List.length_take]; omega), List.all_append]
                    simp [has])
                  have HAL := Lib.hid hal
                  have HBB : Hid (has letters e = false → okW W = false) := Lib.hid fun h => by
                    rw [HOK.out]
                    apply Bool.eq_false_iff.2
                    intro h2
                    have hm : e ∈ W.drop 1 := by
                      have : (W.drop 1)[j - 1]? = some e := by rw [List.getElem?_drop, show 1 + (j - 1) = j by omega]; exact hej
                      exact List.mem_of_getElem? this
                    have := List.all_eq_true.1 h2 e hm
                    unfold has at h
                    rw [h] at this; cases this
                  clear hal he hej
                  cases hh : has letters e
                  · go_wp2_with (go_at_call 21; (with_reducible refine (C1.out _).mono ?_); rintro r X ⟨rfl, rfl⟩; rw [hh])
                    exact bodyPost_ret (v := .tuple #[.slice none 0 0, .bool false]) (by simp [results, Try.results10, go_sem]) rfl (HBD.out (HBB.out hh) _ hbel)
                  · go_wp2_with (go_at_call 21; (with_reducible refine (C1.out _).mono ?_); rintro r X ⟨rfl, rfl⟩; rw [hh])
                    go_roundg gf2
                    case rel => exact ⟨j + 1, by omega, by omega, by go_num, by rw [HNX.out, HAL.out, hh]; rfl, rfl⟩
                    case measure => omega
                | zero =>
                  obtain rfl : j = W.length := by omega
                  have hnj : ¬ ((W.length : Int) < (W.length : Int)) := by omega
                  rw [List.take_length] at hal
                  have HWOK : Hid (okW W = true) := Lib.hid (by rw [HOK.out]; exact hal)
                  clear hal
                  go_wp2
                  go_loopg [10] 7 (fun gf3 s10 wx => ∃ j : Nat, j + gf3 = 7 ∧ s10 = .int .i64 j ∧ Bb wx w.heap.size (orTo o W j) ∧ Below w.heap.size w wx)
                  case atStart => exact ⟨0, rfl, rfl, by rw [orTo_zero]; exact hbb, hbel⟩
                  case round =>
                    obtain ⟨j, hj, rfl, hb2, hbe2⟩ := hrel
                    cases gk with
                    | succ gf3 =>
                      have hj7 : j < 7 := by omega
                      have hji : (j : Int) < 7 := by omega
                      obtain ⟨b, hob⟩ : ∃ b, o[j]? = some b := ⟨_, List.getElem?_eq_getElem (by rw [HO7.out]; exact hj7)⟩
                      obtain ⟨c1, hc1⟩ : ∃ c1, letters[j]? = some c1 := ⟨_, List.getElem?_eq_getElem hj7⟩
                      have hcl := hb2.cell (orTo_get HO7.out W hob)
                      have hfr := hb2.free j
                      have hixl : LIT[j]'(by show j < 7; exact hj7) = c1 := by
                        have e1 := str_at letters j hj7
                        have e2 : letters[j]'hj7 = c1 := by rw [List.getElem?_eq_getElem hj7] at hc1; exact Option.some.inj hc1
                        exact e1.trans e2
                      have C1 : Hid (∀ X, Calls Try.prog 21 #[.string (str W), .int .u8 (c1.toNat : Int)] X fun r w' => r = .returned (.bool (has W c1)) ∧ w' = X) := Lib.hid fun X => rin_any W c1 X (by have := HTL.out; omega)
                      have HN := Lib.hid (orTo_next HO7.out W hob hc1)
                      have HB2 := Lib.hid hb2
                      clear hob hc1 hb2
                      cases b
                      · go_wp2_with (go_at_call 21; (with_reducible refine (C1.out _).mono ?_); rintro r X ⟨rfl, rfl⟩)
                        go_roundg gf3
                        case rel => exact ⟨j + 1, by omega, by go_num, by rw [← HN.out]; exact HB2.out.set j _, hbe2.setCell (Nat.le_refl _) _⟩
                        case measure => omega
                      · go_wp2_with (go_at_call 21; (with_reducible refine (C1.out _).mono ?_); rintro r X ⟨rfl, rfl⟩)
                        go_roundg gf3
                        case rel => exact ⟨j + 1, by omega, by go_num, by rw [← HN.out]; exact HB2.out.set j _, hbe2.setCell (Nat.le_refl _) _⟩
                        case measure => omega
                    | zero =>
                      obtain rfl : j = 7 := by omega
                      rw [orTo_all HO7.out W] at hb2
                      go_wp2
                      go_roundg gf
                      case rel => exact ⟨k + 1, [], orL o (lettersIn W), by omega, by go_num, rfl, by rw [HST.out]; simp [close, HNE.out, HWOK.out], Nat.zero_le _, orL_len HO7.out (lettersIn_len W), hb2, hbe2⟩
                      case measure => omega
          · have hdq : ((d.toNat : Int) != 45) = true := by
              rw [show (45 : Int) = ((45 : UInt8).toNat : Int) from rfl, bne, u8_eq, decide_eq_false hd]; rfl
            have ho : okW (d :: r) = false := by
              cases r with
              | nil => rfl
              | cons d1 r1 => simp [okW, hd]
            go_wp2
            exact bodyPost_ret (v := .tuple #[.slice none 0 0, .bool false]) (by simp [results, Try.results10, go_sem]) rfl (HBD.out ho wr hbel)
      · have hq : ((c.toNat : Int) != 32) = true := by
          rw [show (32 : Int) = ((32 : UInt8).toNat : Int) from rfl, bne, u8_eq, decide_eq_false h32]; rfl
        have hsl : ∀ W, (Instr.slice 9 (.string (str t)) (some (.int .i64 (k : Int))) (some (.int .i64 ((k : Int) + 1))) none).run Try.prog W = .ok (.string (str [c])) W := fun W => slice_one t k c hc W
        have hz1 : (str [c]).size = 1 := str_size _
        have HAD := Lib.hid (str_add wd [c])
        have H32 := Lib.hid h32
        clear hc h32
        go_wp2
        go_roundg gf
        case rel =>
          refine ⟨k + 1, wd ++ [c], o, by omega, by go_num, congrArg Value.string HAD.out, ?_, by simp; omega, HO7.out, hbb, hbel⟩
          rw [HGO.out, HG0.out]
          simp [step, H32.out]
        case measure => omega
    | zero =>
      obtain rfl : k = t.length := by omega
      have hni : ¬ ((t.length : Int) < (t.length : Int)) := by omega
      have HG0 := Lib.hid hgo
      clear hgo
      go_wp2
      have hg := HG0.out
      rw [List.take_length] at hg
      refine bodyPost_ret (v := .tuple #[.slice (some ⟨w.heap.size, 0, none⟩) 7 7, .bool true]) (by simp [results, Try.results10, go_sem]) rfl ?_
      have hr : readO s = some o := by rw [HR.out, hg]; rfl
      rw [hr]
      exact ⟨⟨w.heap.size, rfl, Nat.le_refl _, hbb⟩, hbel⟩
end Go.Proofs.Ytjccnhipdhpkoaa.Opt
