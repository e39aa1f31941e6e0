/- The walk of PairsOnce. -/
import Derived.Test.YthcmioobldpbjaaPh
namespace Go.Proofs.Ythcmioobldpbjaa.pairsOnce
open Go.RowKit
attribute [local go_sem ↓] eql_pairs neq_pairs

/-- Whether a pair is there. -/
def has (l : List Pr) (p : Pr) : Bool := l.any fun y => decide (y = p)
theorem has_snoc (l : List Pr) (p : Pr) (c : Nat) (h : c < l.length) : has (l.take (c + 1)) p = (has (l.take c) p || decide (l[c] = p)) := by
  unfold has; rw [List.take_succ_eq_append_getElem h, List.any_append]; simp
theorem has_mem {l : List Pr} {p : Pr} (h : p ∈ l) : has l p = true := by
  unfold has; rw [List.any_eq_true]; exact ⟨p, h, by simp⟩
def hasr (l : List Pr) (p : Pr) : Bool := l.any fun y => decide (p = y)
theorem hasr_snoc (l : List Pr) (p : Pr) (c : Nat) (h : c < l.length) : hasr (l.take (c + 1)) p = (hasr (l.take c) p || decide (p = l[c])) := by
  unfold hasr; rw [List.take_succ_eq_append_getElem h, List.any_append]; simp
theorem hasr_mem {l : List Pr} {p : Pr} (h : p ∈ l) : hasr l p = true := by
  unfold hasr; rw [List.any_eq_true]; exact ⟨p, h, by simp⟩
theorem rising_yes (xs : List Pr) (h : rising xs = true) (a : Option Addr) (ca : Nat) (w : World) (hl : xs.length ≤ 1000000000) (hx : Ps w w.heap.size a xs) :
    Calls Try.prog 14 #[.slice a xs.length ca] w fun e w' => e = .returned (.bool true) ∧ Below w.heap.size w w' := by
  have := rising_any xs a ca w hl hx
  rwa [h] at this
set_option maxRecDepth 100000 in
set_option maxHeartbeats 4000000 in
theorem small (W : World) (l : List Pr) (a0 : Option Addr) (c0 : Nat) (hc0 : l.length ≤ c0) (hn0 : a0 = none → c0 = 0) (hp0 : Ps W W.heap.size a0 l) (h0 : l.length ≤ 60) :
    Calls Try.prog 5 #[.slice a0 l.length c0] W fun e w' => e = .returned (.bool true) ∧ Below W.heap.size W w' := by
  have P0 := Lib.hid hp0
  have N0 := Lib.hid hn0
  have hd0 : decide (60 < (l.length : Int)) = false := by simp; omega
  have LM := norm_length l
  have R1 := Lib.hid (rising_of_rise _ (rise_norm l))
  have R2 := Lib.hid (norm_norm l)
  have R3 := Lib.hid (norm_more l)
  have ML := Lib.hid (fun p => mem_norm p l)
  obtain ⟨m, hm⟩ : ∃ m, m = norm l := ⟨_, rfl⟩
  rw [← hm] at LM R1 R2 R3 ML
  have HM := Lib.hid hm
  have l2 : (norm m).length ≤ 60 := by rw [R2.out]; omega
  have l3 : (norm (l ++ m)).length ≤ 60 := by rw [R3.out]; omega
  have hd1 : decide (l.length < m.length) = false := by simp; omega
  clear hp0 hn0 hm
  go_enter Try.func5, Try.ntmps5
  go_wp2_with (first
    | (go_at_call 8; ((with_reducible refine (awake_any W).mono ?_)); rintro e w1 ⟨rfl, hb1⟩)
    | (go_at_call 12; ((with_reducible refine (sort_all l a0 c0 w1 (by omega) (P0.out.keeps hb1) hc0 N0.out).mono ?_)); rw [← HM.out]; rintro e w2 ⟨A2, C2, rfl, e21, e22, e23, hb2⟩; have b2 := hb1.trans (hb2.mono hb1.size); have N2 := Lib.hid e22; have P2 := Lib.hid e23; clear e22 e23)
    | (go_at_call 14; ((with_reducible refine (rising_yes m R1.out A2 C2 w2 (by omega) P2.out).mono ?_)); rintro e w3 ⟨rfl, hb3⟩; have b3 := b2.trans (hb3.mono b2.size))
    | (go_at_call 12; ((with_reducible refine (sort_all m A2 C2 w3 (by omega) (P2.out.keeps hb3) e21 N2.out).mono ?_)); rintro e w4 ⟨A4, C4, rfl, e41, e42, e43, hb4⟩; have b4 := b3.trans (hb4.mono b3.size); have q4 := hb3.trans (hb4.mono hb3.size); have P4 := Lib.hid e43; clear e42 e43)
    | (go_at_call 11; ((with_reducible refine (same_yes (norm m) m R2.out A4 A2 C4 C2 w4 (by omega) P4.out (P2.out.keeps q4)).mono ?_)); rintro e w5 ⟨rfl, hb5⟩; have b5 := b4.trans (hb5.mono b4.size); have q5 := q4.trans (hb5.mono q4.size))
    | (go_at_call 13; ((with_reducible refine (merge_all l m a0 A2 c0 C2 w5 (by omega) (P0.out.keeps b5) (P2.out.keeps q5) hc0 e21 N0.out N2.out).mono ?_)); rintro e w6 ⟨A6, C6, rfl, e61, e62, e63, hb6⟩; have b6 := b5.trans (hb6.mono b5.size); have q6 := q5.trans (hb6.mono q5.size); have P6 := Lib.hid e63; clear e62 e63)
    | (go_at_call 11; ((with_reducible refine (same_yes (norm (l ++ m)) m R3.out A6 A2 C6 C2 w6 (by omega) P6.out (P2.out.keeps q6)).mono ?_)); rintro e w7 ⟨rfl, hb7⟩; have b7 := b6.trans (hb7.mono b6.size); have q7 := q6.trans (hb7.mono q6.size)))
  have B0 := b7
  have B2 := q7
  go_loopw [5] (fun i wr => ∃ k : Nat, k ≤ l.length ∧ i = .int .i64 (k : Int) ∧ Below W.heap.size W wr ∧ Below w2.heap.size w2 wr) (fun i _ => l.length - (intOf i).toNat)
  case atStart => exact ⟨0, Nat.zero_le _, rfl, B0, B2⟩
  case round =>
    clear B0 B2
    obtain ⟨k, hk, rfl, hbo, hbo2⟩ := hrel
    by_cases hlt : k < l.length
    · have hkl : (k : Int) < (l.length : Int) := by omega
      obtain ⟨b1, o1, rfl, _, _⟩ := (P0.out.keep hbo) (by omega)
      have CP : Hid (∀ w', Below W.heap.size W w' → Below w2.heap.size w2 w' → w'.cell? ⟨b1, o1 + k * 2, none⟩ = some (.int .i64 l[k].s) ∧ w'.cell? ⟨b1, o1 + k * 2 + 1, none⟩ = some (.int .i64 l[k].e)) := Lib.hid (fun w' h1 h2 => by
        obtain ⟨_, _, e, _, hc⟩ := (P0.out.keep h1) (by omega)
        cases e
        exact hc k hlt)
      have HAS : Hid (has m l[k] = true) := Lib.hid (has_mem ((ML.out _).2 (List.getElem_mem hlt)))
      generalize l[k] = p at *
      go_wp2
      go_loopw [6, 7] (fun v j w' => ∃ c : Nat, c ≤ m.length ∧ j = .int .i64 (c : Int) ∧ v = .bool (has (m.take c) p) ∧ Below W.heap.size W w' ∧ Below w2.heap.size w2 w') (fun _ j _ => m.length - (intOf j).toNat)
      case atStart => exact ⟨0, Nat.zero_le _, rfl, rfl, hbo, hbo2⟩
      case round =>
        clear hbo hbo2
        obtain ⟨c, hc, rfl, rfl, hbel, hbel2⟩ := hrel
        by_cases hcl : c < m.length
        · have hcz : (c : Int) < (m.length : Int) := by omega
          obtain ⟨b2, o2, rfl, _, cm⟩ := (P2.out.keep hbel2) (by omega)
          obtain ⟨h21, h22⟩ := cm c hcl
          obtain ⟨h11, h12⟩ := CP.out _ hbel hbel2
          have HS := Lib.hid (has_snoc m p c hcl)
          clear cm
          generalize m[c] = q at *
          cases hf : has (m.take c) p
          · by_cases he : q = p
            · have ht : prEq q.s q.e p.s p.e = true := by rw [prEq_eq]; simp [he]
              have HN : Hid (has (m.take (c + 1)) p = true) := Lib.hid (by rw [HS.out, hf]; simp [he])
              clear hf HS he
              go_wp2
              go_quiet (fail)
              go_wp2
              go_roundw
              case rel => exact ⟨c + 1, by omega, by go_num, by rw [HN.out], below_drews hbel nq, below_drews hbel2 nq⟩
              case measure => simp [intOf]; omega
            · have ht : prEq q.s q.e p.s p.e = false := by rw [prEq_eq]; simp [he]
              have HN : Hid (has (m.take (c + 1)) p = false) := Lib.hid (by rw [HS.out, hf]; simp [he])
              clear hf HS he
              go_wp2
              go_quiet (fail)
              go_wp2
              go_roundw
              case rel => exact ⟨c + 1, by omega, by go_num, by rw [HN.out], below_drews hbel nq, below_drews hbel2 nq⟩
              case measure => simp [intOf]; omega
          · have HN : Hid (has (m.take (c + 1)) p = true) := Lib.hid (by rw [HS.out, hf]; simp)
            clear hf HS
            go_wp2
            go_quiet (fail)
            go_wp2
            go_roundw
            case rel => exact ⟨c + 1, by omega, by go_num, by rw [HN.out], below_drews hbel nq, below_drews hbel2 nq⟩
            case measure => simp [intOf]; omega
        · have hcz : ¬ (c : Int) < (m.length : Int) := by omega
          have e : m.take c = m := List.take_of_length_le (by omega)
          rw [e, HAS.out]
          clear e
          go_wp2
          go_roundw
          case rel => exact ⟨k + 1, by omega, by go_num, hbel, hbel2⟩
          case measure => simp [intOf]; omega
    · have hkl : ¬ (k : Int) < (l.length : Int) := by omega
      go_wp2
      have B0 := hbo
      have B2 := hbo2
      clear hbo hbo2
      go_loopw [8] (fun i wr => ∃ k : Nat, k ≤ m.length ∧ i = .int .i64 (k : Int) ∧ Below W.heap.size W wr ∧ Below w2.heap.size w2 wr) (fun i _ => m.length - (intOf i).toNat)
      case atStart => exact ⟨0, Nat.zero_le _, rfl, B0, B2⟩
      case round =>
        clear B0 B2
        obtain ⟨k, hk, rfl, hbo, hbo2⟩ := hrel
        by_cases hlt : k < m.length
        · have hkl : (k : Int) < (m.length : Int) := by omega
          obtain ⟨b1, o1, rfl, _, _⟩ := (P2.out.keep hbo2) (by omega)
          have CP : Hid (∀ w', Below W.heap.size W w' → Below w2.heap.size w2 w' → w'.cell? ⟨b1, o1 + k * 2, none⟩ = some (.int .i64 m[k].s) ∧ w'.cell? ⟨b1, o1 + k * 2 + 1, none⟩ = some (.int .i64 m[k].e)) := Lib.hid (fun w' h1 h2 => by
            obtain ⟨_, _, e, _, hc⟩ := (P2.out.keep h2) (by omega)
            cases e
            exact hc k hlt)
          have HAS : Hid (hasr l m[k] = true) := Lib.hid (hasr_mem ((ML.out _).1 (List.getElem_mem hlt)))
          generalize m[k] = p at *
          go_wp2
          go_loopw [9, 10] (fun v j w' => ∃ c : Nat, c ≤ l.length ∧ j = .int .i64 (c : Int) ∧ v = .bool (hasr (l.take c) p) ∧ Below W.heap.size W w' ∧ Below w2.heap.size w2 w') (fun _ j _ => l.length - (intOf j).toNat)
          case atStart => exact ⟨0, Nat.zero_le _, rfl, rfl, hbo, hbo2⟩
          case round =>
            clear hbo hbo2
            obtain ⟨c, hc, rfl, rfl, hbel, hbel2⟩ := hrel
            by_cases hcl : c < l.length
            · have hcz : (c : Int) < (l.length : Int) := by omega
              obtain ⟨b2, o2, rfl, _, cm⟩ := (P0.out.keep hbel) (by omega)
              obtain ⟨h21, h22⟩ := cm c hcl
              obtain ⟨h11, h12⟩ := CP.out _ hbel hbel2
              have HS := Lib.hid (hasr_snoc l p c hcl)
              clear cm
              generalize l[c] = q at *
              cases hf : hasr (l.take c) p
              · by_cases he : p = q
                · have ht : prEq p.s p.e q.s q.e = true := by rw [prEq_eq]; simp [he]
                  have HN : Hid (hasr (l.take (c + 1)) p = true) := Lib.hid (by rw [HS.out, hf]; simp [he])
                  clear hf HS he
                  go_wp2
                  go_quiet (fail)
                  go_wp2
                  go_roundw
                  case rel => exact ⟨c + 1, by omega, by go_num, by rw [HN.out], below_drews hbel nq, below_drews hbel2 nq⟩
                  case measure => simp [intOf]; omega
                · have ht : prEq p.s p.e q.s q.e = false := by rw [prEq_eq]; simp [he]
                  have HN : Hid (hasr (l.take (c + 1)) p = false) := Lib.hid (by rw [HS.out, hf]; simp [he])
                  clear hf HS he
                  go_wp2
                  go_quiet (fail)
                  go_wp2
                  go_roundw
                  case rel => exact ⟨c + 1, by omega, by go_num, by rw [HN.out], below_drews hbel nq, below_drews hbel2 nq⟩
                  case measure => simp [intOf]; omega
              · have HN : Hid (hasr (l.take (c + 1)) p = true) := Lib.hid (by rw [HS.out, hf]; simp)
                clear hf HS
                go_wp2
                go_quiet (fail)
                go_wp2
                go_roundw
                case rel => exact ⟨c + 1, by omega, by go_num, by rw [HN.out], below_drews hbel nq, below_drews hbel2 nq⟩
                case measure => simp [intOf]; omega
            · have hcz : ¬ (c : Int) < (l.length : Int) := by omega
              have e : l.take c = l := List.take_of_length_le (by omega)
              rw [e, HAS.out]
              clear e
              go_wp2
              go_roundw
              case rel => exact ⟨k + 1, by omega, by go_num, hbel, hbel2⟩
              case measure => simp [intOf]; omega
        · have hkl : ¬ (k : Int) < (m.length : Int) := by omega
          go_wp2
          go_ret
          exact ⟨rfl, hbo⟩
theorem walk (W : World) (l0 : List Pr) (a0 : Option Addr) (c0 : Nat) (hc0 : l0.length ≤ c0) (hn0 : a0 = none → c0 = 0) (hp0 : Ps W W.heap.size a0 l0) :
    Calls Try.prog 5 #[.slice a0 l0.length c0] W fun e w' => e = .returned (.bool true) ∧ Below W.heap.size W w' := by
  by_cases h0 : l0.length ≤ 60
  · exact small W l0 a0 c0 hc0 hn0 hp0 h0
  · have h1 : 60 < l0.length := by omega
    clear hc0 hn0 hp0 h0
    go_enter Try.func5, Try.ntmps5
    go_wp2_with (go_at_call 8; ((with_reducible refine (awake_any W).mono ?_)); rintro e w1 ⟨rfl, hb1⟩)
    go_ret
    exact ⟨rfl, hb1⟩
end Go.Proofs.Ythcmioobldpbjaa.pairsOnce
