/- The walk of PatsetLoads. -/
import Derived.Test.YteggdhfchamffaaPi
import Derived.Test.YteggdhfchamffaaPg
import Derived.Test.YteggdhfchamffaaPj
import Derived.Test.YteggdhfchamffaaPn
namespace Go.Proofs.Yteggdhfchamffaa.patsetLoads
open Go.RowKit

set_option maxRecDepth 100000 in
set_option maxHeartbeats 8000000 in
/-- Files and texts that aren't too long. -/
theorem small (w : World) (t : List UInt8) (a0 : Option Addr) (cap0 : Nat) (hb0 : Bs w w.heap.size a0 t) (f : Bool) (b : List UInt8) (a1 : Option Addr) (cap1 : Nat) (hb1 : Bs w w.heap.size a1 b) (h0 : t.length ≤ 2000) (h1 : b.length ≤ 300)
    (i g : Bool) (hi : Hid (i = decide (b ∈ pats (loaded f t)))) (hg : Hid (g = decide (b ∈ loaded f t))) (z : Bool) (hz : ((b.length : Int) == 0) = z) (hall : i = true ∧ g = true ∨ i = false ∧ z = true ∧ g = decide ([] ∈ loaded f t) ∨ i = false ∧ z = false ∧ g = false) :
    Calls Try.prog 3 #[.slice a0 t.length cap0, .bool f, .slice a1 b.length cap1] w fun e w' => e = .returned (.bool true) ∧ Below w.heap.size w w' := by
  have hd0 : decide ((2000 : Int) < (t.length : Int)) = false := decide_eq_false (by omega)
  have hd1 : decide ((300 : Int) < (b.length : Int)) = false := decide_eq_false (by omega)
  obtain ⟨n, hn⟩ : ∃ n, n = (pats (loaded f t)).length := ⟨_, rfl⟩
  obtain ⟨k, hk⟩ : ∃ k, k = code t := ⟨_, rfl⟩
  obtain ⟨e, he⟩ : ∃ e, e = decide ([] ∈ loaded f t) := ⟨_, rfl⟩
  have HN := Lib.hid hn
  have HK := Lib.hid hk
  have HE := Lib.hid he
  have HALL : Hid (i = true ∧ g = true ∨ i = false ∧ z = true ∧ g = e ∨ i = false ∧ z = false ∧ g = false) := Lib.hid (by rw [he]; exact hall)
  clear hn hk he hall
  go_enter Try.func3, Try.ntmps3
  go_wp2_with fail
  refine (awake_any _).mono ?_
  rintro e' w1 ⟨rfl, hb2⟩
  have hbs1 := (hb0.keep hb2).more hb2.size
  have hbt1 := (hb1.keep hb2).more hb2.size
  go_wp2_with fail
  refine (load_any f t a0 cap0 w1 (by omega) hbs1).mono ?_
  rintro e' w2 ⟨m, a2, c2, rfl, hs2, hb3⟩
  rw [← HN.out, ← HK.out]
  have hbn := below_new w2 (.cells #[.map m, .slice a2 n c2] 27)
  have hb4 := hb3.trans (hbn.mono hb3.size)
  have x2 := Box.new (n := n) (c := c2) hs2
  have hbs2 := (hbs1.keep hb4).more hb4.size
  have hbt2 := (hbt1.keep hb4).more hb4.size
  have hcv := str_of_bs cap0 hbs2
  have B2 := hb2.trans (hb4.mono hb2.size)
  clear hb2 hb3 hbn hb4 hs2 hbs1 hbt1 hb0 hb1
  go_wp2_with fail
  refine (rload_any f t _ (by omega)).mono ?_
  rintro e' w3 ⟨a3, c3, rfl, hs3, hb5⟩
  rw [← HN.out, ← HK.out, ← HE.out]
  have hbn := below_new w3 (.cells #[.slice a3 n c3, .bool e] 32)
  have hb6 := hb5.trans (hbn.mono hb5.size)
  have X1 := Lib.hid (x2.keep hb6)
  have X2 := Lib.hid (Blk2.new w3 32 (.slice a3 n c3) (.bool e))
  have X3 := Lib.hid (hs3.keep hbn)
  have X4 := Lib.hid ((hbt2.keep hb6).more hb6.size)
  have X5 := Lib.hid (B2.trans (hb6.mono B2.size))
  clear hcv hb5 hbn hb6 x2 hs3 hbs2 hbt2 B2
  have hcv := str_of_bs cap1 X4.out
  have INN : Hid (∀ X : World, Ss X a3 (pats (loaded f t)) → Calls Try.prog 12 #[.slice a3 n c3, .string (str b)] X fun e' w' => e' = .returned (.bool i) ∧ X = w') := Lib.hid fun X h => by
    have := pats_len (loaded f t)
    have := loaded_len f t
    rw [HN.out, hi.out]; exact in_any _ b a3 c3 X h (by omega)
  have SAM : Hid (∀ X : World, IsSet X m a2 (loaded f t) → Ss X a3 (pats (loaded f t)) → Calls Try.prog 13 #[.agg #[.map m, .slice a2 n c2], .agg #[.slice a3 n c3, .bool e]] X fun e' w' => e' = .returned (.bool true) ∧ Below X.heap.size X w') := Lib.hid fun X h h' => by
    have := loaded_len f t
    rw [HN.out, HE.out]; exact same_any m a2 a3 c2 c3 _ X h h' (by omega) (fun x hx => Nat.le_trans (loaded_mem f t x hx) (by omega))
  have HAS : Hid (∀ X : World, IsSet X m a2 (loaded f t) → Bs X X.heap.size a1 b → Calls Try.prog 14 #[.agg #[.map m, .slice a2 n c2], .slice a1 b.length cap1] X fun e' w' => e' = .returned (.bool g) ∧ Below X.heap.size X w') := Lib.hid fun X h h' => by
    rw [hg.out]; exact has_any m a2 n c2 _ b a1 cap1 X h h' (by omega)
  obtain ⟨p0, p1⟩ := X1.out.1.cells
  obtain ⟨q0, q1⟩ := X2.out.cells
  have XS := Lib.hid X1.out.2
  have XB := Lib.hid X1.out.1
  rcases HALL.out with ⟨rfl, rfl⟩ | ⟨rfl, rfl, hge⟩ | ⟨rfl, rfl, rfl⟩
  · have HGE := HALL
    clear HALL HGE
    go_wp2_with (first
      | (go_at_call 12; ((with_reducible refine (INN.out _ X3.out).mono ?_)); rintro e' w5 ⟨rfl, rfl⟩)
      | (go_at_call 13; ((with_reducible refine (SAM.out _ XS.out X3.out).mono ?_)); rintro e' w6 ⟨rfl, hb6⟩; obtain ⟨r0, r1⟩ := (XB.out.keep hb6 XB.out.lt).cells)
      | (go_at_call 14; ((with_reducible refine (HAS.out _ (XS.out.keep hb6) ((X4.out.keep hb6).more hb6.size)).mono ?_)); rintro e' w7 ⟨rfl, hb7⟩))
    go_ret
    exact ⟨rfl, (X5.out.trans (hb6.mono X5.out.size)).trans (hb7.mono (Nat.le_trans X5.out.size hb6.size))⟩
  · have HGE := HALL
    clear HALL HGE
    subst hge
    go_wp2_with (first
      | (go_at_call 12; ((with_reducible refine (INN.out _ X3.out).mono ?_)); rintro e' w5 ⟨rfl, rfl⟩)
      | (go_at_call 13; ((with_reducible refine (SAM.out _ XS.out X3.out).mono ?_)); rintro e' w6 ⟨rfl, hb6⟩; obtain ⟨r0, r1⟩ := (XB.out.keep hb6 XB.out.lt).cells)
      | (go_at_call 14; ((with_reducible refine (HAS.out _ (XS.out.keep hb6) ((X4.out.keep hb6).more hb6.size)).mono ?_)); rintro e' w7 ⟨rfl, hb7⟩))
    go_ret
    exact ⟨rfl, (X5.out.trans (hb6.mono X5.out.size)).trans (hb7.mono (Nat.le_trans X5.out.size hb6.size))⟩
  · have HGE := HALL
    clear HALL HGE
    go_wp2_with (first
      | (go_at_call 12; ((with_reducible refine (INN.out _ X3.out).mono ?_)); rintro e' w5 ⟨rfl, rfl⟩)
      | (go_at_call 13; ((with_reducible refine (SAM.out _ XS.out X3.out).mono ?_)); rintro e' w6 ⟨rfl, hb6⟩; obtain ⟨r0, r1⟩ := (XB.out.keep hb6 XB.out.lt).cells)
      | (go_at_call 14; ((with_reducible refine (HAS.out _ (XS.out.keep hb6) ((X4.out.keep hb6).more hb6.size)).mono ?_)); rintro e' w7 ⟨rfl, hb7⟩))
    go_ret
    exact ⟨rfl, (X5.out.trans (hb6.mono X5.out.size)).trans (hb7.mono (Nat.le_trans X5.out.size hb6.size))⟩

theorem walk (w : World) (t : List UInt8) (a0 : Option Addr) (cap0 : Nat) (hm0 : t.length ≤ maxLen) (hb0 : Bs w w.heap.size a0 t) (f : Bool) (b : List UInt8) (a1 : Option Addr) (cap1 : Nat) (hm1 : b.length ≤ maxLen) (hb1 : Bs w w.heap.size a1 b) :
    Calls Try.prog 3 #[.slice a0 t.length cap0, .bool f, .slice a1 b.length cap1] w fun e w' => e = .returned (.bool true) ∧ Below w.heap.size w w' := by
  unfold maxLen at hm0 hm1
  by_cases h0 : t.length ≤ 2000
  · by_cases h1 : b.length ≤ 300
    · refine small w t a0 cap0 hb0 f b a1 cap1 hb1 h0 h1 _ _ (Lib.hid rfl) (Lib.hid rfl) _ rfl ?_
      have hc := came_iff (loaded f t) b
      by_cases hp : b ∈ pats (loaded f t)
      · exact .inl ⟨by simpa using hp, by simpa using ((mem_pats _ b).1 hp).1⟩
      · rw [decide_eq_false hp, Bool.false_or] at hc
        rcases Nat.eq_zero_or_pos b.length with hz | hz
        · have hb : b = [] := List.eq_nil_of_length_eq_zero hz
          subst hb
          exact .inr (.inl ⟨by simpa using hp, rfl, rfl⟩)
        · have hb : b ≠ [] := fun e => by rw [e] at hz; simp at hz
          rw [decide_eq_false hb, Bool.false_and] at hc
          exact .inr (.inr ⟨by simpa using hp, by simp; omega, hc.symm⟩)
    · have hd0 : decide ((2000 : Int) < (t.length : Int)) = false := decide_eq_false (by omega)
      have hd1 : decide ((300 : Int) < (b.length : Int)) = true := decide_eq_true (by omega)
      go_enter Try.func3, Try.ntmps3
      go_wp2_with (go_at_call 9; ((with_reducible refine (awake_any _).mono ?_)); rintro e' w1 ⟨rfl, hb2⟩)
      go_ret
      exact ⟨rfl, hb2⟩
  · have hd0 : decide ((2000 : Int) < (t.length : Int)) = true := decide_eq_true (by omega)
    go_enter Try.func3, Try.ntmps3
    go_wp2_with (go_at_call 9; ((with_reducible refine (awake_any _).mono ?_)); rintro e' w1 ⟨rfl, hb2⟩)
    go_ret
    exact ⟨rfl, hb2⟩
end Go.Proofs.Yteggdhfchamffaa.patsetLoads
