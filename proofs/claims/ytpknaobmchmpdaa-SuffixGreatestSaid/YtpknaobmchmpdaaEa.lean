/- The order of bytes, and the turned one; Less. -/
import Derived.Test.YtpknaobmchmpdaaGK
import Derived.Test.YtpknaobmchmpdaaGL
import Derived.Laws.EntriesVeiled
namespace Go.Proofs.Ytpknaobmchmpdaa.Suf
open Go.RowKit Go.Maps Go.Proofs.Ytpknaobmchmpdaa.Crt
set_option maxRecDepth 100000
set_option linter.unusedVariables false

theorem lt_dec (x y : UInt8) : decide (x.toNat < y.toNat) = ltB false x y := by
  simp only [ltB, Bool.false_eq_true, if_false]
  rw [decide_eq_decide, u8_lt]
theorem cmp_any (w : World) (x y : UInt8) : Calls Try.prog 21 #[.int .u8 (x.toNat : Int), .int .u8 (y.toNat : Int)] w fun e w' => e = .returned (.bool (ltB false x y)) ∧ w = w' := by
  have hl := Lib.hid (lt_dec x y)
  go_enter Try.func21, Try.ntmps21
  go_wp2
  go_ret
  exact ⟨ret_bool hl.out, rfl⟩
theorem cmpt_any (w : World) (g : Nat) (h : w.cell? ⟨g, 0, none⟩ = some (.func (.func 21) #[] #[])) (x y : UInt8) : Calls Try.prog 23 #[.int .u8 (x.toNat : Int), .int .u8 (y.toNat : Int), .pointer (some ⟨g, 0, none⟩)] w fun e w' => e = .returned (.bool (ltB true x y)) ∧ w = w' := by
  have HL := Lib.hid (ltB_turn false x y)
  have HC := Lib.hid (cmp_any w y x)
  go_enter Try.func23, Try.ntmps23
  go_wp2_with (go_at_call 21; (with_reducible refine HC.out.mono ?_); rintro e w1 ⟨rfl, rfl⟩)
  go_ret
  exact ⟨ret_bool HL.out.symm, rfl⟩
/-- What an order's field calls: the bytes' order, in whatever comes of the world. -/
def Ord (W : World) (t : Bool) (fn : FuncId) (caps : Array Value) : Prop :=
  (∀ (args : Array Value) (w : World), (callFunc fn args).run Try.prog w = .ok (.enter fn args) w) ∧
  ∀ X, Below W.heap.size W X → ∀ x y : UInt8, Calls Try.prog fn (#[.int .u8 (x.toNat : Int), .int .u8 (y.toNat : Int)] ++ caps) X fun e w' => e = .returned (.bool (ltB t x y)) ∧ X = w'
theorem Ord.keep {W W' : World} {t : Bool} {fn : FuncId} {caps : Array Value} (h : Ord W t fn caps) (hb : Below W.heap.size W W') : Ord W' t fn caps := ⟨h.1, fun X hX => h.2 X (hb.trans (hX.mono hb.size))⟩
theorem call21 (args : Array Value) (w : World) : (callFunc 21 args).run Try.prog w = .ok (.enter 21 args) w := by simp [go_sem]
theorem call23 (args : Array Value) (w : World) : (callFunc 23 args).run Try.prog w = .ok (.enter 23 args) w := by simp [go_sem]
theorem ord_plain (W : World) : Ord W false 21 #[] := ⟨call21, fun X _ x y => cmp_any X x y⟩
theorem ord_turn {W : World} {g : Nat} (h : W.heap[g]? = some (.cells #[.func (.func 21) #[] #[]] 41 (0, 0))) : Ord W true 23 #[.pointer (some ⟨g, 0, none⟩)] := ⟨call23, fun X hX x y =>
  cmpt_any X g (by rw [cell_of_row X g _ _ 41 (0, 0) ((hX.block g (txt_lt h)).trans h)]; rfl) x y⟩
def GivesOrd (w : World) (t : Bool) (e : Ending) (w' : World) : Prop := ∃ fn caps, e = .returned (.agg #[.func (.func fn) #[] caps]) ∧ Ord w' t fn caps ∧ Below w.heap.size w w'
theorem cell_of1 {w : World} {v : Nat} {u : Value} {t : TypeId} (h : w.heap[v]? = some (.cells #[u] t (0, 0))) : w.cell? ⟨v, 0, none⟩ = some u ∧ w.frozen? ⟨v, 0, none⟩ = false := by
  constructor
  · rw [cell_of_row w v _ _ t (0, 0) h]; rfl
  · simp [World.frozen?, h]
theorem turn_any (w : World) : Calls Try.prog 22 #[.agg #[.func (.func 21) #[] #[]]] w fun e w' => ∃ g, w.heap.size ≤ g ∧ e = .returned (.agg #[.func (.func 23) #[] #[.pointer (some ⟨g, 0, none⟩)]]) ∧ w'.heap[g]? = some (.cells #[.func (.func 21) #[] #[]] 41 (0, 0)) ∧ Below w.heap.size w w' := by
  have hmf : ∀ (fn : Fn) (first cap : Array Value) (w : World), (Instr.makeFunc fn first cap).run Try.prog w = .ok (.func fn first cap) w := fun _ _ _ _ => rfl
  go_enter Try.func22, Try.ntmps22
  go_wp2
  exact bodyPost_ret (v := .agg #[.func (.func 23) #[] #[.pointer (some ⟨w.heap.size, 0, none⟩)]]) (by simp [results, Try.results22, go_sem]) rfl ⟨w.heap.size, Nat.le_refl _, rfl, heap_alloc2_old _ _ _, ((Below.refl _ _).alloc (Nat.le_refl _) _).alloc (by simp) _⟩
theorem orderof_any (w : World) (t : Bool) : Calls Try.prog 19 #[.bool t] w (GivesOrd w t) := by
  have hmf : ∀ (fn : Fn) (first cap : Array Value) (w : World), (Instr.makeFunc fn first cap).run Try.prog w = .ok (.func fn first cap) w := fun _ _ _ _ => rfl
  have HT := Lib.hid turn_any
  cases t
  · go_enter Try.func19, Try.ntmps19
    go_wp2
    exact bodyPost_ret (v := .agg #[.func (.func 21) #[] #[]]) (by simp [results, Try.results19, go_sem]) rfl ⟨_, _, rfl, ord_plain _, ((Below.refl _ _).alloc (Nat.le_refl _) _).alloc (by simp) _⟩
  · go_enter Try.func19, Try.ntmps19
    go_wp2_with fail
    refine (HT.out _).mono ?_
    rintro e w1 ⟨g, hs, rfl, hg, hb⟩
    obtain ⟨c1, f1⟩ := cell_of1 ((hb.block w.heap.size (by simp; omega)).trans (heap_alloc2_old _ _ _))
    have HB : Hid (Below w.heap.size w w1) := Lib.hid ((((Below.refl _ _).alloc (Nat.le_refl _) _).alloc (by simp) _).trans (hb.mono (by simp; omega)))
    have hc2 := World.cell?_setCell_same w1 ⟨w.heap.size, 0, none⟩ (.func (.func 23) #[] #[.pointer (some ⟨g, 0, none⟩)]) c1
    have hsz := hb.size
    simp at hsz hs
    have HG := Lib.hid hg
    clear hb hg
    go_wp2
    refine bodyPost_ret (v := .agg #[.func (.func 23) #[] #[.pointer (some ⟨g, 0, none⟩)]]) (by simp [results, Try.results19, go_sem, hc2]) rfl ⟨_, _, rfl, ord_turn ?_, HB.out.setCell (Nat.le_refl _) _⟩
    rw [Below.heap_setCell _ _ _ _ (show g ≠ w.heap.size by omega)]
    exact HG.out
theorem u8_beq (x y : UInt8) : ((x.toNat : Int) == y.toNat) = decide (x = y) := by
  rw [Bool.eq_iff_iff]; simp only [beq_iff_eq, decide_eq_true_eq]
  constructor
  · intro h; apply UInt8.toNat_inj.1; omega
  · rintro rfl; rfl
theorem u8_bne (x y : UInt8) : ((x.toNat : Int) != y.toNat) = decide (x ≠ y) := by
  rw [bne, u8_beq]; simp
theorem less_step (t : Bool) (l m : Tx) (k : Nat) (h1 : k < l.length) (h2 : k < m.length) : less t (l.drop k) (m.drop k) = if l[k] = m[k] then less t (l.drop (k + 1)) (m.drop (k + 1)) else ltB t l[k] m[k] := by
  rw [List.drop_eq_getElem_cons h1, List.drop_eq_getElem_cons h2, less]
theorem less_end (t : Bool) (l m : Tx) (k : Nat) (h : k = min l.length m.length) : less t (l.drop k) (m.drop k) = decide (l.length < m.length) := by
  rcases Nat.lt_or_ge l.length m.length with h1 | h1
  · rw [List.drop_of_length_le (show l.length ≤ k by omega), nil_less, decide_eq_decide]
    refine ⟨fun _ => h1, fun _ e => ?_⟩
    have := congrArg List.length e
    rw [List.length_drop, List.length_nil] at this
    omega
  · rw [List.drop_of_length_le (show m.length ≤ k by omega), less_nil, decide_eq_false (by omega)]
/-- One byte of a text. -/
theorem bs_at {w : World} {B : Nat} {a : Option Addr} {l : Tx} (h : Bs w B a l) (k : Nat) (hk : k < l.length) : ∃ b off, a = some ⟨b, off, none⟩ ∧ b < B ∧ w.cell? ⟨b, off + k, none⟩ = some (.int .u8 (l[k].toNat : Int)) := by
  obtain ⟨b, off, e, hb, hc⟩ := h (by omega)
  exact ⟨b, off, e, hb, hc k hk⟩
set_option maxHeartbeats 1000000 in
theorem less_any (w : World) (l m : Tx) (a b : Option Addr) (ca cb : Nat) (ha : Bs w w.heap.size a l) (hb : Bs w w.heap.size b m) (hl : l.length ≤ 1000000) (hm : m.length ≤ 1000000) (t : Bool) :
    Calls Try.prog 17 #[.slice a l.length ca, .slice b m.length cb, .bool t] w fun e w' => e = .returned (.bool (less t l m)) ∧ Below w.heap.size w w' := by
  have HO := Lib.hid (orderof_any w t)
  have HA := Lib.hid ha
  have HB := Lib.hid hb
  clear ha hb
  go_enter Try.func17, Try.ntmps17
  go_wp2_with fail
  refine HO.out.mono ?_
  rintro e w1 ⟨fn, caps, rfl, ho, hb⟩
  have hsz := hb.size
  have HO1 := Lib.hid ho
  have HB1 := Lib.hid hb
  clear ho hb
  go_wp2
  have hbw : Below w.heap.size w (w1.alloc (.cells #[.func (.func fn) #[] caps] 41)) := HB1.out.alloc hsz _
  have HA2 := Lib.hid (HA.out.keep hbw)
  have HB2 := Lib.hid (HB.out.keep hbw)
  have HO2 := Lib.hid (HO1.out.keep ((Below.refl _ _).alloc (Nat.le_refl _) (.cells #[.func (.func fn) #[] caps] 41)))
  obtain ⟨hc, _⟩ := cell_of1 (heap_alloc_new w1 (.cells #[.func (.func fn) #[] caps] 41))
  have HW := Lib.hid hbw
  clear hbw HA HB HB1 HO HO1
  generalize w1.heap.size = g at *
  generalize w1.alloc (.cells #[.func (.func fn) #[] caps] 41) = w2 at *
  go_loopw [16] (fun i wr => ∃ (k q : Nat), k ≤ l.length ∧ k ≤ m.length ∧ i = .int .i64 (k : Int) ∧ less t (l.drop k) (m.drop k) = less t l m ∧ wr = w2.drewN q) (fun i _ => l.length - (intOf i).toNat)
  case atStart => exact ⟨0, 0, Nat.zero_le _, Nat.zero_le _, rfl, rfl, rfl⟩
  case round =>
    obtain ⟨k, q, hk, hk2, rfl, hee, rfl⟩ := hrel
    by_cases hlt : k < l.length ∧ k < m.length
    · obtain ⟨hlt, hlt2⟩ := hlt
      rw [less_step t l m k hlt hlt2] at hee
      obtain ⟨b1, o1, rfl, _, hk1⟩ := bs_at HA2.out k hlt
      obtain ⟨b2, o2, rfl, _, hk2⟩ := bs_at HB2.out k hlt2
      have hk1 : (w2.drewN q).cell? ⟨b1, o1 + k, none⟩ = some (.int .u8 (l[k].toNat : Int)) := hk1
      have hk2 : (w2.drewN q).cell? ⟨b2, o2 + k, none⟩ = some (.int .u8 (m[k].toNat : Int)) := hk2
      have hd := u8_bne l[k] m[k]
      have hkl : (k : Int) < min (l.length : Int) (m.length : Int) := by omega
      have hkl1 : (k : Int) < (l.length : Int) := by omega
      have hkl2 : (k : Int) < (m.length : Int) := by omega
      by_cases he : l[k] = m[k]
      · rw [if_pos he] at hee
        rw [decide_eq_false (fun h => h he)] at hd
        have HEE := Lib.hid hee
        clear hee he
        go_wp2
        go_quiet (fail)
        go_wp2
        exact ⟨⟨k + 1, q + nq, by omega, by omega, by go_num, HEE.out, rfl⟩, by simp [intOf]; omega⟩
      · rw [if_neg he] at hee
        rw [decide_eq_true he] at hd
        have HEE := Lib.hid hee
        clear hee he
        go_wp2
        go_quiet (fail)
        go_wp2
        rw [World.drewN_drewN]
        have HO3 := Lib.hid (HO2.out.keep (below_drews (Below.refl _ _) (q + nq)))
        have HW3 := Lib.hid (below_drews HW.out (q + nq))
        have hc3 : (w2.drewN (q + nq)).cell? ⟨g, 0, none⟩ = some (.func (.func fn) #[] caps) := hc
        have hk1 : (w2.drewN (q + nq)).cell? ⟨b1, o1 + k, none⟩ = some (.int .u8 (l[k].toNat : Int)) := hk1
        have hk2 : (w2.drewN (q + nq)).cell? ⟨b2, o2 + k, none⟩ = some (.int .u8 (m[k].toNat : Int)) := hk2
        generalize w2.drewN (q + nq) = w3 at *
        clear hd
        have hcf := HO3.out.1
        go_quiet (exact quietly (HO3.out.2 _ (below_drews (Below.refl _ _) _) _ _))
        go_wp2
        go_ret
        exact ⟨ret_bool HEE.out, below_drews HW3.out _⟩
    · have hkl : ¬ (k : Int) < min (l.length : Int) (m.length : Int) := by omega
      rw [less_end t l m k (by omega)] at hee
      have HEE := Lib.hid hee
      clear hee
      go_wp2
      go_ret
      exact ⟨ret_bool HEE.out, below_drews HW.out _⟩
end Go.Proofs.Ytpknaobmchmpdaa.Suf
