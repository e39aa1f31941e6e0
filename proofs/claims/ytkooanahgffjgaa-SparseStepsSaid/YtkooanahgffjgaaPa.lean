/- The contracts of Less, of the reference's Less, and of Same. -/
import Derived.Test.YtkooanahgffjgaaPBase
namespace Go.Proofs.Ytkooanahgffjgaa.Prs
open Go.RowKit
set_option maxRecDepth 100000

theorem below_two (w : World) (x y : Obj) : Below w.heap.size w ((w.alloc x).alloc y) := ((Below.refl _ _).alloc (Nat.le_refl _) _).alloc (by simp) _
theorem less_any (p q : Pr) (w : World) : Calls Try.prog 52 #[pv p, pv q] w fun e w' => e = .returned (.bool (lt p q)) ∧ Below w.heap.size w w' := by
  by_cases h : p.s = q.s
  · have hb : (p.s != q.s) = false := by simpa using h
    have H := Lib.hid h
    clear h
    go_enter Try.func52, Try.ntmps52
    go_wp2
    go_ret
    exact ⟨ret_bool (by simp [lt, H.out]), below_two _ _ _⟩
  · have hb : (p.s != q.s) = true := by simpa using h
    go_enter Try.func52, Try.ntmps52
    go_wp2
    go_ret
    exact ⟨ret_bool (by simp [lt, h]), below_two _ _ _⟩
/-- Two pairs held against each other. -/
def prEq (a b c e : Int) : Bool := decide ((⟨a, b⟩ : Pr) = ⟨c, e⟩)
theorem prEq_eq (p q : Pr) : prEq p.s p.e q.s q.e = decide (p = q) := rfl
theorem prEq_ints (a b c e : Int) : prEq a b c e = ((a == c) && (b == e)) := by
  rw [Bool.eq_iff_iff]; simp [prEq]
theorem eql_pairs (a b c e : Int) (w : World) : (binOp .eql 52 (.agg #[.int .i64 a, .int .i64 b]) (.agg #[.int .i64 c, .int .i64 e])).run Try.prog w = .ok (.bool (prEq a b c e)) w := by
  rw [prEq_ints]
  cases h1 : (a == c) <;> cases h2 : (b == e) <;> simp [go_sem, h1, h2]
theorem neq_pairs (a b c e : Int) (w : World) : (binOp .neq 52 (.agg #[.int .i64 a, .int .i64 b]) (.agg #[.int .i64 c, .int .i64 e])).run Try.prog w = .ok (.bool (!prEq a b c e)) w := by
  rw [prEq_ints]
  cases h1 : (a == c) <;> cases h2 : (b == e) <;> simp [go_sem, h1, h2]
attribute [local go_sem ↓] eql_pairs neq_pairs
set_option maxHeartbeats 1000000 in
theorem same_any (xs ys : List Pr) (a b : Option Addr) (ca cb : Nat) (w : World) (hl : xs.length ≤ 1000000000) (hx : Ps w w.heap.size a xs) (hy : Ps w w.heap.size b ys) :
    Calls Try.prog 15 #[.slice a xs.length ca, .slice b ys.length cb] w fun e w' => e = .returned (.bool (decide (xs = ys))) ∧ ∃ q, w' = w.drewN q := by
  by_cases hlen : xs.length = ys.length
  · rw [← hlen]
    have HL := Lib.hid hlen
    clear hlen
    go_enter Try.func15, Try.ntmps15
    go_wp2
    go_loopw [5] (fun i wr => ∃ k : Nat, k ≤ xs.length ∧ i = .int .i64 k ∧ (xs.take k = ys.take k) ∧ ∃ q, wr = w.drewN q) (fun i _ => xs.length - (intOf i).toNat)
    case atStart => exact ⟨0, Nat.zero_le _, rfl, rfl, 0, rfl⟩
    case round =>
      obtain ⟨k, hk, rfl, hs, q, rfl⟩ := hrel
      have HS := Lib.hid hs
      clear hs
      by_cases hlt : k < xs.length
      · obtain ⟨b1, o1, rfl, _, hc1⟩ := hx (by omega)
        have hly : k < ys.length := by rw [← HL.out]; exact hlt
        obtain ⟨b2, o2, rfl, _, hc2⟩ := hy (by omega)
        obtain ⟨h11, h12⟩ := hc1 k hlt
        obtain ⟨h21, h22⟩ := hc2 k hly
        have hkl : (k : Int) < (xs.length : Int) := by omega
        clear hc1 hc2
        by_cases he : xs[k] = ys[k]
        · have HE : Hid (xs.take (k + 1) = ys.take (k + 1)) := Lib.hid (by rw [List.take_succ_eq_append_getElem hlt, List.take_succ_eq_append_getElem hly, HS.out, he])
          rw [← he] at h21 h22
          have ht : prEq xs[k].s xs[k].e xs[k].s xs[k].e = true := by rw [prEq_eq]; simp
          generalize xs[k] = p at *
          clear he
          go_wp2
          go_quiet (fail)
          go_wp2
          go_roundw
          case rel =>
            exact ⟨k + 1, by omega, by go_num, HE.out, q + nq, rfl⟩
          case measure => simp [intOf]; omega
        · have ht : prEq xs[k].s xs[k].e ys[k].s ys[k].e = false := by rw [prEq_eq]; simp [he]
          have HE : Hid (¬ xs = ys) := Lib.hid (by rintro rfl; exact he rfl)
          clear he
          generalize xs[k] = x at *
          generalize ys[k] = y at *
          go_wp2
          go_quiet (fail)
          go_wp2
          go_ret
          exact ⟨ret_bool (by simp [HE.out]), q + nq, by rw [World.drewN_drewN]⟩
      · go_wp2
        go_ret
        have e1 : xs.take k = xs := List.take_of_length_le (by omega)
        have e2 : ys.take k = ys := List.take_of_length_le (by have := HL.out; omega)
        have h := HS.out
        rw [e1, e2] at h
        exact ⟨ret_bool (by simp [h]), q, rfl⟩
  · have hb : ((xs.length : Int) != (ys.length : Int)) = true := by simp; omega
    go_enter Try.func15, Try.ntmps15
    go_wp2
    go_ret
    have : ¬ xs = ys := fun h => hlen (by rw [h])
    exact ⟨ret_bool (by simp [this]), 0, rfl⟩
end Go.Proofs.Ytkooanahgffjgaa.Prs
