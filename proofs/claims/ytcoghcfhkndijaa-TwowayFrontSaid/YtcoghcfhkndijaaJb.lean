/- The reference's Next; few. -/
import Derived.Test.YtcoghcfhkndijaaJa
namespace Go.Proofs.Ytcoghcfhkndijaa.Two
open Go.RowKit Go.Maps Go.Proofs.Ytcoghcfhkndijaa.Crt Go.Proofs.Ytcoghcfhkndijaa.Suf Go.Proofs.Ytcoghcfhkndijaa.Prs
set_option maxRecDepth 100000
set_option linter.unusedVariables false

theorem few_any (w : World) (a : Option Addr) (n c : Nat) (a2 : Option Addr) (m c2 : Nat) : Calls Try.prog 10 #[.slice a n c, .slice a2 m c2] w fun e w' => e = .returned (.bool (decide (n ≤ 100 ∧ m ≤ 300))) ∧ w = w' := by
  by_cases h : n ≤ 100
  · have h2 : (n : Int) ≤ 100 := by omega
    by_cases k : m ≤ 300
    · have k2 : (m : Int) ≤ 300 := by omega
      rw [decide_eq_true (And.intro h k)]
      go_enter Try.func10, Try.ntmps10
      go_wp2
      go_ret
      exact ⟨ret_bool (by simp), rfl⟩
    · have k2 : ¬ (m : Int) ≤ 300 := by omega
      rw [decide_eq_false (fun e => k e.2)]
      go_enter Try.func10, Try.ntmps10
      go_wp2
      go_ret
      exact ⟨ret_bool (by simp), rfl⟩
  · have h2 : ¬ (n : Int) ≤ 100 := by omega
    rw [decide_eq_false (fun e => h e.1)]
    go_enter Try.func10, Try.ntmps10
    go_wp2
    go_ret
    exact ⟨ret_bool (by simp), rfl⟩
theorem str_mid (x : Tx) (p k : Nat) : (str x).extract p (p + k) = str ((x.drop p).take k) := by
  unfold str
  rw [ByteArray.extract_mk]
  congr 1
  show (List.take (p + k - p) (x.drop p)).toArray = _
  rw [Nat.add_sub_cancel_left]
set_option maxHeartbeats 4000000 in
theorem rnext_any (w : World) (b line : Tx) (h0 : b ≠ []) (hl : b.length ≤ 1000) (hll : line.length ≤ 1000) (x : Int) :
    Calls Try.prog 14 #[.string (str b), .string (str line), .int .i64 x] w fun e w' => e = .returned (.int .i64 (nextOf b line x.toNat)) ∧ Drew w w' := by
  have hz := str_size b
  have hz2 := str_size line
  go_enter Try.func14, Try.ntmps14
  go_wp2
  go_loopw [7] (fun v wr => ∃ k : Nat, k ≤ line.length + 1 ∧ v = .int .i64 (k : Int) ∧ (∀ q, x.toNat ≤ q → q < k → ¬ Stands line b q) ∧ Drew w wr) (fun v _ => line.length + 1 - (intOf v).toNat)
  case atStart => exact ⟨0, Nat.zero_le _, rfl, fun q h1 h2 => by omega, Drew.refl _⟩
  case round =>
    obtain ⟨k, hk, rfl, hno, hdr⟩ := hrel
    have HNO := Lib.hid hno
    have HD := Lib.hid hdr
    clear hno hdr
    have hbp := List.length_pos_iff.2 h0
    obtain ⟨E, hE⟩ : ∃ E, E = k + b.length := ⟨_, rfl⟩
    have hwE : IntKind.i64.wrap ((k : Int) + (b.length : Int)) = (E : Int) := by rw [IntWalk.i64_in _ (by omega)]; omega
    by_cases hlt : E ≤ line.length
    · have hlt2 : (E : Int) ≤ (line.length : Int) := by omega
      have hkE : (k : Int) ≤ (E : Int) := by omega
      by_cases hx : x ≤ (k : Int)
      · have hxk : x.toNat ≤ k := by omega
        have hx2 := str_mid line k b.length
        rw [← hE] at hx2
        have hbe := Tri.str_beq ((line.drop k).take b.length) b
        have hst := stands_take line b k
        by_cases hs : Stands line b k
        · rw [decide_eq_true (hst.1 hs)] at hbe
          have HE : Hid (nextOf b line x.toNat = (k : Int)) := Lib.hid (nextOf_first h0 ⟨hxk, hs, HNO.out⟩)
          clear hst hs hE hxk hlt
          go_wp2
          go_ret
          exact ⟨ret_int (by rw [HE.out]), HD.out⟩
        · rw [decide_eq_false (fun h => hs (hst.2 h))] at hbe
          have HN := Lib.hid hs
          have HK := Lib.hid (show k + 1 ≤ line.length + 1 by omega)
          clear hst hs hE hxk hlt
          go_wp2
          exact ⟨⟨k + 1, HK.out, by go_num, fun q h1 h2 => by
            by_cases e : q = k
            · rw [e]; exact HN.out
            · exact HNO.out q h1 (by omega), HD.out⟩, by have := HK.out; simp [intOf]; omega⟩
      · have hx2 : ¬ x ≤ (k : Int) := hx
        have HK := Lib.hid (show k + 1 ≤ line.length + 1 by omega)
        have HX := Lib.hid (show k < x.toNat by omega)
        clear hE hlt
        go_wp2
        exact ⟨⟨k + 1, HK.out, by go_num, fun q h1 h2 => by have := HX.out; omega, HD.out⟩, by have := HK.out; simp [intOf]; omega⟩
    · have hlt2 : ¬ (E : Int) ≤ (line.length : Int) := by omega
      have HE : Hid (nextOf b line x.toNat = -1) := Lib.hid (nextOf_none fun q hq hs => by
        have := hs.le h0
        exact HNO.out q hq (by omega) hs)
      clear hE hlt
      go_wp2
      go_ret
      exact ⟨ret_int (by rw [HE.out]), HD.out⟩
theorem cut_mid (a : Option Addr) (l : Tx) (c k E : Nat) (hk : k ≤ E) (hE : E ≤ l.length) (hc : l.length ≤ c) (w : World) (B : Nat) (hb : Bs w B a l) :
    ∃ A, (∀ W, (Instr.slice 22 (.slice a l.length c) (some (.int .i64 (k : Int))) (some (.int .i64 (E : Int))) none).run Try.prog W = .ok (.slice A (E - k) (c - k)) W) ∧ ∀ X, Bs X B a l → Bs X B A ((l.drop k).take (E - k)) := by
  have ht : Try.prog.underlying 22 = some (.slice (Try.prog.elem 22)) := by simp [Program.elem, Try.underlying22]
  have he : Try.prog.elem 22 = 5 := by simp [Program.elem, Try.underlying22]
  refine ⟨if c = k then a else a.map (·.add k), fun W => ?_, fun X hb h0 => ?_⟩
  · rw [run_slice_lh W 22 _ _ _ ht .i64 .i64 _ _ (by omega) (by omega) (by omega), he, size_of5]
    simp [Result.andThen, sliced]
  · rw [List.length_take, List.length_drop] at h0
    obtain ⟨b', o', rfl, hb', hcs⟩ := hb (by omega)
    refine ⟨b', o' + k, by rw [if_neg (by omega)]; simp [Addr.add], hb', fun i hi => ?_⟩
    rw [List.length_take, List.length_drop] at hi
    rw [List.getElem_take, List.getElem_drop, Nat.add_assoc]
    exact hcs (k + i) (by omega)
/-- The text that a cut of a line is. -/
theorem mid_str {w : World} {B : Nat} {A : Option Addr} {l b : Tx} {k E c : Nat} (hE : E = k + b.length) (hl : E ≤ l.length) (h : Bs w B A ((l.drop k).take (E - k))) : (convert 22 9 (.slice A (E - k) c)).run Try.prog w = .ok (.string (str ((l.drop k).take b.length))) w := by
  have := str_of_bs c h
  rw [show E - k = b.length by omega] at this ⊢
  rwa [List.length_take, List.length_drop, Nat.min_eq_left (by omega)] at this
end Go.Proofs.Ytcoghcfhkndijaa.Two
