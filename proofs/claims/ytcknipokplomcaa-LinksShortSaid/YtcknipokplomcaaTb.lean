/- Contracts of Find, Path and Kids. -/
import Derived.Test.YtcknipokplomcaaTa
namespace Go.Proofs.Ytcknipokplomcaa.Tri
open Go.RowKit Go.Maps

theorem step_take {ps : List Tx} {b : Tx} {k : Nat} (hk : k < b.length) (hm : b.take k ∈ ps) : stepOf ps (place ps (b.take k)) b[k] = place ps (b.take (k + 1)) := by
  obtain ⟨i, hi, e, e2, _⟩ := place_mem hm
  rw [e, stepOf_at hi, e2, List.take_succ_eq_append_getElem hk]
theorem find_none (w : World) (v : Value) : Calls Try.prog 24 #[.pointer none, v] w fun e w' => e = .returned (.int .i64 (-1)) ∧ w = w' := by
  go_enter Try.func24, Try.ntmps24
  go_wp2_with (go_at_call 22; (with_reducible refine (nodes_none _).mono ?_); rintro e w1 ⟨rfl, rfl⟩)
  go_ret
  exact ⟨rfl, rfl⟩
set_option maxHeartbeats 1000000 in
theorem find_any (w : World) (s t : Nat) (ps l : List Tx) (h : Tr w s t ps l) (b : Tx) (a : Option Addr) (cap B : Nat) (hb : Bs w B a b) (hl : b.length ≤ 1000000000) :
    Calls Try.prog 24 #[.pointer (some ⟨t, 0, none⟩), .slice a b.length cap] w fun e w' => e = .returned (.int .i64 (place ps b)) ∧ w = w' := by
  have HA := Lib.hid (nodes_any w s t ps l h)
  have HS := Lib.hid (step_any w s t ps l h)
  have HW := Lib.hid h.2.1
  have hn := h.2.2.2.1
  have hp : ((ps.length : Int) == 0) = false := beq_eq_false_iff_ne.2 (by have := HW.out.pos; omega)
  have HB := Lib.hid hb
  clear h hb
  go_enter Try.func24, Try.ntmps24
  go_wp2_with (go_at_call 22; (with_reducible refine HA.out.mono ?_); rintro e w1 ⟨rfl, rfl⟩)
  go_loop [5, 13] (fun x i => ∃ k : Nat, k ≤ b.length ∧ i = .int .i64 k ∧ x = .int .i64 (place ps (b.take k)) ∧ b.take k ∈ ps) (fun _ i => b.length - (intOf i).toNat)
  case atStart => exact ⟨0, Nat.zero_le _, rfl, by rw [List.take_zero, place_first (k := 0) HW.out.pos HW.out.at0 (fun j hj => by omega)]; rfl, by rw [List.take_zero]; exact HW.out.nil_mem⟩
  case round =>
    obtain ⟨k, hk, rfl, rfl, hm⟩ := hrel
    by_cases hlt : k < b.length
    · obtain ⟨bb, off, rfl, hbb, hc⟩ := HB.out (by omega)
      have hck := hc k hlt
      have HE := Lib.hid (step_take hlt hm)
      have hkl : (k : Int) < (b.length : Int) := by omega
      have HM := Lib.hid hm
      have hz0 := (place_nonneg ps (b.take k)).2 hm
      have hz1 := place_lt ps (b.take k)
      clear hc hm
      generalize place ps (b.take k) = z at *
      have HZ : Hid ((Lit.int .i64 z).wf = true) := Lib.hid (wf_nat (by omega) (by omega))
      by_cases hm2 : b.take (k + 1) ∈ ps
      · have hy0 : ¬ place ps (b.take (k + 1)) < 0 := by have := (place_nonneg ps (b.take (k + 1))).2 hm2; omega
        have HM2 := Lib.hid hm2
        clear hm2
        generalize hy : place ps (b.take (k + 1)) = y at *
        have HY := Lib.hid hy
        clear hy
        go_wp2_with (go_at_call 36; (with_reducible refine (HS.out z HZ.out b[k]).mono ?_); rintro e w1 ⟨rfl, rfl⟩; rw [HE.out])
        go_round
        case rel => exact ⟨k + 1, by omega, by go_num, by rw [HY.out], HM2.out⟩
        case measure => simp [intOf]; omega
      · have hy0 : place ps (b.take (k + 1)) < 0 := by rw [place_not hm2]; omega
        have HN : Hid (place ps b = -1) := Lib.hid (place_not fun e => hm2 (HW.out.closed_take (q := b.drop (k + 1)) (by rwa [List.take_append_drop])))
        clear hm2
        generalize place ps (b.take (k + 1)) = y at *
        go_wp2_with (go_at_call 36; (with_reducible refine (HS.out z HZ.out b[k]).mono ?_); rintro e w1 ⟨rfl, rfl⟩; rw [HE.out])
        go_ret
        exact ⟨ret_int HN.out.symm, rfl⟩
    · obtain rfl : k = b.length := by omega
      rw [List.take_length]
      clear hm
      go_wp2
      go_ret
      exact ⟨ret_int rfl, rfl⟩
end Go.Proofs.Ytcknipokplomcaa.Tri
