/- The walk of the law LinesSplit. -/
import Derived.Test.YtcieikibfmelkaaWj
namespace Go.Proofs.Ytcieikibfmelkaa
open Go.RowKit

/-- A callee that leaves the world alone, inside a region that only reads. -/
theorem quietly {P : Program} {f : FuncId} {args : Array Value} {w : World} {n : Nat} {v : Value}
    (h : Calls P f args (w.drewN n) fun e w' => e = .returned v ∧ w.drewN n = w') : Calls P f args (w.drewN n) fun e w'' => e = .returned v ∧ ∃ m, w'' = w.drewN m :=
  h.mono fun _ _ ⟨he, hm⟩ => ⟨he, n, hm.symm⟩

/-- A slice of the reference's lines that reads as ls. -/
def Rs (W : World) (a : Option Addr) (ls : List Ln) : Prop :=
  0 < ls.length → ∃ b off, a = some ⟨b, off, none⟩ ∧ b < W.heap.size ∧ ∀ i (h : i < ls.length), W.cell? ⟨b, off + i * 3, none⟩ = some (.int .i64 (ls[i].off : Int)) ∧
    W.cell? ⟨b, off + i * 3 + 1, none⟩ = some (.string (str ls[i].text)) ∧ W.cell? ⟨b, off + i * 3 + 2, none⟩ = some (.bool ls[i].ends)
theorem Rs.keep {W W' : World} {a : Option Addr} {ls : List Ln} (h : Rs W a ls) (hb : Below W.heap.size W W') : Rs W' a ls := fun h0 => by
  obtain ⟨b, off, e, hlt, hc⟩ := h h0
  refine ⟨b, off, e, Nat.lt_of_lt_of_le hlt hb.size, fun i hi => ?_⟩
  obtain ⟨h1, h2, h3⟩ := hc i hi
  exact ⟨(hb.cell (p := ⟨b, _, none⟩) hlt).trans h1, (hb.cell (p := ⟨b, _, none⟩) hlt).trans h2, (hb.cell (p := ⟨b, _, none⟩) hlt).trans h3⟩
theorem rflat_at : ∀ (xs : List Ln) (i j : Nat), j < 3 → (h : i < xs.length) → (xs.flatMap rcells)[i * 3 + j]? = (rcells xs[i])[j]?
  | [], i, j, _, h => absurd h (by simp)
  | x :: xs, 0, j, hj, _ => by
    rw [List.flatMap_cons, List.getElem?_append_left (by simp [rcells]; omega)]
    simp
  | x :: xs, i + 1, j, hj, h => by
    have h' : i < xs.length := by simpa using h
    rw [List.flatMap_cons, List.getElem?_append_right (by simp [rcells]; omega)]
    have e : (i + 1) * 3 + j - (rcells x).length = i * 3 + j := by simp [rcells]; omega
    rw [e, rflat_at xs i j hj h']
    rfl
theorem own_rs {W : World} {base : Nat} {v : Value} {xs : List Ln} (h : W.ownsRow base 33 3 v xs.length (xs.flatMap rcells)) : ∃ a cap, v = .slice a xs.length cap ∧ Rs W a xs := by
  rcases h.2 with ⟨rfl, h0⟩ | ⟨g, cap, cur, rfl, hg, hh, hnc, _, hs, htk⟩
  · exact ⟨none, 0, by rw [h0], fun h1 => by omega⟩
  · refine ⟨some ⟨g, 0, none⟩, cap, rfl, fun _ => ⟨g, 0, rfl, txt_lt hh, fun i hi => ?_⟩⟩
    have key : ∀ j, j < 3 → W.cell? ⟨g, 0 + i * 3 + j, none⟩ = (rcells xs[i])[j]? := fun j hj => by
      rw [cell_of_row W g _ _ 33 (0, 0) hh, Nat.zero_add, ← rflat_at xs i j hj hi, ← htk, List.getElem?_take_of_lt (by omega), Array.getElem?_toList]
    exact ⟨key 0 (by omega), key 1 (by omega), key 2 (by omega)⟩

namespace linesSplit
set_option maxRecDepth 100000 in
set_option maxHeartbeats 8000000 in
theorem walk (w : World) (t : List UInt8) (a : Option Addr) (cap : Nat) (hm : t.length ≤ maxLen) (hb : Bs w w.heap.size a t) :
    Calls Try.prog 3 #[.slice a t.length cap] w fun e w' => e = .returned (.bool true) ∧ Below w.heap.size w w' := by
  unfold maxLen at hm
  by_cases hl : t.length ≤ 1000
  · have hln := lines_le t
    have hdl : decide ((1000 : Int) < (t.length : Int)) = false := decide_eq_false (by omega)
    obtain ⟨n, hn⟩ : ∃ n, n = (linesOf t).length := ⟨_, rfl⟩
    obtain ⟨k0, hk0⟩ : ∃ k, k = t.length - nls t := ⟨_, rfl⟩
    have COU : Hid (∀ w : World, Bs w w.heap.size a t → Calls Try.prog 12 #[.slice a t.length cap] w fun e w' => e = .returned (.int .i64 (n : Int)) ∧ w = w') := Lib.hid fun w h => count_n t a cap _ n w rfl hn.symm (by omega) h
    have BAR : Hid (∀ w : World, Bs w w.heap.size a t → Calls Try.prog 13 #[.slice a t.length cap] w fun e w' => e = .returned (.int .i64 (k0 : Int)) ∧ w = w') := Lib.hid fun w h => bare_n t a cap _ k0 w rfl hk0.symm (by omega) h
    have RBA : Hid (∀ w : World, Calls Try.prog 14 #[.string (str t)] w fun e w' => e = .returned (.int .i64 (k0 : Int)) ∧ w = w') := Lib.hid fun w => by rw [hk0]; exact rbare_any t w (by omega)
    have HN := Lib.hid hn
    have hn1 : n ≤ 1000 := by omega
    clear hn hk0 hln
    go_enter Try.func3, Try.ntmps3
    go_wp2_with fail
    go_at_call 9
    refine (awake_any w).mono ?_
    rintro e w1 ⟨rfl, B1⟩
    go_wp2_with fail
    go_at_call 10
    refine (split_ls t a cap _ _ rfl (by omega) ((hb.keep B1).more B1.size)).mono ?_
    rintro e w2 ⟨a2, cap2, xs, rfl, hmx, hlc, hls, hb2⟩
    have hxl : xs.length = n := by have := congrArg List.length hmx; rw [HN.out]; simpa using this
    rw [hxl]
    have B2 : Below w.heap.size w w2 := B1.trans (hb2.mono B1.size)
    have hk2 := str_of_bs cap (hb.keep B2)
    have HMX := Lib.hid hmx
    have HXL := Lib.hid hxl
    clear hmx hxl B1 hb2
    go_wp2_with fail
    clear hk2
    go_at_call 11
    refine (rsplit_any t _ (by omega)).mono ?_
    rintro e w3 ⟨v3, rfl, hown3, hb3⟩
    obtain ⟨a3, cap3, rfl, hrs⟩ := own_rs hown3
    rw [← HN.out]
    have B3 : Below w.heap.size w w3 := B2.trans (hb3.mono B2.size)
    have L3 := hls.keep hb3
    have hB3 : Bs w3 w3.heap.size a t := (hb.keep B3).more B3.size
    have hk3 : ∀ k, (convert 22 9 (.slice a t.length cap)).run Try.prog (w3.drewN k) = .ok (.string (str t)) (w3.drewN k) := fun k => str_of_bs (w := w3.drewN k) cap hB3
    clear hls hb3 hown3 B2
    have d0 : ((n : Int) != (n : Int)) = false := by simp
    have d1 : ((k0 : Int) != (k0 : Int)) = false := by simp
    go_wp2
    go_quiet ((first | (go_at_call 12; exact quietly (COU.out _ hB3)) | (go_at_call 13; exact quietly (BAR.out _ hB3)) | (go_at_call 14; exact quietly (RBA.out _))))
    go_wp2
    obtain ⟨w4, hw4⟩ : ∃ w4, w4 = w3.drewN nq := ⟨_, rfl⟩
    rw [← hw4]
    have B4 : Below w3.heap.size w3 w4 := by rw [hw4]; exact below_drews (Below.refl _ _) _
    clear hw4 hk3 d0 d1
    go_loopw [6] (fun i wr => ∃ k : Nat, k ≤ n ∧ i = .int .i64 k ∧ Below w3.heap.size w3 wr) (fun i _ => n - (intOf i).toNat)
    case atStart => exact ⟨0, Nat.zero_le _, rfl, B4⟩
    case round =>
      obtain ⟨k, hk, rfl, hbel⟩ := hrel
      by_cases hlt : k < n
      · have hx0 : k < xs.length := by rw [HXL.out]; exact hlt
        have hr0 : k < (linesOf t).length := by rw [← HN.out]; exact hlt
        obtain ⟨ba, oa, rfl, hba, hca⟩ := (L3.keep hbel).1 (by omega)
        obtain ⟨bb, ob, rfl, hbb, hcb⟩ := (hrs.keep hbel) (by omega)
        have hln : (linesOf t)[k] = xs[k].ln := by
          have e := congrArg (fun l => l[k]?) HMX.out
          simpa [hx0, hr0] using e.symm
        have htx := (L3.keep hbel).2 xs[k] (List.getElem_mem hx0)
        obtain ⟨ca0, ca1, ca2⟩ := hca k hx0
        obtain ⟨cb0, cb1, cb2⟩ := hcb k hr0
        rw [hln] at cb0 cb1 cb2
        clear hca hcb hln
        generalize xs[k].a = A1 at *
        generalize xs[k].cap = C1 at *
        generalize xs[k].ln = L at *
        obtain ⟨o, tx, en⟩ := L
        simp only [] at ca0 ca1 ca2 cb0 cb1 cb2 htx
        have hk1 : ∀ q, (convert 22 9 (.slice A1 tx.length C1)).run Try.prog (wr.drewN q) = .ok (.string (str tx)) (wr.drewN q) := fun q => str_of_bs (w := wr.drewN q) C1 htx
        have hkl : (k : Int) < (n : Int) := by omega
        have d1 : ((o : Int) != (o : Int)) = false := by simp
        clear hrs L3 hB3
        go_wp2
        go_quiet (fail)
        go_wp2
        go_roundw
        case rel => exact ⟨k + 1, by omega, by go_num, below_drews hbel _⟩
        case measure => simp [intOf]; omega
      · go_wp2
        go_ret
        exact ⟨rfl, B3.trans (hbel.mono B3.size)⟩
  · have hgt : 1000 < t.length := by omega
    go_enter Try.func3, Try.ntmps3
    go_wp2_with fail
    go_at_call 9
    refine (awake_any w).mono ?_
    rintro e w1 ⟨rfl, hb1⟩
    go_wp2
    go_ret
    exact ⟨rfl, hb1⟩
end linesSplit
end Go.Proofs.Ytcieikibfmelkaa
