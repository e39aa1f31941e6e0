/- The walk of the law FoldBytes. -/
import Derived.Test.YtobkljjbemfkeaaWalkh
import Derived.Deep.RegionHeld3
namespace Go.Proofs.Ytobkljjbemfkeaa.foldBytes
open Go.RowKit

set_option maxHeartbeats 4000000 in
theorem walk (w : World) (l : List UInt8) (a : Option Addr) (cap : Nat) (hm : l.length ≤ maxLen) (hb : Bs w w.heap.size a l) :
    Calls Try.prog 3 #[.slice a l.length cap] w fun e w' => e = .returned (.bool true) ∧ Below w.heap.size w w' := by
  unfold maxLen at hm
  by_cases hl : l.length ≤ 600
  · have hl' : l.length ≤ 1000000000000 := by omega
    have hsl := str_list (lows l)
    have hsl2 := str_list l
    go_enter Try.func3, Try.ntmps3
    go_wp2_with fail
    go_at_call 9
    refine (awake_any w).mono ?_
    rintro e w1 ⟨rfl, hb1⟩
    have hk1 := str_of_bs cap (hb.keep hb1)
    go_wp2_with fail
    clear hk1
    go_at_call 10
    refine (rbytes_any l w1 hl').mono ?_
    rintro e w2 ⟨rfl, hb2⟩
    have B2 : Below w.heap.size w w2 := hb1.trans (hb2.mono hb1.size)
    have hB2 : Bs w2 w2.heap.size a l := (hb.keep B2).more B2.size
    have hD : Bs w2.drew w2.drew.heap.size a l := hB2
    clear hb1 hb2
    go_wp2
    go_region_with (first
      | (go_at_call 11; refine (bytes_any l a cap _ hl' hD).mono ?_; rintro e w3 ⟨a3, cap3, rfl, hb3, hbel3⟩; have hk3 := str_of_bs cap3 hb3; have hkb := str_of_bs cap (hD.keep hbel3))
      | (go_at_call 12; refine (fixed_any l a cap _ hl' ((hD.keep hbel3).more hbel3.size)).mono ?_; rintro e w4 ⟨rfl, hb4⟩; have hkc := str_of_bs cap ((hD.keep hbel3).keep (hb4.mono hbel3.size))))
    all_goals
      go_wp2
      go_ret
      refine ⟨by simp [Act.put], (B2.drew.trans (hbel3.mono B2.size)).trans (hb4.mono (Nat.le_trans B2.size hbel3.size))⟩
  · have hgt : 600 < l.length := by omega
    go_enter Try.func3, Try.ntmps3
    go_wp2_with fail
    go_at_call 9
    refine (awake_any w).mono ?_
    rintro e w1 ⟨rfl, hb1⟩
    go_wp2
    go_ret
    exact ⟨rfl, hb1⟩
end Go.Proofs.Ytobkljjbemfkeaa.foldBytes
