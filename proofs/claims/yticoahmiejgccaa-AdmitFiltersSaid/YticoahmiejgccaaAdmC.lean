/- Which pieces may be: the document's example. -/
import Derived.Test.YticoahmiejgccaaAdmA
namespace Go.Proofs.Yticoahmiejgccaa.Adm
open Go.RowKit Go.Proofs.Yticoahmiejgccaa.Prs
set_option maxRecDepth 100000
theorem const_at (w : World) (g : Nat) (hg : g = w.heap.size) (C : Array Value) (n c : Nat) :
    (convert 22 22 (.slice (some ⟨g, 0, none⟩) n c)).run Try.prog (w.alloc (.cells C 5)) = .ok (.slice (some ⟨g, 0, none⟩) n c) (w.alloc (.cells C 5 (C.size, C.size + 1))) := by
  subst hg
  exact Lib.run_convert_bytes_const w 22 5 C n c Try.underlying22 Try.underlying5
abbrev ex6 : Tx := [97, 98, 32, 99, 100, 95]
theorem eqv {a b : Bool} {P : World → World → Prop} {f : FuncId} {args : Array Value} {X : World} (h : a = b) (c : Calls Try.prog f args X fun e w' => e = .returned (.bool a) ∧ P X w') : Calls Try.prog f args X fun e w' => e = .returned (.bool b) ∧ P X w' := by rw [← h]; exact c

set_option maxHeartbeats 2000000 in
theorem awake_any (w : World) : Calls Try.prog 8 #[] w fun r w' => r = .returned (.bool true) ∧ Below w.heap.size w w' := by
  obtain ⟨W, hW⟩ : ∃ W, W = w.alloc (.cells #[.int .u8 97, .int .u8 98, .int .u8 32, .int .u8 99, .int .u8 100, .int .u8 95] 5 (6, 7)) := ⟨_, rfl⟩
  have hb : Bs W W.heap.size (some ⟨w.heap.size, 0, none⟩) ex6 := by rw [hW]; exact bs_lit w ex6 (6, 7) _ rfl
  have HB0 : Hid (Below w.heap.size w W) := Lib.hid (by rw [hW]; exact (Below.refl _ _).alloc (Nat.le_refl _) _)
  have BT : ∀ X, Below W.heap.size W X → Bs X X.heap.size (some ⟨w.heap.size, 0, none⟩) ex6 := fun X h => (hb.keep h).more h.size
  have C1 : Hid (∀ X, Below W.heap.size W X → Calls Try.prog 13 #[.slice (some ⟨w.heap.size, 0, none⟩) 6 6, .agg #[.int .i64 0, .int .i64 2]] X fun e w' => e = .returned (.bool true) ∧ Below X.heap.size X w') := Lib.hid fun X h => eqv (by decide +kernel) (free_any ex6 _ 6 ⟨0, 2⟩ X (by decide) (BT X h))
  have C2 : Hid (∀ X, Below W.heap.size W X → Calls Try.prog 13 #[.slice (some ⟨w.heap.size, 0, none⟩) 6 6, .agg #[.int .i64 3, .int .i64 5]] X fun e w' => e = .returned (.bool false) ∧ Below X.heap.size X w') := Lib.hid fun X h => eqv (by decide +kernel) (free_any ex6 _ 6 ⟨3, 5⟩ X (by decide) (BT X h))
  have C3 : Hid (∀ X, Below W.heap.size W X → Calls Try.prog 15 #[.slice (some ⟨w.heap.size, 0, none⟩) 6 6, .agg #[.int .i64 3, .int .i64 5], .bool false, .bool false] X fun e w' => e = .returned (.bool true) ∧ Below X.heap.size X w') := Lib.hid fun X h => eqv (by decide +kernel) (may_any ex6 _ 6 ⟨3, 5⟩ false false X (by decide) (BT X h))
  have C4 : Hid (∀ X, Below W.heap.size W X → Calls Try.prog 15 #[.slice (some ⟨w.heap.size, 0, none⟩) 6 6, .agg #[.int .i64 0, .int .i64 2], .bool false, .bool true] X fun e w' => e = .returned (.bool false) ∧ Below X.heap.size X w') := Lib.hid fun X h => eqv (by decide +kernel) (may_any ex6 _ 6 ⟨0, 2⟩ false true X (by decide) (BT X h))
  have C5 : Hid (∀ X, Below W.heap.size W X → Calls Try.prog 15 #[.slice (some ⟨w.heap.size, 0, none⟩) 6 6, .agg #[.int .i64 0, .int .i64 6], .bool true, .bool true] X fun e w' => e = .returned (.bool true) ∧ Below X.heap.size X w') := Lib.hid fun X h => eqv (by decide +kernel) (may_any ex6 _ 6 ⟨0, 6⟩ true true X (by decide) (BT X h))
  have HWW := Lib.hid hW
  have B0 := Lib.hid (Below.refl W.heap.size W)
  clear BT hb hW
  have hcv := const_at w w.heap.size rfl #[.int .u8 97, .int .u8 98, .int .u8 32, .int .u8 99, .int .u8 100, .int .u8 95] 6 6
  go_enter Try.func8, Try.ntmps8
  go_wp2_with fail
  rw [← HWW.out]
  clear HWW hcv
  go_wp2_with (first
    | (go_at_call 13; (with_reducible refine (C1.out _ B0.out).mono ?_); rintro e w1 ⟨rfl, hb⟩; have B1 := Lib.hid (B0.out.trans (hb.mono B0.out.size)); clear hb)
    | (go_at_call 13; (with_reducible refine (C2.out _ B1.out).mono ?_); rintro e w2 ⟨rfl, hb⟩; have B2 := Lib.hid (B1.out.trans (hb.mono B1.out.size)); clear hb)
    | (go_at_call 15; (with_reducible refine (C3.out _ B2.out).mono ?_); rintro e w3 ⟨rfl, hb⟩; have B3 := Lib.hid (B2.out.trans (hb.mono B2.out.size)); clear hb)
    | (go_at_call 15; (with_reducible refine (C4.out _ B3.out).mono ?_); rintro e w4 ⟨rfl, hb⟩; have B4 := Lib.hid (B3.out.trans (hb.mono B3.out.size)); clear hb)
    | (go_at_call 15; (with_reducible refine (C5.out _ B4.out).mono ?_); rintro e w5 ⟨rfl, hb⟩; have B5 := Lib.hid (B4.out.trans (hb.mono B4.out.size)); clear hb))
  go_ret
  exact ⟨rfl, HB0.out.trans (B5.out.mono HB0.out.size)⟩
end Go.Proofs.Yticoahmiejgccaa.Adm
