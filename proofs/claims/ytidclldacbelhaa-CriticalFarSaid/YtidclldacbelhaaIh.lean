/- The document's examples: awake. -/
import Derived.Test.YtidclldacbelhaaIe
namespace Go.Proofs.Ytidclldacbelhaa.Cut
open Go.RowKit Go.Maps Go.Proofs.Ytidclldacbelhaa.Crt Go.Proofs.Ytidclldacbelhaa.Suf
set_option maxRecDepth 100000
set_option linter.unusedVariables false

def ex1 : Tx := [97, 98, 99, 97, 98, 99, 97, 98]
def ex2 : Tx := [98, 97, 110, 97, 110, 97]
def ex3 : Tx := [97, 98]
def ex4 : Tx := [97, 97]
theorem ex1_fac : facV ex1 = .agg #[.int .i64 2, .int .i64 3, .bool true] := by
  have h : ex1 ≠ [] ∧ cutAt ex1 = 2 ∧ movePer ex1 = 3 ∧ smallB ex1 = true := by decide +kernel
  rw [facV, if_neg h.1, h.2.1, h.2.2.1, h.2.2.2]; rfl
theorem ex2_fac : facV ex2 = .agg #[.int .i64 2, .int .i64 5, .bool false] := by
  have h : ex2 ≠ [] ∧ cutAt ex2 = 2 ∧ movePer ex2 = 5 ∧ smallB ex2 = false := by decide +kernel
  rw [facV, if_neg h.1, h.2.1, h.2.2.1, h.2.2.2]; rfl
theorem ex_loc : locN ex3 1 = 2 ∧ locN ex4 1 = 1 := by decide +kernel
theorem ex_lits (w : World) (l : Tx) (cs : Array Value) (hcs : cs = (l.map fun c => Value.int .u8 (c.toNat : Int)).toArray) (fr : Nat × Nat) : Bs (w.alloc (.cells cs 5 fr)) (w.alloc (.cells cs 5 fr)).heap.size (some ⟨w.heap.size, 0, none⟩) l := bs_lit w l fr cs hcs
set_option maxHeartbeats 4000000 in
theorem awake_any (w : World) : Calls Try.prog 8 #[] w fun e w' => e = .returned (.bool true) ∧ Below w.heap.size w w' := by
  have kc := fun (w : World) (C : Array Value) (n c : Nat) => Lib.run_convert_bytes_const (P := Try.prog) w 22 5 C n c und22 und5
  go_enter Try.func8, Try.ntmps8
  go_wp2_with fail
  refine (factor_any _ ex1 _ 8 (ex_lits w ex1 _ rfl (8, 9)) (by decide)).mono ?_
  rintro e w1 ⟨rfl, hb1⟩
  rw [ex1_fac]
  have HW1 : Hid (Below w.heap.size w w1) := Lib.hid (((Below.refl _ _).alloc (Nat.le_refl _) _).trans (hb1.mono (by simp)))
  clear hb1
  go_wp2_with fail
  have hs1 := HW1.out.size
  refine (factor_any _ ex2 _ 6 (ex_lits w1 ex2 _ rfl (6, 7)) (by decide)).mono ?_
  rintro e w2 ⟨rfl, hb2⟩
  rw [ex2_fac]
  have HW2 : Hid (Below w.heap.size w w2) := Lib.hid ((HW1.out.alloc hs1 _).trans (hb2.mono (by simp; omega)))
  clear hb2
  go_wp2_with fail
  have hs2 := HW2.out.size
  refine (local_in _ ex3 _ 2 (ex_lits w2 ex3 _ rfl (2, 3)) (by decide) (fun e => by cases e) (by decide) 1 (by decide)).mono ?_
  rintro e w3 ⟨rfl, hb3⟩
  rw [ex_loc.1]
  have HW3 : Hid (Below w.heap.size w w3) := Lib.hid ((HW2.out.alloc hs2 _).trans (hb3.mono (by simp; omega)))
  clear hb3
  go_wp2_with fail
  have hs3 := HW3.out.size
  refine (local_in _ ex4 _ 2 (ex_lits w3 ex4 _ rfl (2, 3)) (by decide) (fun e => by cases e) (by decide) 1 (by decide)).mono ?_
  rintro e w4 ⟨rfl, hb4⟩
  rw [ex_loc.2]
  have HW4 : Hid (Below w.heap.size w w4) := Lib.hid ((HW3.out.alloc hs3 _).trans (hb4.mono (by simp; omega)))
  clear hb4
  go_wp2
  go_ret
  exact ⟨rfl, HW4.out⟩
end Go.Proofs.Ytidclldacbelhaa.Cut
