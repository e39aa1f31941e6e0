/- The document's example: awake. -/
import Derived.Test.YtcoghcfhkndijaaJb
namespace Go.Proofs.Ytcoghcfhkndijaa.Two
open Go.RowKit Go.Maps Go.Proofs.Ytcoghcfhkndijaa.Crt Go.Proofs.Ytcoghcfhkndijaa.Suf Go.Proofs.Ytcoghcfhkndijaa.Prs
set_option maxRecDepth 100000
set_option linter.unusedVariables false

def exb : Tx := [97, 97]
def exl : Tx := [97, 97, 97]
theorem ex_pcs : pcs exb exl = [⟨0, 2⟩, ⟨1, 3⟩] := by decide +kernel
theorem ex_next : nextOf exb exl 1 = 1 ∧ nextOf exb exl 2 = -1 := by decide +kernel
theorem ln_lit (w : World) (l : Tx) (n : Nat) (cs : Array Value) (hcs : cs = (l.map fun c => Value.int .u8 (c.toNat : Int)).toArray) (fr : Nat × Nat) (hn : n = l.length) : Ln (w.alloc (.cells cs 5 fr)) (some ⟨w.heap.size, 0, none⟩) l n := ⟨bs_lit w l fr cs hcs, by omega, fun e => by cases e⟩
set_option maxHeartbeats 4000000 in
theorem awake_any (w : World) : Calls Try.prog 9 #[] w fun e w' => e = .returned (.bool true) ∧ Below w.heap.size w w' := by
  have kc := fun (w : World) (C : Array Value) (n c : Nat) => Lib.run_convert_bytes_const (P := Try.prog) w 22 5 C n c und22 und5
  go_enter Try.func9, Try.ntmps9
  go_wp2_with fail
  refine (new_some _ exb _ 2 (ln_lit w exb 2 _ rfl (2, 3) rfl) (by decide) (by decide)).mono ?_
  rintro e w1 ⟨t, rfl, ht, hb1⟩
  have HW1 := Lib.hid ((((Below.refl w.heap.size w).alloc (Nat.le_refl _) (.cells #[.int .u8 97, .int .u8 97] 5 (2, 3)))).trans (hb1.mono (by simp)))
  have HT1 := Lib.hid ht
  clear ht hb1
  go_wp2_with fail
  refine (new_none w1 none 0).mono ?_
  rintro e w2 ⟨rfl, hb2⟩
  have HT2 := Lib.hid (HT1.out.keep hb2)
  have HW2 := Lib.hid (HW1.out.trans (hb2.mono HW1.out.size))
  clear hb2 HT1 HW1
  go_wp2_with fail
  have hs2 := HW2.out.size
  have hb3 : Below w2.heap.size w2 (w2.alloc (.cells #[.int .u8 97, .int .u8 97, .int .u8 97] 5 (3, 4))) := (Below.refl _ _).alloc (Nat.le_refl _) _
  refine (scan_some _ t exb (HT2.out.keep hb3) (by decide) (by decide) exl _ 3 (ln_lit w2 exl 3 _ rfl (3, 4) rfl) (by decide)).mono ?_
  rw [ex_pcs]
  rintro e w4 ⟨A, c, rfl, hps, hb4⟩
  have HT4 := Lib.hid ((HT2.out.keep hb3).keep hb4)
  have HW4 := Lib.hid ((HW2.out.trans (hb3.mono HW2.out.size)).trans (hb4.mono (HW2.out.trans (hb3.mono HW2.out.size)).size))
  obtain ⟨b1, o1, rfl, hbl, hcs⟩ := hps (by simp)
  have h1 := hcs 1 (by simp)
  have h1a : w4.cell? ⟨b1, o1 + 2, none⟩ = some (.int .i64 1) := by simpa using h1.1
  have h1b : w4.cell? ⟨b1, o1 + 2 + 1, none⟩ = some (.int .i64 3) := by simpa using h1.2
  have h1c : w4.cell? ⟨b1, o1 + 3, none⟩ = some (.int .i64 3) := by simpa using h1.2
  clear hb3 hb4 hcs h1 hps HT2 HW2
  go_wp2_with fail
  have hs4 := HW4.out.size
  have hb5 : Below w4.heap.size w4 (w4.alloc (.cells #[.int .u8 97, .int .u8 97, .int .u8 97] 5 (3, 4))) := (Below.refl _ _).alloc (Nat.le_refl _) _
  refine (next_some _ t exb (HT4.out.keep hb5) (by decide) (by decide) exl _ 3 (ln_lit w4 exl 3 _ rfl (3, 4) rfl) (by decide) 1 (by decide)).mono ?_
  rw [show (1 : Int).toNat = 1 from rfl, ex_next.1]
  rintro e w6 ⟨rfl, hb6⟩
  have HT6 := Lib.hid ((HT4.out.keep hb5).keep hb6)
  have HW6 := Lib.hid ((HW4.out.trans (hb5.mono HW4.out.size)).trans (hb6.mono (HW4.out.trans (hb5.mono HW4.out.size)).size))
  clear hb5 hb6 HT4 HW4 h1a h1b h1c
  go_wp2_with fail
  have hb7 : Below w6.heap.size w6 (w6.alloc (.cells #[.int .u8 97, .int .u8 97, .int .u8 97] 5 (3, 4))) := (Below.refl _ _).alloc (Nat.le_refl _) _
  refine (next_some _ t exb (HT6.out.keep hb7) (by decide) (by decide) exl _ 3 (ln_lit w6 exl 3 _ rfl (3, 4) rfl) (by decide) 2 (by decide)).mono ?_
  rw [show (2 : Int).toNat = 2 from rfl, ex_next.2]
  rintro e w8 ⟨rfl, hb8⟩
  have HW8 := Lib.hid ((HW6.out.trans (hb7.mono HW6.out.size)).trans (hb8.mono (HW6.out.trans (hb7.mono HW6.out.size)).size))
  clear hb7 hb8 HT6 HW6
  go_wp2
  go_ret
  exact ⟨rfl, HW8.out⟩
end Go.Proofs.Ytcoghcfhkndijaa.Two
