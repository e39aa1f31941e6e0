/- The document's examples, and the contract of awake. -/
import Derived.Test.YteggdhfchamffaaPa
import Derived.Test.YteggdhfchamffaaPd
namespace Go.Proofs.Yteggdhfchamffaa
open Go.RowKit

def A1 : List (List UInt8) := [[97, 98], [97], [97, 98]]
def A2 : List (List UInt8) := [[97], []]
def A3 : List (List UInt8) := [[97, 98], [97, 98]]
theorem ex1 : loaded false [97, 98, 10, 97, 10, 97, 98] = A1 := by decide +kernel
theorem ex2 : loaded false [97, 10, 10] = A2 := by decide +kernel
theorem ex3 : loaded true [65, 98, 10, 97, 66] = A3 := by decide +kernel
theorem pt1 : pats A1 = [[97, 98], [97]] := by decide +kernel
theorem pt2 : pats A2 = [[97]] := by decide +kernel
theorem pt3 : pats A3 = [[97, 98]] := by decide +kernel

/-- A file is loaded: what comes of it, with the lengths written out. -/
theorem load_n (f : Bool) (t : List UInt8) (A : List (List UInt8)) (n k : Nat) (ad : Option Addr) (cap : Nat) (w : World) (ht : t.length = k) (hk : k ≤ 1024) (hA : loaded f t = A) (hn : (pats A).length = n) (hb : Bs w w.heap.size ad t) :
    Calls Try.prog 10 #[.slice ad k cap, .bool f] w fun e w' => ∃ m a c, e = .returned (.tuple #[.agg #[.map m, .slice a n c], .int .i64 0]) ∧ IsSet w' m a A ∧ Below w.heap.size w w' := by
  subst ht hA hn
  refine (load_any f t ad cap w (by omega) hb).mono ?_
  rintro e w' ⟨m, a, c, rfl, hs, hb⟩
  have hc : code t = 0 := by unfold code; rw [if_neg (by omega)]
  exact ⟨m, a, c, by rw [hc]; rfl, hs, hb⟩
theorem patterns_n (A : List (List UInt8)) (P : List (List UInt8)) (n : Nat) (m : Option Nat) (a : Option Addr) (c : Nat) (w : World) (hP : pats A = P) (hn : P.length = n) (hs : IsSet w m a A) (hl : n ≤ 100000000) (hx : ∀ x ∈ P, x.length ≤ 1000000000) :
    Calls Try.prog 18 #[.agg #[.map m, .slice a n c]] w fun e w' => ∃ a' c' xs, e = .returned (.slice a' n c') ∧ xs.map TxV.text = P ∧ Ts w' a' xs ∧ Below w.heap.size w w' := by
  subst hP hn
  exact patterns_any _ a c _ w hs.2 hl hx
theorem isSet_app {W : World} {m : Option Nat} {a : Option Addr} {A : List (List UInt8)} (h : IsSet W m a A) (o : Obj) : IsSet (W.alloc o) m a A := h.keep ((Below.refl _ _).alloc (Nat.le_refl _) _)

theorem const_at (w : World) (g : Nat) (hg : g = w.heap.size) (C : Array Value) (n c : Nat) :
    (convert 22 22 (.slice (some ⟨g, 0, none⟩) n c)).run Try.prog (w.alloc (.cells C 5)) = .ok (.slice (some ⟨g, 0, none⟩) n c) (w.alloc (.cells C 5 (C.size, C.size + 1))) := by
  subst hg
  exact Lib.run_convert_bytes_const w 22 5 C n c und22 und5
theorem bs_lit_at (w : World) (g : Nat) (l : List UInt8) (fr : Nat × Nat) (cs : Array Value) (hg : g = w.heap.size) (hcs : cs = (l.map fun c => Value.int .u8 (c.toNat : Int)).toArray) :
    Bs (w.alloc (.cells cs 5 fr)) (w.alloc (.cells cs 5 fr)).heap.size (some ⟨g, 0, none⟩) l := by
  subst hg; exact bs_lit w l fr cs hcs
theorem below_new (w : World) (x : Obj) : Below w.heap.size w (w.alloc x) := (Below.refl _ _).alloc (Nat.le_refl _) _
/-- A box with a set in it. -/
def Box (W : World) (g : Nat) (m : Option Nat) (a : Option Addr) (n c : Nat) (A : List (List UInt8)) : Prop := Blk2 W g 27 (.map m) (.slice a n c) ∧ IsSet W m a A
theorem Box.keep {W W' : World} {g : Nat} {m : Option Nat} {a : Option Addr} {n c : Nat} {A : List (List UInt8)} (h : Box W g m a n c A) (hb : Below W.heap.size W W') : Box W' g m a n c A := ⟨h.1.keep hb h.1.lt, h.2.keep hb⟩
theorem Box.new {W : World} {m : Option Nat} {a : Option Addr} {n c : Nat} {A : List (List UInt8)} (h : IsSet W m a A) : Box (W.alloc (.cells #[.map m, .slice a n c] 27)) W.heap.size m a n c A := ⟨Blk2.new _ _ _ _, h.keep (below_new _ _)⟩

set_option maxRecDepth 100000 in
set_option maxHeartbeats 8000000 in
theorem awake_any (w : World) : Calls Try.prog 9 #[] w fun e w' => e = .returned (.bool true) ∧ Below w.heap.size w w' := by
  have kc := fun (w : World) (C : Array Value) (n c : Nat) => Lib.run_convert_bytes_const (P := Try.prog) w 22 5 C n c Try.underlying22 Try.underlying5
  have kd := fun (w : World) (o : Obj) (C : Array Value) (n c : Nat) => const_at (w.alloc o) (w.heap.size + 1) (by simp) C n c
  go_enter Try.func9, Try.ntmps9
  go_wp2_with fail
  refine (load_n false [97, 98, 10, 97, 10, 97, 98] A1 2 7 _ 7 _ rfl (by omega) ex1 (by rw [pt1]; rfl) (bs_lit w [97, 98, 10, 97, 10, 97, 98] (7, 8) _ rfl)).mono ?_
  rintro e w1 ⟨m1, a1, c1, rfl, hs1, hb1⟩
  go_wp2_with fail
  refine (load_n false [97, 10, 10] A2 1 3 _ 3 _ rfl (by omega) ex2 (by rw [pt2]; rfl) (bs_lit_at (w1.alloc (.cells #[.map m1, .slice a1 2 c1] 27)) (w1.heap.size + 1) [97, 10, 10] (3, 4) _ (by simp) rfl)).mono ?_
  rintro e w2 ⟨m2, a2, c2, rfl, hs2, hb2⟩
  have B1 : Below w.heap.size w w1 := (below_new _ _).trans (hb1.mono (by simp))
  have b1 : Below (w1.heap.size + 1) (w1.alloc (.cells #[.map m1, .slice a1 2 c1] 27)) w2 := ((below_new _ _).mono (by simp)).trans (hb2.mono (by simp))
  have x1 := (Box.new (n := 2) (c := c1) hs1).keep (by simpa using b1)
  have s1 := b1.size
  have B2 : Below w.heap.size w w2 := ((B1.alloc B1.size _).trans (b1.mono (by have := B1.size; omega)))
  rw [World.size_alloc] at s1
  clear hs1 hb1 hb2 b1 B1
  go_wp2_with fail
  refine (load_n true [65, 98, 10, 97, 66] A3 1 5 _ 5 _ rfl (by omega) ex3 (by rw [pt3]; rfl) (bs_lit_at (w2.alloc (.cells #[.map m2, .slice a2 1 c2] 27)) (w2.heap.size + 1) [65, 98, 10, 97, 66] (5, 6) _ (by simp) rfl)).mono ?_
  rintro e w3 ⟨m3, a3, c3, rfl, hs3, hb3⟩
  have b2 : Below (w2.heap.size + 1) (w2.alloc (.cells #[.map m2, .slice a2 1 c2] 27)) w3 := ((below_new _ _).mono (by simp)).trans (hb3.mono (by simp))
  have x2 := (Box.new (n := 1) (c := c2) hs2).keep (by simpa using b2)
  have y1 := (x1.keep (below_new w2 (.cells #[.map m2, .slice a2 1 c2] 27))).keep (by simpa using b2)
  have s2 := b2.size
  have B3 : Below w.heap.size w w3 := ((B2.alloc B2.size _).trans (b2.mono (by have := B2.size; omega)))
  rw [World.size_alloc] at s2
  clear hs2 hb3 b2 B2 x1
  have z1 := y1.keep (below_new w3 (.cells #[.map m3, .slice a3 1 c3] 27))
  have z2 := x2.keep (below_new w3 (.cells #[.map m3, .slice a3 1 c3] 27))
  have z3 := Box.new (n := 1) (c := c3) hs3
  have B4 := B3.alloc B3.size (.cells #[.map m3, .slice a3 1 c3] 27)
  have s3 : (w3.alloc (.cells #[.map m3, .slice a3 1 c3] 27)).heap.size = w3.heap.size + 1 := by simp
  obtain ⟨d0, d1⟩ := z1.1.cells
  have Z1 := Lib.hid z1
  have Z2 := Lib.hid z2
  have Z3 := Lib.hid z3
  have HB4 := Lib.hid B4
  clear y1 x2 hs3 z1 z2 z3 B4
  go_wp2_with fail
  refine (patterns_n A1 [[97, 98], [97]] 2 m1 a1 c1 _ pt1 rfl Z1.out.2 (by omega) (by decide)).mono ?_
  rintro e w4 ⟨a4, c4, xs, rfl, hxs, hts, hb4⟩
  clear d0 d1
  have Y1 := Lib.hid (Z1.out.keep hb4)
  have Y2 := Lib.hid (Z2.out.keep hb4)
  have Y3 := Lib.hid (Z3.out.keep hb4)
  have B5 := HB4.out.trans (hb4.mono HB4.out.size)
  have HB5 := Lib.hid B5
  clear Z1 Z2 Z3 HB4 hb4 B5 B3
  obtain ⟨x, ys, rfl, hx, hys⟩ : ∃ x ys, xs = x :: ys ∧ x.text = [97, 98] ∧ ys.map TxV.text = [[97]] := by
    cases xs with
    | nil => cases hxs
    | cons x ys => exact ⟨x, ys, rfl, by injection hxs, by injection hxs⟩
  obtain ⟨b, off, rfl, hbl, hc⟩ := hts.1 (by simp)
  have hc0 : w4.cell? ⟨b, off, none⟩ = some (.slice x.a 2 x.cap) := by
    have := hc 0 (by simp)
    simp only [List.getElem_cons_zero, hx] at this
    simpa using this
  have hkx : Bs w4 w4.heap.size x.a [97, 98] := by have := hts.2 x (by simp); rw [hx] at this; exact this
  have hcv : (convert 22 9 (.slice x.a 2 x.cap)).run Try.prog w4 = .ok (.string ⟨#[97, 98]⟩) w4 := str_of_bs x.cap hkx
  obtain ⟨d0, d1⟩ := Y1.out.1.cells
  clear hc hts hkx hxs hys hx kd
  go_wp2_with fail
  refine (empty_any m1 a1 2 c1 A1 w4 Y1.out.2).mono ?_
  rintro e w5 ⟨rfl, hb5⟩
  have de1 : decide ([] ∈ A1) = false := by decide
  rw [de1]
  clear d0 d1 de1 hcv hc0
  have X1 := Lib.hid (Y1.out.keep hb5)
  have X2 := Lib.hid (Y2.out.keep hb5)
  have X3 := Lib.hid (Y3.out.keep hb5)
  have HB6 := Lib.hid (HB5.out.trans (hb5.mono HB5.out.size))
  clear Y1 Y2 Y3 HB5 hb5
  obtain ⟨d0, d1⟩ := X2.out.1.cells
  go_wp2_with fail
  refine (empty_any m2 a2 1 c2 A2 w5 X2.out.2).mono ?_
  rintro e w6 ⟨rfl, hb6⟩
  have de2 : decide ([] ∈ A2) = true := by decide
  rw [de2]
  clear d0 d1 de2
  have Y1 := Lib.hid (X1.out.keep hb6)
  have Y2 := Lib.hid (X2.out.keep hb6)
  have Y3 := Lib.hid (X3.out.keep hb6)
  have HB7 := Lib.hid (HB6.out.trans (hb6.mono HB6.out.size))
  clear X1 X2 X3 HB6 hb6
  obtain ⟨d0, d1⟩ := Y2.out.1.cells
  go_wp2_with fail
  refine (patterns_n A2 [[97]] 1 m2 a2 c2 w6 pt2 rfl Y2.out.2 (by omega) (by decide)).mono ?_
  rintro e w7 ⟨a7, c7, ys7, rfl, _, _, hb7⟩
  clear d0 d1
  have X1 := Lib.hid (Y1.out.keep hb7)
  have X3 := Lib.hid (Y3.out.keep hb7)
  have HB8 := Lib.hid (HB7.out.trans (hb7.mono HB7.out.size))
  clear Y1 Y2 Y3 HB7 hb7
  obtain ⟨d0, d1⟩ := X3.out.1.cells
  go_wp2_with fail
  refine (patterns_n A3 [[97, 98]] 1 m3 a3 c3 w7 pt3 rfl X3.out.2 (by omega) (by decide)).mono ?_
  rintro e w8 ⟨a8, c8, ys8, rfl, _, _, hb8⟩
  clear d0 d1
  have Y1 := Lib.hid (X1.out.keep hb8)
  have Y3 := Lib.hid (X3.out.keep hb8)
  have HB9 := Lib.hid (HB8.out.trans (hb8.mono HB8.out.size))
  clear X1 X3 HB8 hb8
  obtain ⟨d0, d1⟩ := Y3.out.1.cells
  go_wp2_with fail
  have hbn := below_new w8 (.cells ([97, 98].map fun c : UInt8 => Value.int .u8 (c.toNat : Int)).toArray 5 (2, 3))
  refine (has_any m3 a3 1 c3 A3 [97, 98] (some ⟨w8.heap.size, 0, none⟩) 2 _ (Y3.out.2.keep hbn) (bs_lit w8 [97, 98] (2, 3) _ rfl) (by decide)).mono ?_
  rintro e w9 ⟨rfl, hb9⟩
  have de3 : decide ([97, 98] ∈ A3) = true := by decide
  rw [de3]
  clear d0 d1 de3
  have X1 := Lib.hid ((Y1.out.keep hbn).keep hb9)
  have HB10 := Lib.hid ((HB9.out.trans (hbn.mono HB9.out.size)).trans (hb9.mono (Nat.le_trans HB9.out.size hbn.size)))
  clear Y1 Y3 HB9 hb9 hbn
  obtain ⟨d0, d1⟩ := X1.out.1.cells
  have LEA : Calls Try.prog 22 #[.agg #[.map m1, .slice a1 2 c1]] w9 fun e w' => e = .returned (.int .i64 1) ∧ Below w9.heap.size w9 w' := least_any (.map m1) a1 c1 [[97, 98], [97]] w9 (pt1 ▸ X1.out.2.2) (by decide)
  go_wp2_with fail
  refine LEA.mono ?_
  rintro e w10 ⟨rfl, hb10⟩
  clear d0 d1 LEA
  have Y1 := Lib.hid (X1.out.keep hb10)
  have HB11 := Lib.hid (HB10.out.trans (hb10.mono HB10.out.size))
  clear X1 HB10 hb10
  obtain ⟨d0, d1⟩ := Y1.out.1.cells
  have SIZ : Calls Try.prog 21 #[.agg #[.map m1, .slice a1 2 c1]] w10 fun e w' => e = .returned (.int .i64 3) ∧ Below w10.heap.size w10 w' := size_any (.map m1) a1 c1 [[97, 98], [97]] w10 (pt1 ▸ Y1.out.2.2) (by decide) (by decide)
  go_wp2_with fail
  refine SIZ.mono ?_
  rintro e w11 ⟨rfl, hb11⟩
  clear SIZ
  go_wp2
  go_ret
  exact ⟨rfl, HB11.out.trans (hb11.mono HB11.out.size)⟩
end Go.Proofs.Yteggdhfchamffaa
