/- The walk of SparseNone. -/
import Derived.Test.YtkooanahgffjgaaSi
namespace Go.Proofs.Ytkooanahgffjgaa.sparseNone
open Go.Proofs.Ytkooanahgffjgaa.Tri Go.Proofs.Ytkooanahgffjgaa.Lnk Go.Proofs.Ytkooanahgffjgaa.Prs Go.Proofs.Ytkooanahgffjgaa.Spa Go.Proofs.Ytkooanahgffjgaa.Reg Go.RowKit Go.Maps
set_option maxRecDepth 100000
set_option linter.unusedVariables false
attribute [local go_sem ↓] Met.eql_counts
theorem ts_zero (w : World) (a : Option Addr) : Ts w a [] := ⟨fun h => absurd h (by simp), fun x h => by cases h⟩
theorem root_paths : paths [[]] = [[]] := by decide
theorem root_paths0 : paths [] = [[]] := by decide
theorem root_mem : ([] : Tx) ∈ ([[]] : List Tx) := by simp
theorem root_place : place [[]] ([] : Tx) = 0 := place_nil wf_root
theorem root_step (c : UInt8) : Spa.stepT [[]] c [] = [] := stepT_root (by simp)

set_option maxHeartbeats 8000000 in
theorem small0 (w : World) (line : Tx) (al : Option Addr) (cl : Nat) (hml : line.length ≤ maxLen) (hbl : Bs w w.heap.size al line) (c : UInt8) (hl1 : line.length ≤ 400) :
    Calls Try.prog 8 #[.slice al line.length cl, .bool false, .int .u8 (c.toNat : Int)] w fun e w' => e = .returned (.bool true) ∧ Below w.heap.size w w' := by
  have HAW := Lib.hid (awake_any w)
  go_enter Try.func8, Try.ntmps8
  go_wp2_with fail
  refine HAW.out.mono ?_
  rintro e' w1 ⟨rfl, hb1⟩
  have HB1 := Lib.hid hb1
  clear hb1 HAW
  have hl4 : ¬ (400 : Int) < (line.length : Int) := by omega
  have CN := snew_any w1 [] none 0 (ts_zero w1 none) (by simp) (by simp [tot])
  rw [List.map_nil, root_paths0] at CN
  go_wp2_with fail
  refine CN.mono ?_
  rintro e5 w5 ⟨t, rfl, _, hA, b5⟩
  clear CN
  have HB5 : Hid (Below w.heap.size w w5) := Lib.hid (HB1.out.trans (b5.mono HB1.out.size))
  obtain ⟨l, HA5, hle⟩ : ∃ l : List Tx, Hid (Au w5 t [[]] l) ∧ ∀ x ∈ l, x = [] := ⟨_, Lib.hid hA, by simp⟩
  clear hA b5 HB1
  have HC0 : Hid (scanOf l line = []) := Lib.hid (scan_none hle line)
  have HLK : Hid (looksTo [[]] line line.length = line.length) := Lib.hid (looks_root line line.length (Nat.le_refl _)).1
  go_wp2_with fail
  refine (Met.new_any w5).mono ?_
  rintro e4 w4 ⟨rfl, hw4⟩
  have b4 : Below w5.heap.size w5 w4 := by rw [hw4]; exact below_new _ _
  have c4 : Met.Cnt w4 w5.heap.size ((0 : Nat) : Int) ((0 : Nat) : Int) 0 0 := by rw [hw4]; exact cnt_new w5
  have B4 : Below w.heap.size w w4 := HB5.out.trans (b4.mono HB5.out.size)
  have A4 := HA5.out.keep b4
  have hgw : w.heap.size ≤ w5.heap.size := HB5.out.size
  clear hw4 b4
  generalize w5.heap.size = g at *
  have CS := scan_new w4 t [[]] l A4 g line al cl ((hbl.keep B4).more B4.size) (by omega) 0 0 c4 (by omega) (by omega)
  rw [Nat.zero_add, Nat.zero_add, HC0.out, HLK.out] at CS
  have HCS := Lib.hid CS
  have HA4 := Lib.hid A4
  have HC4 := Lib.hid c4
  have HB4 := Lib.hid B4
  clear CS A4 c4 B4 hbl
  go_wp2_with fail
  refine HCS.out.mono ?_
  rintro e6 w6 ⟨A, cA, rfl, hpA, hcn, hg⟩
  have hM4 : Met.Mt w4 (some ⟨g, 0, none⟩) ((0 : Nat) : Int) ((0 : Nat) : Int) 0 0 := .inr ⟨g, rfl, HC4.out⟩
  have HA6 := Lib.hid (HA4.out.adds hg hM4)
  have HB6 : Hid (Below w.heap.size w w6) := Lib.hid (grown_below HB4.out hg hgw)
  have HC6 := Lib.hid hcn
  clear hM4 hg hpA hcn HA4 HC4 HB4 HCS
  go_wp2_with fail
  refine (scan_nil w6 (some ⟨g, 0, none⟩) al line.length cl).mono ?_
  rintro e7 w7 ⟨rfl, rfl⟩
  have CC := Lib.hid (Met.counts_some w6 g _ _ 0 0 HC6.out)
  go_wp2_with fail
  refine CC.out.mono ?_
  rintro e7 w7 ⟨rfl, hb7⟩
  have HA7 := Lib.hid (HA6.out.keep hb7)
  have HB7 := Lib.hid (HB6.out.trans (hb7.mono HB6.out.size))
  clear hb7 CC HA6 HB6 HC6
  go_wp2_with fail
  refine (states_any w7 t [[]] l HA7.out).mono ?_
  rintro e8 w8 ⟨rfl, rfl⟩
  go_wp2_with fail
  refine (states_none w7).mono ?_
  rintro e8 w8 ⟨rfl, rfl⟩
  go_wp2_with fail
  refine (Step_none w7 (some ⟨g, 0, none⟩) 0 (c.toNat : Int)).mono ?_
  rintro e8 w8 ⟨rfl, rfl⟩
  go_wp2_with fail
  refine (spath_none w7 0).mono ?_
  rintro e8 w8 ⟨rfl, rfl⟩
  have CF := step_free w7 t [[]] l HA7.out [] root_mem c
  rw [root_step, root_place] at CF
  go_wp2_with fail
  refine CF.mono ?_
  rintro e8 w8 ⟨rfl, hb8⟩
  have HB8 := Lib.hid (HB7.out.trans (hb8.mono HB7.out.size))
  clear CF hb8
  go_wp2
  go_ret
  exact ⟨rfl, HB8.out⟩
set_option maxHeartbeats 8000000 in
theorem small1 (w : World) (line : Tx) (al : Option Addr) (cl : Nat) (hml : line.length ≤ maxLen) (hbl : Bs w w.heap.size al line) (c : UInt8) (hl1 : line.length ≤ 400) :
    Calls Try.prog 8 #[.slice al line.length cl, .bool true, .int .u8 (c.toNat : Int)] w fun e w' => e = .returned (.bool true) ∧ Below w.heap.size w w' := by
  have HAW := Lib.hid (awake_any w)
  go_enter Try.func8, Try.ntmps8
  go_wp2_with fail
  refine HAW.out.mono ?_
  rintro e' w1 ⟨rfl, hb1⟩
  have HB1 := Lib.hid hb1
  clear hb1 HAW
  have hl4 : ¬ (400 : Int) < (line.length : Int) := by omega
  have CN := snew_any w1 [] none 0 (ts_zero w1 none) (by simp) (by simp [tot])
  rw [List.map_nil, root_paths0] at CN
  go_wp2_with fail
  refine CN.mono ?_
  rintro e5 w3 ⟨t3, rfl, _, _, b3⟩
  clear CN
  have B3 : Below w1.heap.size w1 w3 := b3
  clear b3
  have hts : Ts ((w3.alloc (.cells #[] 5)).alloc (.cells #[.slice (some ⟨w3.heap.size, 0, none⟩) 0 0] 23)) (some ⟨w3.heap.size + 1, 0, none⟩) [⟨[], some ⟨w3.heap.size, 0, none⟩, 0, fun e => by cases e⟩] := by
    refine ⟨fun _ => ⟨_, _, rfl, by simp, fun i hi => ?_⟩, fun x hx => ?_⟩
    · have hi' : i < 1 := hi
      obtain rfl : i = 0 := by omega
      have hh := heap_alloc_new (w3.alloc (.cells #[] 5)) (.cells #[.slice (some ⟨w3.heap.size, 0, none⟩) 0 0] 23)
      rw [World.size_alloc] at hh
      rw [cell_of_row _ _ _ _ 23 (0, 0) hh]
      rfl
    · obtain rfl : x = _ := List.mem_singleton.1 hx
      exact bs_nil _ _ _
  have CN := snew_any _ _ (some ⟨w3.heap.size + 1, 0, none⟩) 1 hts (by simp) (by simp [tot])
  rw [List.map_cons, List.map_nil, root_paths] at CN
  have hb3 : Below w1.heap.size w1 ((w3.alloc (.cells #[] 5)).alloc (.cells #[.slice (some ⟨w3.heap.size, 0, none⟩) 0 0] 23)) := (B3.alloc B3.size _).alloc (by have := B3.size; simp; omega) _
  clear hts
  go_wp2_with fail
  refine CN.mono ?_
  rintro e5 w5 ⟨t, rfl, _, hA, b5'⟩
  have b5 : Below w1.heap.size w1 w5 := hb3.trans (b5'.mono hb3.size)
  clear CN b5' hb3 B3
  have HB5 : Hid (Below w.heap.size w w5) := Lib.hid (HB1.out.trans (b5.mono HB1.out.size))
  obtain ⟨l, HA5, hle⟩ : ∃ l : List Tx, Hid (Au w5 t [[]] l) ∧ ∀ x ∈ l, x = [] := ⟨_, Lib.hid hA, by simp⟩
  clear hA b5 HB1
  have HC0 : Hid (scanOf l line = []) := Lib.hid (scan_none hle line)
  have HLK : Hid (looksTo [[]] line line.length = line.length) := Lib.hid (looks_root line line.length (Nat.le_refl _)).1
  go_wp2_with fail
  refine (Met.new_any w5).mono ?_
  rintro e4 w4 ⟨rfl, hw4⟩
  have b4 : Below w5.heap.size w5 w4 := by rw [hw4]; exact below_new _ _
  have c4 : Met.Cnt w4 w5.heap.size ((0 : Nat) : Int) ((0 : Nat) : Int) 0 0 := by rw [hw4]; exact cnt_new w5
  have B4 : Below w.heap.size w w4 := HB5.out.trans (b4.mono HB5.out.size)
  have A4 := HA5.out.keep b4
  have hgw : w.heap.size ≤ w5.heap.size := HB5.out.size
  clear hw4 b4
  generalize w5.heap.size = g at *
  have CS := scan_new w4 t [[]] l A4 g line al cl ((hbl.keep B4).more B4.size) (by omega) 0 0 c4 (by omega) (by omega)
  rw [Nat.zero_add, Nat.zero_add, HC0.out, HLK.out] at CS
  have HCS := Lib.hid CS
  have HA4 := Lib.hid A4
  have HC4 := Lib.hid c4
  have HB4 := Lib.hid B4
  clear CS A4 c4 B4 hbl
  go_wp2_with fail
  refine HCS.out.mono ?_
  rintro e6 w6 ⟨A, cA, rfl, hpA, hcn, hg⟩
  have hM4 : Met.Mt w4 (some ⟨g, 0, none⟩) ((0 : Nat) : Int) ((0 : Nat) : Int) 0 0 := .inr ⟨g, rfl, HC4.out⟩
  have HA6 := Lib.hid (HA4.out.adds hg hM4)
  have HB6 : Hid (Below w.heap.size w w6) := Lib.hid (grown_below HB4.out hg hgw)
  have HC6 := Lib.hid hcn
  clear hM4 hg hpA hcn HA4 HC4 HB4 HCS
  go_wp2_with fail
  refine (scan_nil w6 (some ⟨g, 0, none⟩) al line.length cl).mono ?_
  rintro e7 w7 ⟨rfl, rfl⟩
  have CC := Lib.hid (Met.counts_some w6 g _ _ 0 0 HC6.out)
  go_wp2_with fail
  refine CC.out.mono ?_
  rintro e7 w7 ⟨rfl, hb7⟩
  have HA7 := Lib.hid (HA6.out.keep hb7)
  have HB7 := Lib.hid (HB6.out.trans (hb7.mono HB6.out.size))
  clear hb7 CC HA6 HB6 HC6
  go_wp2_with fail
  refine (states_any w7 t [[]] l HA7.out).mono ?_
  rintro e8 w8 ⟨rfl, rfl⟩
  go_wp2_with fail
  refine (states_none w7).mono ?_
  rintro e8 w8 ⟨rfl, rfl⟩
  go_wp2_with fail
  refine (Step_none w7 (some ⟨g, 0, none⟩) 0 (c.toNat : Int)).mono ?_
  rintro e8 w8 ⟨rfl, rfl⟩
  go_wp2_with fail
  refine (spath_none w7 0).mono ?_
  rintro e8 w8 ⟨rfl, rfl⟩
  have CF := step_free w7 t [[]] l HA7.out [] root_mem c
  rw [root_step, root_place] at CF
  go_wp2_with fail
  refine CF.mono ?_
  rintro e8 w8 ⟨rfl, hb8⟩
  have HB8 := Lib.hid (HB7.out.trans (hb8.mono HB7.out.size))
  clear CF hb8
  go_wp2
  go_ret
  exact ⟨rfl, HB8.out⟩
set_option maxHeartbeats 8000000 in
theorem walk (w : World) (line : Tx) (al : Option Addr) (cl : Nat) (hml : line.length ≤ maxLen) (hbl : Bs w w.heap.size al line) (b : Bool) (c : UInt8) :
    Calls Try.prog 8 #[.slice al line.length cl, .bool b, .int .u8 (c.toNat : Int)] w fun e w' => e = .returned (.bool true) ∧ Below w.heap.size w w' := by
  by_cases hl1 : line.length ≤ 400
  · cases b
    · exact small0 w line al cl hml hbl c hl1
    · exact small1 w line al cl hml hbl c hl1
  · have hl4 : (400 : Int) < (line.length : Int) := by omega
    have HAW := Lib.hid (awake_any w)
    go_enter Try.func8, Try.ntmps8
    go_wp2_with fail
    refine HAW.out.mono ?_
    rintro e' w1 ⟨rfl, hb1⟩
    go_wp2
    go_ret
    exact ⟨rfl, hb1⟩
end Go.Proofs.Ytkooanahgffjgaa.sparseNone
