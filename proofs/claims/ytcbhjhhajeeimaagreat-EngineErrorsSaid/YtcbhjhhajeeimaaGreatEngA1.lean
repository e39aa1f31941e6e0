/- The engine's plain functions: Is, Tag. -/
import Derived.Test.YtcbhjhhajeeimaaGreatEngMath
import Derived.Test.YtcbhjhhajeeimaaGreatGD
import Derived.Test.YtcbhjhhajeeimaaGreatGJ
import Derived.Test.YtcbhjhhajeeimaaGreatGY
namespace Go.Proofs.YtcbhjhhajeeimaaGreat.Eng
open Go.Proofs.YtcbhjhhajeeimaaGreat.Tri Go.Proofs.YtcbhjhhajeeimaaGreat.Lnk Go.Proofs.YtcbhjhhajeeimaaGreat.Prs Go.Proofs.YtcbhjhhajeeimaaGreat.Spa Go.Proofs.YtcbhjhhajeeimaaGreat.Reg Go.RowKit Go.Maps
set_option maxRecDepth 100000
set_option linter.unusedVariables false

theorem eis_any (w : World) (tag : Int) (ht : (Lit.int .i64 tag).wf = true) : Calls Tryz.prog 15 #[.int .i64 tag] w fun e w' => e = .returned (.bool (decide (0 ≤ tag ∧ tag ≤ 3))) ∧ Below w.heap.size w w' := by
  by_cases h1 : 0 ≤ tag
  · by_cases h2 : tag ≤ 3
    · have hd : decide (0 ≤ tag ∧ tag ≤ 3) = true := by simp [h1, h2]
      rw [hd]
      go_enter Tryz.func15, Tryz.ntmps15
      go_wp2
      go_ret
      exact ⟨rfl, Below.refl _ _⟩
    · have hd : decide (0 ≤ tag ∧ tag ≤ 3) = false := by simp [h2]
      rw [hd]
      go_enter Tryz.func15, Tryz.ntmps15
      go_wp2
      go_ret
      exact ⟨rfl, Below.refl _ _⟩
  · have hd : decide (0 ≤ tag ∧ tag ≤ 3) = false := by simp [h1]
    rw [hd]
    go_enter Tryz.func15, Tryz.ntmps15
    go_wp2
    go_ret
    exact ⟨rfl, Below.refl _ _⟩
theorem etag_none (w : World) : Calls Tryz.prog 19 #[.pointer none] w fun e w' => e = .returned (.int .i64 (-1)) ∧ Below w.heap.size w w' := by
  go_enter Tryz.func19, Tryz.ntmps19
  go_wp2
  go_ret
  exact ⟨rfl, Below.refl _ _⟩
/-- An engine in memory: its way, what scans, whether the empty text came. -/
theorem etag_at (w : World) (g : Nat) (tag : Int) (v : Value) (em : Bool) (hB : Blk3 w g 68 (.int .i64 tag) v (.bool em)) : Calls Tryz.prog 19 #[.pointer (some ⟨g, 0, none⟩)] w fun e w' => e = .returned (.int .i64 tag) ∧ Below w.heap.size w w' := by
  obtain ⟨c0, c1, c2⟩ := hB.cells
  go_enter Tryz.func19, Tryz.ntmps19
  go_wp2
  go_ret
  exact ⟨rfl, Below.refl _ _⟩
theorem efind_none' (w : World) (mp : Option Addr) (v : Value) : Calls Tryz.prog 17 #[.pointer none, .pointer mp, v] w fun e w' => e = .returned (.slice none 0 0) ∧ w = w' := by
  go_enter Tryz.func17, Tryz.ntmps17
  go_wp2
  go_ret
  exact ⟨rfl, rfl⟩
theorem idle_any (w : World) (mp : Option Addr) (line : Value) : Calls Tryz.prog 124 #[.agg #[], .pointer mp, line] w fun e w' => e = .returned (.slice none 0 0) ∧ Below w.heap.size w w' := by
  have hb : Below w.heap.size w (w.alloc (.cells #[] 78)) := (Below.refl _ _).alloc (Nat.le_refl _) _
  go_enter Tryz.func124, Tryz.ntmps124
  go_wp2
  go_ret
  exact ⟨rfl, hb⟩
/-- A line is looked through: what the way finds. -/
theorem efind_scan (w : World) (g : Nat) (tag : Int) (T : TypeId) (x : Value) (K : FuncId) (rv : Value) (hB : Blk3 w g 68 (.int .i64 tag) (.iface T x) (.bool false)) (hm : ∀ w : World, (method 333 T x "Scan").run Tryz.prog w = .ok (K, rv) w) (hcf : ∀ (args : Array Value) (w : World), (callFunc K args).run Tryz.prog w = .ok (.enter K args) w)
    (mp : Option Addr) (line : Tx) (al : Option Addr) (cl : Nat) (out : List Pr) (a b e d : Int) (hM : Met.Mt w mp a b e d) (a' b' : Int) (HC : Calls Tryz.prog K #[rv, .pointer mp, .slice al line.length cl] w (ScansC w mp out a' b' e d)) :
    Calls Tryz.prog 17 #[.pointer (some ⟨g, 0, none⟩), .pointer mp, .slice al line.length cl] w (Scans w mp out a' b' e d) := by
  obtain ⟨c0, c1, c2⟩ := hB.cells
  have hlt := hB.lt
  go_enter Tryz.func17, Tryz.ntmps17
  go_wp2_with fail
  refine HC.mono ?_
  rintro x1 w1 ⟨A, cap, rfl, hp, hn, hM1, hg1, hcap⟩
  have d2 := (blk3_adds hB hg1 hM (by decide)).cells.2.2
  go_wp2
  go_ret
  exact ⟨A, cap, rfl, hp, hn, hM1, hg1⟩
/-- .. with the empty pieces put to them. -/
theorem efind_both (w : World) (g : Nat) (tag : Int) (T : TypeId) (x : Value) (K : FuncId) (rv : Value) (hB : Blk3 w g 68 (.int .i64 tag) (.iface T x) (.bool true)) (hm : ∀ w : World, (method 333 T x "Scan").run Tryz.prog w = .ok (K, rv) w) (hcf : ∀ (args : Array Value) (w : World), (callFunc K args).run Tryz.prog w = .ok (.enter K args) w)
    (mp : Option Addr) (line : Tx) (al : Option Addr) (cl : Nat) (out : List Pr) (a b e d : Int) (hM : Met.Mt w mp a b e d) (hl : line.length ≤ 1000) (hol : out.length ≤ 1000000 - 1001) (a' b' : Int) (HC : Calls Tryz.prog K #[rv, .pointer mp, .slice al line.length cl] w (ScansC w mp out a' b' e d)) :
    Calls Tryz.prog 17 #[.pointer (some ⟨g, 0, none⟩), .pointer mp, .slice al line.length cl] w (Scans w mp (norm (out ++ empties (line.length + 1))) a' b' e d) := by
  obtain ⟨c0, c1, c2⟩ := hB.cells
  have hlt := hB.lt
  go_enter Tryz.func17, Tryz.ntmps17
  go_wp2_with fail
  refine HC.mono ?_
  rintro x1 w1 ⟨A, cap, rfl, hp, hn, hM1, hg1, hcap⟩
  have d2 := (blk3_adds hB hg1 hM (by decide)).cells.2.2
  have HE := Lib.hid (empties_any line.length w1 (by omega))
  have HP := Lib.hid hp
  have HM1 := Lib.hid hM1
  have HG1 := Lib.hid hg1
  have HEL := Lib.hid (empties_length (line.length + 1))
  clear hp hM1 hg1 HC hB
  go_wp2_with (first
    | (go_at_call 30; (with_reducible refine HE.out.mono ?_); rintro e w2 ⟨a2, c2, rfl, hc2, hn2, hp2, hb2⟩; have HB2 := Lib.hid hb2; have HMG := Lib.hid (merge_all out (empties (line.length + 1)) A a2 cap c2 w2 (by rw [HEL.out]; omega) (HP.out.keeps hb2) hp2 hcap hc2 hn hn2); clear hp2 hb2)
    | (go_at_call 29; (with_reducible refine HMG.out.mono ?_); rintro e w3 ⟨a3, c3, rfl, hc3, hn3, hp3, hb3⟩))
  go_ret
  have hb3' := HB2.out.trans (hb3.mono HB2.out.size)
  exact ⟨a3, c3, rfl, hp3, hn3, HM1.out.keep hb3', HG1.out.trans ((grown_of_below hb3').but _)⟩
/-- A way that counts nothing. -/
theorem uncounted_any (w : World) (T : TypeId) (x : Value) (K : FuncId) (rv : Value) (hm : ∀ w : World, (method 333 T x "Scan").run Tryz.prog w = .ok (K, rv) w) (hcf : ∀ (args : Array Value) (w : World), (callFunc K args).run Tryz.prog w = .ok (.enter K args) w)
    (mp : Option Addr) (line : Tx) (al : Option Addr) (cl : Nat) (out : List Pr) (a b e d : Int) (hM : Met.Mt w mp a b e d) (HC : ∀ X, Below w.heap.size w X → Calls Tryz.prog K #[rv, .slice al line.length cl] X fun x w' => ∃ A c, x = .returned (.slice A out.length c) ∧ Ps w' w'.heap.size A out ∧ Below X.heap.size X w' ∧ (A = none → c = 0) ∧ out.length ≤ c) :
    Calls Tryz.prog 143 #[.agg #[.iface T x], .pointer mp, .slice al line.length cl] w (ScansC w mp out a b e d) := by
  have hb : Below w.heap.size w (w.alloc (.cells #[.iface T x] 90)) := (Below.refl _ _).alloc (Nat.le_refl _) _
  have HC1 := Lib.hid (HC _ hb)
  have HB := Lib.hid hb
  have c0 := Met.cell_one (heap_alloc_new w (.cells #[.iface T x] 90))
  clear HC hb
  go_enter Tryz.func143, Tryz.ntmps143
  go_wp2_with fail
  refine HC1.out.mono ?_
  rintro x1 w1 ⟨A, cap, rfl, hp, hb1, hn, hcap⟩
  go_wp2
  go_ret
  have hb2 := HB.out.trans (hb1.mono HB.out.size)
  exact ⟨A, cap, rfl, hp, hn, hM.keep hb2, (grown_of_below hb2).but _, hcap⟩
end Go.Proofs.YtcbhjhhajeeimaaGreat.Eng
