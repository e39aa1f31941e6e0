/- Next. -/
import Derived.Test.YtcoghcfhkndijaaJ4
namespace Go.Proofs.Ytcoghcfhkndijaa.Two
open Go.RowKit Go.Maps Go.Proofs.Ytcoghcfhkndijaa.Crt Go.Proofs.Ytcoghcfhkndijaa.Suf Go.Proofs.Ytcoghcfhkndijaa.Prs Go.Proofs.Ytcoghcfhkndijaa.Reg
set_option maxRecDepth 100000
set_option linter.unusedVariables false

theorem call20 (args : Array Value) (w : World) : (callFunc 20 args).run Try.prog w = .ok (.enter 20 args) w := by simp [go_sem]
theorem call21 (args : Array Value) (w : World) : (callFunc 21 args).run Try.prog w = .ok (.enter 21 args) w := by simp [go_sem]
theorem call22 (args : Array Value) (w : World) : (callFunc 22 args).run Try.prog w = .ok (.enter 22 args) w := by simp [go_sem]
theorem call23 (args : Array Value) (w : World) : (callFunc 23 args).run Try.prog w = .ok (.enter 23 args) w := by simp [go_sem]
theorem call_srch (b : Tx) (args : Array Value) (w : World) : (callFunc (srch b) args).run Try.prog w = .ok (.enter (srch b) args) w := by
  unfold srch
  split
  · exact call21 args w
  · exact call20 args w
theorem search_any (w : World) (b line : Tx) (fn : FuncId) (caps : Array Value) (I : Nat → World → Prop) (D : World → Prop) (s t : Nat) (a : Option Addr) (c : Nat) (al : Option Addr) (cl : Nat)
    (hT : Tell b line fn caps I D) (hI : ∀ fr W, I fr W → Fx s t b a c line al cl W) (hD : ∀ W, D W → Fx s t b a c line al cl W) (h0 : b ≠ []) (hl : b.length ≤ 1000) (hll : line.length ≤ 1000)
    (x : Nat) (hx : x ≤ 9223372036854775807) (hw : I x w) :
    Calls Try.prog (srch b) #[.pointer (some ⟨t, 0, none⟩), .slice al line.length cl, .int .i64 (x : Int), .func (.func fn) #[] caps] w (GivesOver b line I D) := by
  unfold srch
  by_cases hs : smallB b = true
  · rw [if_pos hs]
    exact near_any w b line fn caps I D s t a c al cl hT hI hD h0 hl hll ((smallB_iff h0).1 hs) x hx hw
  · rw [if_neg hs]
    exact far_any w b line fn caps I D s t a c al cl hT hI hD h0 hl hll (fun h => hs ((smallB_iff h0).2 h)) x hx hw
theorem tell_next (w : World) (g : Nat) (p : Nat) (h : w.cell? ⟨g, 0, none⟩ = some (.int .i64 (-1))) (hf : w.frozen? ⟨g, 0, none⟩ = false) : Calls Try.prog 22 #[.int .i64 (p : Int), .pointer (some ⟨g, 0, none⟩)] w fun e w' => e = .returned (.bool false) ∧ w' = w.setCell ⟨g, 0, none⟩ (.int .i64 (p : Int)) := by
  go_enter Try.func22, Try.ntmps22
  go_wp2
  go_ret
  exact ⟨rfl, rfl⟩
theorem next_none (w : World) (A : Option Addr) (n c : Nat) (x : Int) :
    Calls Try.prog 12 #[.pointer none, .slice A n c, .int .i64 x] w fun e w' => e = .returned (.int .i64 (-1)) ∧ Below w.heap.size w w' := by
  go_enter Try.func12, Try.ntmps12
  go_wp2
  go_ret
  exact ⟨rfl, Below.refl _ _⟩
theorem tw_fx {w : World} {s t : Nat} {b : Tx} (ht : Tw w s t b) {line : Tx} {al : Option Addr} {cl : Nat} (hb : Ln w al line cl) : ∃ a c, Fx s t b a c line al cl w := by
  obtain ⟨_, a, c, h1, h2, h3⟩ := ht
  exact ⟨a, c, h1, h2, h3, hb⟩
theorem Fx.search {s t : Nat} {b : Tx} {a : Option Addr} {c : Nat} {line : Tx} {al : Option Addr} {cl : Nat} {W : World} (h : Fx s t b a c line al cl W) : W.cell? ⟨t, 4, none⟩ = some (.func (.func (srch b)) #[] #[]) := by
  rw [cell_of_row W t 4 _ 51 (0, 0) h.row]; rfl
set_option maxHeartbeats 1000000 in
theorem next_some (w : World) {s : Nat} (t : Nat) (b : Tx) (ht : Tw w s t b) (h0 : b ≠ []) (hl : b.length ≤ 1000) (line : Tx) (al : Option Addr) (cl : Nat) (hb : Ln w al line cl) (hll : line.length ≤ 1000) (x : Int) (hx : -9223372036854775808 ≤ x ∧ x ≤ 9223372036854775807) :
    Calls Try.prog 12 #[.pointer (some ⟨t, 0, none⟩), .slice al line.length cl, .int .i64 x] w fun e w' => e = .returned (.int .i64 (nextOf b line x.toNat)) ∧ Below w.heap.size w w' := by
  obtain ⟨a, c, hfx⟩ := tw_fx ht hb
  have hba : Below w.heap.size w (w.alloc (.cells #[.int .i64 (-1)] 3)) := (Below.refl _ _).alloc (Nat.le_refl _) _
  have hc4 := (hfx.keep hba).search
  have hmf : ∀ (fn : Fn) (first cap : Array Value) (w : World), (Instr.makeFunc fn first cap).run Try.prog w = .ok (.func fn first cap) w := fun _ _ _ _ => rfl
  have HFX := Lib.hid hfx
  have hcs := call_srch b
  have HBA := Lib.hid hba
  have HMX := Lib.hid (show max x 0 = (x.toNat : Int) by omega)
  have hg := heap_alloc_new w (.cells #[.int .i64 (-1)] 3)
  have HG := Lib.hid hg
  clear hfx ht hb hba hg
  go_enter Try.func12, Try.ntmps12
  go_wp2_with fail
  rw [HMX.out]
  have HN : Hid (∀ (X : World), Below w.heap.size w X → Fx s t b a c line al cl X) := Lib.hid fun X h => HFX.out.keep h
  refine (search_any _ b line 22 #[.pointer (some ⟨w.heap.size, 0, none⟩)] (fun fr X => fr = x.toNat ∧ X.heap[w.heap.size]? = some (.cells #[.int .i64 (-1)] 3 (0, 0)) ∧ Below w.heap.size w X) (fun X => ∃ p : Nat, First b line x.toNat p ∧ X.cell? ⟨w.heap.size, 0, none⟩ = some (.int .i64 (p : Int)) ∧ Below w.heap.size w X) s t a c al cl ⟨call22, ?_, ?_⟩ (fun fr X h => HN.out X h.2.2) (fun X ⟨p, h⟩ => HN.out X h.2.2) h0 hl hll x.toNat (by omega) ⟨rfl, HG.out, HBA.out⟩).mono ?_
  · rintro fr W q ⟨rfl, h1, h2⟩
    exact ⟨rfl, h1, below_drews h2 q⟩
  · rintro fr p W ⟨rfl, h1, h2⟩ hf hp
    obtain ⟨d0, d1⟩ := cell_of1 h1
    refine (tell_next W _ p d0 d1).mono ?_
    rintro e W' ⟨rfl, rfl⟩
    exact Or.inr ⟨rfl, p, hf, World.cell?_setCell_same W ⟨w.heap.size, 0, none⟩ _ d0, h2.setCell (Nat.le_refl _) _⟩
  · rintro e w1 ⟨rfl, (⟨fr, ⟨rfl, h1, h2⟩, h3⟩ | ⟨p, hf, h1, h2⟩)⟩
    · obtain ⟨d0, d1⟩ := cell_of1 h1
      have HE := Lib.hid (nextOf_none h3)
      have HB := Lib.hid h2
      clear h1 h2 h3 d1
      go_wp2
      go_ret
      exact ⟨ret_int (by rw [HE.out]), HB.out⟩
    · have HE := Lib.hid (nextOf_first h0 hf)
      have HB := Lib.hid h2
      clear h2 hf
      go_wp2
      go_ret
      exact ⟨ret_int (by rw [HE.out]), HB.out⟩
end Go.Proofs.Ytcoghcfhkndijaa.Two
