/- The contracts of Rising, Fits, Empties and slices.Clone. -/
import Derived.Test.YtkooanahgffjgaaPa
import Derived.StillTailTactics
import Derived.IntWalk
import Derived.Lib.SliceRun
namespace Go.Proofs.Ytkooanahgffjgaa.Prs
open Go.RowKit
set_option maxRecDepth 100000
attribute [local go_sem ↓] eql_pairs neq_pairs

theorem und22 : Try.prog.underlying 33 = some (.slice 52) := by kernel_rfl
theorem eql_nil22 : ∀ (w : World) (a : Option Addr) (n c n' c' : Nat), (binOp .eql 33 (.slice a n c) (.slice none n' c')).run Try.prog w = .ok (.bool a.isNone) w :=
  fun w a n c n' c' => Lib.run_eql_slice_nil w _ _ a n c n' c' und22
theorem ps_none {W : World} {B : Nat} {xs : List Pr} (h : Ps W B none xs) : xs = [] := by
  rcases Nat.eq_zero_or_pos xs.length with h0 | h0
  · exact List.eq_nil_of_length_eq_zero h0
  · obtain ⟨_, _, e, _⟩ := h h0; cases e
set_option maxHeartbeats 1000000 in
theorem clone_any (xs : List Pr) (a : Option Addr) (ca : Nat) (w : World) (hl : xs.length ≤ 1000000) (hx : Ps w w.heap.size a xs) (hn : a = none → ca = 0) :
    Calls Try.prog 50 #[.slice a xs.length ca] w (Gives w xs) := by
  have hnil := eql_nil22
  cases a with
  | none =>
    obtain rfl := ps_none hx
    obtain rfl := hn rfl
    go_enter Try.func50, Try.ntmps50
    go_wp2
    go_ret
    exact ⟨none, 0, rfl, Nat.zero_le _, fun _ => rfl, ps_nil _ _ _, Below.refl _ _⟩
  | some ad =>
    have hb0 : Below w.heap.size w (w.alloc (.cells #[] 52)) := (Below.refl _ _).alloc (Nat.le_refl _) _
    have HX : Hid (Ps (w.alloc (.cells #[] 52)) (w.alloc (.cells #[] 52)).heap.size (some ad) xs) := Lib.hid (hx.keeps hb0)
    have hm : (w.alloc (.cells #[] 52)).ownsRow w.heap.size 52 2 (.slice (some ⟨w.heap.size, 0, none⟩) 0 0) 0 (cellsOf []) := World.ownsRow_made w #[] 0 (Nat.le_refl _) (Nat.zero_le _) rfl
    clear hx
    go_enter Try.func50, Try.ntmps50
    go_wp2_with (at_builtin; refine app_ps rfl _ _ rfl w.heap.size _ 0 [] rfl hm (some ad) xs ca _ rfl HX.out (fun e => by cases e) (by omega) (by simp) ?_; intro v2 w2 hown2 hg2; have hb2 := app_below hb0 hm hg2 (by simp) (Nat.le_refl _))
    go_ret
    obtain ⟨a2, c2, rfl, h1, h2, h3⟩ := own_ps (xs := xs) hown2 (by simp)
    exact ⟨a2, c2, rfl, h1, h2, h3, hb2⟩
end Go.Proofs.Ytkooanahgffjgaa.Prs
