/- Options: Show. -/
import Derived.Test.YtjccnhipdhpkoaaOptA3
namespace Go.Proofs.Ytjccnhipdhpkoaa.Opt
open Go.RowKit
set_option maxRecDepth 100000
attribute [local go_sem ↓] eql_opts

theorem eq7_none (a b c d e f g : Bool) : eq7 a b c d e f g false false false false false false false = decide ([a, b, c, d, e, f, g] = none7) := by
  cases a <;> cases b <;> cases c <;> cases d <;> cases e <;> cases f <;> cases g <;> rfl
theorem conv_runes {w : World} {base : Nat} {v : Value} {zs : List Int} {n : Nat} (h : w.ownsRow base 21 1 v n (rvals zs)) (h0 : 0 < n) :
    (convert 46 9 v).run Try.prog w = .ok (.string (runesBytes zs)) w := by
  have hn : zs.length = n := by have := h.1; simpa [rvals] using this
  rcases h.2 with ⟨_, h1⟩ | ⟨g, cap, cur, rfl, hg, hh, hnc, _, hs, ht⟩
  · omega
  · have := run_convert_runes (P := Try.prog) w 46 9 21 ⟨g, 0, none⟩ n cap zs (by omega) und46 und21 und9 fun j hj => by
      have e2 : (⟨g, 0, none⟩ : Addr).add j = ⟨g, j, none⟩ := by unfold Addr.add; split <;> simp_all
      have e : (cur.toList.take (n * 1))[j]? = (rvals zs)[j]? := by rw [ht]
      rw [List.getElem?_take_of_lt (by omega)] at e
      rw [e2, cell_of_row w g _ _ 21 (0, 0) hh, ← Array.getElem?_toList, e]
      simp [rvals, hj]
    rw [this, ← hn, List.take_length]

theorem bytes_str {b : ByteArray} {l : List UInt8} (h : b.data.toList = l) : b = str l := by
  subst h
  rfl
theorem lit_at {w : World} {x : Nat} (hx : x = w.heap.size) (z : Int) : (w.alloc (.cells #[.int .i32 z] 21)).ownsRow x 21 1 (.slice (some ⟨x, 0, none⟩) 1 1) 1 (rvals [z]) := by
  subst hx
  exact World.ownsRow_lit w #[.int .i32 z] 1 (Nat.le_refl _) (by unfold maxLen; decide) rfl
theorem own_len {w : World} {B n : Nat} {v : Value} {zs : List Int} (h : w.ownsRow B 21 1 v n (rvals zs)) : w.ownsRow B 21 1 v zs.length (rvals zs) := by
  have hn : zs.length = n := by have := h.1; simpa [rvals] using this
  rw [hn]; exact h
theorem own_ne_iter {w : World} {B e size n : Nat} {v : Value} {xs : List Value} {k : Nat} {s : ByteArray} {pos : Nat} (h : w.ownsRow B e size v n xs) (hk : w.heap[k]? = some (.stringIter s pos)) : some k ≠ v.ownBlock := by
  rcases h.2 with ⟨rfl, _⟩ | ⟨g, cap, cur, rfl, hb, hg, rest⟩
  · simp [Value.ownBlock]
  · intro e
    simp only [Value.ownBlock, Option.some.injEq] at e
    subst e
    rw [hk] at hg
    cases hg

set_option maxHeartbeats 1000000 in
theorem show_any (a b c d e f g : Bool) (w : World) :
    Calls Try.prog 12 #[val7 a b c d e f g] w fun r w' => r = .returned (.string (str (showO [a, b, c, d, e, f, g]))) ∧ Below w.heap.size w w' := by
  by_cases hnone : [a, b, c, d, e, f, g] = none7
  · obtain ⟨rfl, rfl, rfl, rfl, rfl, rfl, rfl⟩ : a = false ∧ b = false ∧ c = false ∧ d = false ∧ e = false ∧ f = false ∧ g = false := by simpa [none7] using hnone
    have hq : eq7 false false false false false false false false false false false false false false = true := rfl
    go_enter Try.func12, Try.ntmps12
    go_wp2
    go_ret
    exact ⟨rfl, (Below.refl _ _).alloc (Nat.le_refl _) _⟩
  · have hq : eq7 a b c d e f g false false false false false false false = false := by rw [eq7_none]; exact decide_eq_false hnone
    have HS := Lib.hid (show_is a b c d e f g hnone)
    obtain ⟨l, hl⟩ : ∃ l, l = [a, b, c, d, e, f, g] := ⟨_, rfl⟩
    have h7 : l.length = 7 := by rw [hl]; rfl
    have HL := Lib.hid hl
    rw [← hl] at HS
    rw [← hl]
    clear hl hnone
    go_enter Try.func12, Try.ntmps12
    go_wp2
    go_loopg [3, 5] 7 (fun gf s3 s5 wx => ∃ k : Nat, k + gf = 7 ∧ wx.ownsRow (w.heap.size + 1) 21 1 s3 ((45 : Int) :: runesTo l k).length (rvals (45 :: runesTo l k)) ∧ wx.heap[w.heap.size + 1 + 1]? = some (.stringIter LIT k) ∧ Bk wx w.heap.size l ∧ Below w.heap.size w wx)
    case atStart =>
      refine ⟨0, rfl, ?_, iter_at (by simp) _ _, ?_, (((Below.refl _ _).alloc (Nat.le_refl _) _).alloc (by simp) _).alloc (by simp; omega) _⟩
      · exact (lit_at (by simp) 45).alloc _
      rw [HL.out]
      exact (bk_new _ _ _ _ _ _ _ _).keep (((Below.refl _ _).alloc (Nat.le_refl _) _).alloc (by simp) _) (by simp)
    case round =>
      obtain ⟨k, hk, hown, hit, hbk, hbel⟩ := hrel
      cases gk with
      | succ gf =>
        have hlt : k < 7 := by omega
        have hnx := fun ty => next_let hit hlt ty
        have hit2 := Lib.iterAt_heap wr _ LIT k (k + 1) hit
        have hbk2 := hbk.iter hit (k + 1)
        have hown2 := own_iter hown hit (k + 1)
        have hbel2 := Lib.below_iterAt hbel (k := w.heap.size + 1 + 1) (by omega) LIT (k + 1)
        obtain ⟨W, hWd⟩ : ∃ W, wr.iterAt (w.heap.size + 1 + 1) LIT (k + 1) = W := ⟨_, rfl⟩
        rw [hWd] at hnx hit2 hbk2 hbel2 hown2
        clear hit hbk hbel hWd hown
        obtain ⟨b, hb⟩ : ∃ b, l[k]? = some b := ⟨_, List.getElem?_eq_getElem (by omega)⟩
        have hcl := hbk2.cell hb
        have C1 := Lib.hid (field_let w.heap.size hlt W)
        have HBT := Lib.hid (runesTo_next hb)
        have HLN := Lib.hid (runesTo_len l k)
        have HOW := Lib.hid hown2
        clear hb hown2
        cases b
        · go_wp2_with (go_at_call 22; (with_reducible refine C1.out.mono ?_); rintro e W' ⟨rfl, rfl⟩)
          go_roundg gf
          case rel => exact ⟨k + 1, by omega, by have e := HBT.out; simp at e; rw [e]; exact HOW.out, hit2, hbk2, hbel2⟩
          case measure => omega
        · go_wp2_with (first
            | (go_at_call 22; (with_reducible refine C1.out.mono ?_); rintro e W' ⟨rfl, rfl⟩)
            | (at_builtin; refine app_rune rfl _ _ rfl (w.heap.size + 1) _ ((45 : Int) :: runesTo l k).length (45 :: runesTo l k) (letN k : Int) rfl (HOW.out.alloc _) ⟨W'.heap.size, 0, none⟩ rfl (cell_at_new _ _ rfl) (by have := HLN.out; simp; omega) (by have := hbel2.size; have := HOW.out; simp; omega) ?_; intro v' w2 hown3 hgrow))
          go_roundg gf
          case rel =>
            have hge := @own_ge _ _ _ _ _ _ _ HOW.out
            have e := HBT.out
            simp at e
            refine ⟨k + 1, by omega, ?_, ?_, ?_, ?_⟩
            · rw [e]; exact own_len hown3
            · exact (hgrow.block _ (by have := (Array.getElem?_eq_some_iff.1 hit2).1; simp; omega) (own_ne_iter HOW.out hit2)).trans ((Below.heap_alloc _ _ _ (Array.getElem?_eq_some_iff.1 hit2).1).trans hit2)
            · exact ⟨(hgrow.block _ (by have := hbk2.lt; simp; omega) (fun h => by have := hge h.symm; omega)).trans ((Below.heap_alloc _ _ _ hbk2.lt).trans hbk2.1), h7⟩
            · exact (hbel2.alloc hbel2.size _).grown hgrow (by have := hbel2.size; simp; omega) (fun j hj => by have := hge hj; omega)
          case measure => omega
      | zero => 
        obtain rfl : k = 7 := by omega
        have hnx := fun ty => next_over hit ty
        have hcv := conv_runes hown (by simp)
        go_wp2
        go_ret
        refine ⟨?_, hbel⟩
        rw [← bytes_str HS.out]
        trace_state
        rfl
end Go.Proofs.Ytjccnhipdhpkoaa.Opt
