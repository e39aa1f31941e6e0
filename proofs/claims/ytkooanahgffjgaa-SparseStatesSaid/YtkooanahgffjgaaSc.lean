import Derived.Test.YtkooanahgffjgaaSb
import Derived.WalkMore
import Derived.ScopeJumps
import Derived.Maps.RangeWalk
/- A step, by a handle on the edges. -/
namespace Go.Proofs.Ytkooanahgffjgaa.Spa
open Go.RowKit Go.Maps
open Go.Proofs.Ytkooanahgffjgaa.Tri Go.Proofs.Ytkooanahgffjgaa.Lnk
set_option maxRecDepth 100000
theorem pathD_place {ps : List Tx} {p : Tx} (h : p ∈ ps) : pathD ps (place ps p) = p := by
  obtain ⟨i, hi, e, e2, _⟩ := place_mem h
  rw [e, pathD_at hi, e2]
theorem place_zero {ps : List Tx} (hw : Wf ps) {p : Tx} (h : p ∈ ps) : place ps p = 0 ↔ p = [] := by
  constructor
  · intro e
    obtain ⟨i, hi, e1, e2, _⟩ := place_mem h
    rw [e1] at e
    obtain rfl : i = 0 := by omega
    rw [← e2]; exact hw.at0
  · rintro rfl; exact place_nil hw
/-- A label at the head of a scope, and jumps back to it: one pass is enough. -/
theorem wp_goto_head {P : Program} {body : Code} {Q : Exit → Act → World → Prop} {a : Act} {w : World} (l : Nat) (J : Act → World → Prop) (μ : Act → World → Nat) (h0 : J a w)
    (pass : ∀ a w, J a w → body.wp P (Exit.jump l (fun a' w' => J a' w' ∧ μ a' w' < μ a w) Q) a w) : (Code.scope ((Code.label l).seq body)).wp P Q a w := by
  refine wp_scope_jumps (rest := Code.skip.seq body) l J μ (by simp [findLabel]) ?_ ?_
  · refine wp_seq (wp_label (Code.wp_mono ?_ (pass a w h0)))
    intro e1 a1 w1 h1
    cases e1 with
    | goto l1 => exact ⟨h1.1, h1.2.1⟩
    | _ => exact h1
  · exact fun a w h => wp_seq (wp_skip (pass a w h))
/-- A look at the edges. -/
theorem slook_any (w : World) (ps : List Tx) (hn : ps.length ≤ 3900) (u t : Nat) (p : Option Addr) (h : Met.Tb w u t p (edges ps)) (q : Tx) (hq : q ∈ ps) (c : UInt8) (a b e d : Int) (hM : Met.Mt w p a b e d) (ha : 0 ≤ a ∧ a ≤ 1000000000000) (hb : 0 ≤ b ∧ b ≤ 1000000000000) (hc : 0 ≤ e ∧ e ≤ 1000000000000) (hd : 0 ≤ d ∧ d ≤ 1000000000000) :
    Calls Try.prog 46 #[.pointer (some ⟨t, 0, none⟩), .int .i64 (place ps q), .int .u8 (c.toNat : Int)] w (Met.Adds w p a (b + 1) e d (.int .i64 (place ps (q ++ [c])))) := by
  have h1 := place_ge ps q
  have h2 := place_lt ps q
  have := Met.look_some w u t p (edges ps) h (place ps q) c (wf_nat h1 (by omega)) a b e d hM ha hb hc hd
  rwa [spar_edges, step_eq hq] at this
/-- A fall. -/
theorem sfall_any (w : World) (s t : Nat) (ps l : List Tx) (h : Li w s t ps l) (q : Tx) (hq : q ∈ ps) (hn : q ≠ []) :
    Calls Try.prog 47 #[.pointer (some ⟨t, 0, none⟩), .int .i64 (place ps q)] w fun e w' => e = .returned (.int .i64 (place ps (fallT ps q))) ∧ Below w.heap.size w w' := by
  have := fail_any w s t ps l h (place ps q)
  rwa [lkAt_place l hq, lkOf, show (Lk.mk (failOf ps q) (outOf ps l q) (own l q)).fail = failOf ps q from rfl, fail_fall h.1 hn] at this
set_option maxHeartbeats 4000000 in
theorem sstep_any (w : World) (t : Nat) (ps l : List Tx) (hA : Au w t ps l) (u tb : Nat) (p : Option Addr) (hT : Met.Tb w u tb p (edges ps)) (q : Tx) (hq : q ∈ ps) (c : UInt8) (a b e d : Int) (hM : Met.Mt w p a b e d)
    (ha : 0 ≤ a ∧ a ≤ 1000000000000) (hb : 0 ≤ b ∧ b + (stepN ps c q : Int) ≤ 1000000000000) (hc : 0 ≤ e ∧ e ≤ 1000000000000) (hd : 0 ≤ d ∧ d ≤ 1000000000000) :
    Calls Try.prog 32 #[.pointer (some ⟨t, 0, none⟩), .pointer (some ⟨tb, 0, none⟩), .int .i64 (place ps q), .int .u8 (c.toNat : Int)] w (Met.Adds w p a (b + (stepN ps c q : Int)) e d (.int .i64 (place ps (stepT ps c q)))) := by
  have HA := Lib.hid hA
  have HT := Lib.hid hT
  have HM := Lib.hid hM
  have HQ := Lib.hid hq
  have HW := Lib.hid hA.1
  clear hA hT hM hq
  go_enter Try.func32, Try.ntmps32
  go_wp2
  refine wp_goto_head 0 (fun a' w' => ∃ (q' : Tx) (k : Nat) (u9 u10 u11 u12 u13 u14 u15 u16 u17 u18 u19 u20 u21 u22 u23 u24 : Value), q' ∈ ps ∧ stepT ps c q' = stepT ps c q ∧ stepN ps c q = stepN ps c q' + k ∧ a' = { tmps := #[.pointer (some ⟨t, 0, none⟩), .pointer (some ⟨tb, 0, none⟩), .int .i64 (place ps q'), .int .u8 (c.toNat : Int), undef, undef, undef, undef, .int .i64 0, u9, u10, u11, u12, u13, u14, u15, u16, u17, u18, u19, u20, u21, u22, u23, u24], defers := [] } ∧ Met.Mt w' p a (b + (k : Int)) e d ∧ w.grownBy w' (Met.blk p)) (fun a' _ => (pathD ps (intOf (a'.tmps.getD 2 undef))).length) ⟨q, 0, undef, undef, undef, undef, undef, undef, undef, undef, undef, undef, undef, undef, undef, undef, undef, undef, HQ.out, rfl, rfl, rfl, by simpa using HM.out, World.grownBy.refl _ _⟩ ?_
  · rintro a' w' ⟨q', k, u9, u10, u11, u12, u13, u14, u15, u16, u17, u18, u19, u20, u21, u22, u23, u24, hq', hs, hn, rfl, hM', hg'⟩
    have HQ' := Lib.hid hq'
    have HS := Lib.hid hs
    have HN := Lib.hid hn
    have HM' := Lib.hid hM'
    have HG' := Lib.hid hg'
    have HA' := Lib.hid (HA.out.adds HG'.out HM.out)
    have hp3 := HA.out.2.2.1
    have h1N := stepN_pos ps c q'
    have HL := Lib.hid (slook_any w' ps hp3 u tb p (HT.out.adds HG'.out HM.out) q' HQ'.out c a (b + (k : Int)) e d HM'.out ha (by omega) hc hd)
    clear hq' hs hn hM' hg'
    by_cases hit : q' ++ [c] ∈ ps
    · have HI := Lib.hid hit
      have hp := (place_nonneg ps (q' ++ [c])).2 hit
      clear hit
      go_wp2_with (go_at_call 46; (with_reducible refine HL.out.mono ?_); rintro e w2 ⟨rfl, hM2, hg2⟩; have HM2 := Lib.hid hM2; have HG2 := Lib.hid hg2; clear hM2 hg2)
      simp only [Exit.jump]
      go_ret
      have e1 : stepN ps c q = 1 + k := by rw [HN.out, stepN_one (.inl HI.out)]
      refine ⟨by rw [← HS.out, stepT_hit HI.out]; rfl, ?_, HG'.out.trans HG2.out⟩
      have e2 : b + (stepN ps c q : Int) = b + (k : Int) + 1 := by rw [e1]; omega
      rw [e2]; exact HM2.out
    · have hp := (place_neg ps (q' ++ [c])).2 hit
      have HI := Lib.hid hit
      clear hit
      by_cases h0 : q' = []
      · have hz : (place ps q' == 0) = true := by rw [(place_zero HW.out HQ'.out).2 h0]; rfl
        have H0 := Lib.hid h0
        clear h0
        go_wp2_with (go_at_call 46; (with_reducible refine HL.out.mono ?_); rintro e w2 ⟨rfl, hM2, hg2⟩; have HM2 := Lib.hid hM2; have HG2 := Lib.hid hg2; clear hM2 hg2)
        simp only [Exit.jump]
        go_ret
        have e1 : stepN ps c q = 1 + k := by rw [HN.out, stepN_one (.inr H0.out)]
        have e3 : place ps (stepT ps c q) = 0 := by
          have hi := HI.out
          rw [← HS.out, H0.out, stepT_root (by rw [H0.out] at hi; simpa using hi), place_nil HW.out]
        refine ⟨by rw [e3]; rfl, ?_, HG'.out.trans HG2.out⟩
        have e2 : b + (stepN ps c q : Int) = b + (k : Int) + 1 := by rw [e1]; omega
        rw [e2]; exact HM2.out
      · have hz : (place ps q' == 0) = false := by
          rw [beq_eq_false_iff_ne]; exact fun e => h0 ((place_zero HW.out HQ'.out).1 e)
        have H0 := Lib.hid h0
        clear h0
        go_wp2_with (go_at_call 46; (with_reducible refine HL.out.mono ?_); rintro e w2 ⟨rfl, hM2, hg2⟩; have HM2 := Lib.hid hM2; have HG2 := Lib.hid hg2; clear hM2 hg2; have hA2 := HA'.out.adds HG2.out HM'.out; obtain ⟨_, _, _, _, tt, lt, v, hB, _, hL, _⟩ := hA2; obtain ⟨c0, c1, c2⟩ := hB.cells; have HF := Lib.hid (sfall_any w2 0 lt ps l hL q' HQ'.out H0.out); clear hB hL c0 c2)
        go_wp2_with (go_at_call 47; (with_reducible refine HF.out.mono ?_); rintro e w3 ⟨rfl, hb3⟩; have HB3 := Lib.hid hb3; clear hb3)
        go_step3
        refine ⟨rfl, ⟨fallT ps q', k + 1, _, _, _, _, _, _, _, _, _, _, _, _, _, _, _, _, fallT_mem HW.out q', ?_, ?_, rfl, ?_, ?_⟩, ?_⟩
        · rw [← HS.out, stepT_fall HW.out HI.out H0.out]
        · rw [HN.out, stepN_fall HI.out H0.out]; omega
        · have e2 : b + ((k + 1 : Nat) : Int) = b + (k : Int) + 1 := by omega
          rw [e2]; exact HM2.out.keep HB3.out
        · exact (HG'.out.trans HG2.out).trans ((grown_of_below HB3.out).but _)
        · show (pathD ps (place ps (fallT ps q'))).length < (pathD ps (place ps q')).length
          rw [pathD_place (fallT_mem HW.out q'), pathD_place HQ'.out]
          exact fallT_lt ps H0.out
end Go.Proofs.Ytkooanahgffjgaa.Spa
