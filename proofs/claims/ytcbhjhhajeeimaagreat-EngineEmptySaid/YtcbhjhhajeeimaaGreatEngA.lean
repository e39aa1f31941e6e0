/- The engine: New. -/
import Derived.Test.YtcbhjhhajeeimaaGreatEngA3
namespace Go.Proofs.YtcbhjhhajeeimaaGreat.Eng
open Go.Proofs.YtcbhjhhajeeimaaGreat.Tri Go.Proofs.YtcbhjhhajeeimaaGreat.Lnk Go.Proofs.YtcbhjhhajeeimaaGreat.Prs Go.Proofs.YtcbhjhhajeeimaaGreat.Spa Go.Proofs.YtcbhjhhajeeimaaGreat.Reg Go.RowKit Go.Maps
set_option maxRecDepth 100000
set_option linter.unusedVariables false

theorem Sr.iface {w : World} {tag : Int} {L : List Tx} {v : Value} (h : Sr w tag L v) : ∃ T x, v = .iface T x := by
  rcases h with ⟨_, _, rfl⟩ | ⟨_, _, _, rfl, _⟩ | ⟨_, _, _, _, rfl, _⟩ | ⟨_, _, _, _, rfl, _⟩ | ⟨_, _, _, rfl, _⟩ <;> exact ⟨_, _, rfl⟩
set_option maxHeartbeats 2000000 in
theorem enew_any (w : World) (tag : Int) (ht : (Lit.int .i64 tag).wf = true) (m : Option Nat) (a : Option Addr) (c : Nat) (l : List Tx) (hs : Pat.IsSet w m a l) (hl : l.length ≤ 100) (hx : ∀ x ∈ l, x.length ≤ 100) (hz : tot l ≤ 2000) :
    Calls Tryz.prog 12 #[.int .i64 tag, .agg #[.map m, .slice a (Pat.pats l).length c]] w (GivesEn w tag l) := by
  have hb : Below w.heap.size w (w.alloc (.cells #[.map m, .slice a (Pat.pats l).length c] 38)) := (Below.refl _ _).alloc (Nat.le_refl _) _
  obtain ⟨c0, c1⟩ := cells38 w m a (Pat.pats l).length c
  have hs1 := hs.keep hb
  have HS := Lib.hid (scanner_any _ tag m a c l (shr_any _ tag ht m a c l hs1 hl hx hz))
  have HE : Hid (∀ X, Below (w.heap.size + 1) (w.alloc (.cells #[.map m, .slice a (Pat.pats l).length c] 38)) X → Calls Tryz.prog 24 #[.agg #[.map m, .slice a (Pat.pats l).length c]] X fun e w' => e = .returned (.bool (decide ([] ∈ l))) ∧ Below X.heap.size X w') := Lib.hid fun X hX => Pat.empty_any m a _ c l X (hs1.keep (by rw [World.size_alloc]; exact hX))
  have HB := Lib.hid hb
  clear hs hs1 hb hx
  by_cases h0 : wrongI tag l = 0
  · have H0 := Lib.hid h0
    go_enter Tryz.func12, Tryz.ntmps12
    go_wp2_with (first
      | (go_at_call 27; (with_reducible refine HS.out.mono ?_); rintro e w1 ⟨v, rfl, hS, hb1⟩; have HC1 := Lib.hid hb1; have HB1 := Lib.hid (HB.out.trans (hb1.mono HB.out.size)); obtain ⟨T, x, rfl⟩ := (hS h0).iface; have HSR := Lib.hid (hS h0); obtain ⟨d0, d1⟩ := ((Pat.Blk2.new w 38 (.map m) (.slice a (Pat.pats l).length c)).keep hb1 (by simp)).cells; clear hb1 hS)
      | (go_at_call 24; (with_reducible refine (HE.out w1 (by have := HC1.out; rwa [World.size_alloc] at this)).mono ?_); rintro e w3 ⟨rfl, hb3⟩; have HB3 := Lib.hid (HB1.out.trans (hb3.mono HB1.out.size)); have HSR3 := Lib.hid (HSR.out.keep hb3); clear hb3))
    refine bodyPost_ret (v := .tuple #[.pointer (some ⟨w3.heap.size, 0, none⟩), .int .i64 0]) (by simp [results, Tryz.results12, go_sem]) rfl ?_
    have hba : Below w3.heap.size w3 (w3.alloc (.cells #[.int .i64 tag, .iface T x, .bool (decide (([] : Tx) ∈ l))] 68)) := (Below.refl _ _).alloc (Nat.le_refl _) _
    refine ⟨_, by rw [H0.out], fun h => absurd H0.out h, fun _ => ⟨_, _, rfl, heap_alloc_new _ _, HSR3.out.keep hba⟩, HB3.out.trans (hba.mono HB3.out.size)⟩
  · have hn : (wrongI tag l != 0) = true := by rw [bne_iff_ne]; exact h0
    have H0 := Lib.hid h0
    have HWF : Hid (wrongI tag l = 11 ∨ wrongI tag l = 13 ∨ wrongI tag l = 14) := Lib.hid ((wrong_cases tag l).resolve_left h0)
    clear h0
    go_enter Tryz.func12, Tryz.ntmps12
    go_wp2_with (first
      | (go_at_call 27; (with_reducible refine HS.out.mono ?_); rintro e w1 ⟨v, rfl, _, hb1⟩; have HB1 := Lib.hid (HB.out.trans (hb1.mono HB.out.size)); clear hb1))
    refine bodyPost_ret (v := .tuple #[.pointer none, .int .i64 (wrongI tag l)]) (by simp [results, Tryz.results12, go_sem]) rfl ?_
    exact ⟨none, rfl, fun _ => rfl, fun h => absurd h H0.out, HB1.out⟩
end Go.Proofs.YtcbhjhhajeeimaaGreat.Eng
