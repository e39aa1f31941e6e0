/- A loop over a text's lines: what its body must do. -/
import Derived.Test.YteggdhfchamffaaWd
namespace Go.Proofs.Yteggdhfchamffaa
open Go.RowKit Go.Shelf

theorem own_below {β : Type} {B : Nat} {I : β → World → Prop} (h : OwnFrom B I) {s : β} {X Y : World} (hs : I s X) (hb : Below X.heap.size X Y) : I s Y :=
  h s X Y none hs (grown_of_below hb) (fun _ e => by cases e)

/-- How the body of a round may be left: off its end, or by a break. -/
def linePost (N B m s : Nat) (I : List LnV → World → Prop) (Ix : Nat → List LnV → World → Prop) (xs : List LnV) (W : World) : Exit → Act → World → Prop
  | .normal, _, W' => KeepsFrom N W W' ∧ Kept B m s W W' ∧ I xs W'
  | .exit id, _, W' => KeepsFrom N W W' ∧ Ix id xs W'
  | _, _, _ => False

set_option maxHeartbeats 1000000 in
theorem range_lines {g : Operand} {p : Tmp} {assign body : Code} {Q : Exit → Act → World → Prop} {a : Act} {w : World} (n Bn B : Nat)
    (hg : a.eval g = .func (.func 31) #[] #[.pointer (some ⟨Bn, 0, none⟩)])
    (t : List UInt8) (a0 : Option Addr) (cap0 : Nat) (ht : t.length ≤ 1000000000000) (hcap : t.length ≤ cap0)
    (hbox : w.heap[Bn]? = some (.cells #[.slice a0 t.length cap0] 22 (0, 0))) (hB : B < w.heap.size) (hBn : Bn ≠ B)
    (hT : 0 < t.length → ∃ b cs, a0 = some ⟨b, 0, none⟩ ∧ b ≠ B ∧ w.heap[b]? = some (.cells cs 5 (0, 0)) ∧ ∀ i (h : i < t.length), cs[i]? = some (.int .u8 (t[i].toNat : Int)))
    (I : List LnV → World → Prop) (Ix : Nat → List LnV → World → Prop) (hI : OwnFrom w.heap.size I) (hIx : ∀ id, OwnFrom w.heap.size (Ix id)) (h0 : I [] w) (act : LnV → Nat → Act)
    (hassign : ∀ (l : Nat) (x : LnV) (W : World) (K : Act → World → Prop), K (act x W.heap.size) (W.alloc (.cells #[.int .i64 (x.ln.off : Int), .slice x.a x.ln.text.length x.cap, .bool x.ln.ends] 61)) →
      assign.wpIn (Fence.wide.inRound l) (n - 1 - 1) Try.prog (Exit.then K (fun _ _ _ => False)) { tmps := a.tmps.setIfInBounds p x.val, defers := [] } W)
    (hbody : ∀ (l : Nat) (pre : List LnV) (x : LnV) (W0 W : World) (Bx : Nat), I pre W0 → Below W0.heap.size W0 W → Txt W W0.heap.size x.a x.ln.text → W0.heap.size ≤ Bx →
      Blk3 W Bx 61 (.int .i64 (x.ln.off : Int)) (.slice x.a x.ln.text.length x.cap) (.bool x.ln.ends) → w.heap.size < W0.heap.size → (pre ++ [x]).map LnV.ln <+: linesOf t →
      body.wpIn (Fence.wide.inRound l) (n - 1 - 1) Try.prog (linePost w.heap.size B w.heap.size W0.heap.size I Ix (pre ++ [x]) W) (act x Bx) W)
    (hdone : ∀ (D : Nat) (xs : List LnV) (W : World), w.heap.size ≤ D → xs.map LnV.ln = linesOf t → I xs W → W.heap[D]? = some (.deferred (some [])) → Q .normal { a with defers := { target := .collected D, args := #[] } :: a.defers } W)
    (hstop : ∀ (D id : Nat) (pre : List LnV) (W : World), w.heap.size ≤ D → pre.map LnV.ln <+: linesOf t → Ix id pre W → W.heap[D]? = some (.deferred (some [])) → (Code.exit id).wpIn Fence.wide n Try.prog Q { a with defers := { target := .collected D, args := #[] } :: a.defers } W) :
    (Code.rangeFunc g #[p] assign body).wpIn Fence.wide n Try.prog Q a w := by
  refine wpIn_rangeFunc fun fn hfn => ?_
  -- the record, by its state and its pending jump
  let rc : LoopState → Option Code → Loop := fun st pe => { state := st, pending := pe, fn := fn, tmps := a.tmps, params := #[p], assign := assign, body := body, defers := w.heap.size }
  obtain ⟨W1, hW1⟩ : ∃ W1, W1 = (w.alloc (.deferred (some []))).alloc (.loop (rc .ready none)) := ⟨_, rfl⟩
  have fD : W1.heap[w.heap.size]? = some (.deferred (some [])) := by
    rw [hW1]; exact (Below.heap_alloc _ _ _ (by simp)).trans (World.alloc_heap_new w _)
  have fL : W1.heap[w.heap.size + 1]? = some (.loop (rc .ready none)) := by
    have h := World.alloc_heap_new (w.alloc (.deferred (some []))) (.loop (rc .ready none))
    rw [World.size_alloc] at h
    rw [hW1]; exact h
  have fB : Below w.heap.size w W1 := by
    rw [hW1]; exact ((Below.refl _ w).alloc (Nat.le_refl _) _).alloc (by simp) _
  refine ⟨w.heap.size + 1, [{ target := .collected w.heap.size, args := #[] }], W1, { target := .fn (.func 31) #[.pointer (some ⟨Bn, 0, none⟩)], args := #[.func (.yield (w.heap.size + 1)) #[] #[]] }, W1, 31,
    #[.func (.yield (w.heap.size + 1)) #[] #[], .pointer (some ⟨Bn, 0, none⟩)], W1, ?_, ?_, fun _ _ => trivial, ?_, (fun h => by cases h), ?_⟩
  · rw [hW1]; exact run_enterLoop_outer fn a.tmps #[p] assign body
  · simp only [resolve, hg]; simp [go_sem]
  · simp [invoke, go_sem]
  refine (all1_any (n - 1) (w.heap.size + 1) Bn B w.heap.size t a0 cap0 ht hcap
    (fun pre W => I pre W ∧ W.heap[w.heap.size + 1]? = some (.loop (rc .ready none)) ∧ W.heap[w.heap.size]? = some (.deferred (some [])))
    (fun pre W => ∃ id, Ix id pre W ∧ W.heap[w.heap.size + 1]? = some (.loop (rc .done (some (.exit id)))) ∧ W.heap[w.heap.size]? = some (.deferred (some [])))
    ?abides ?yields W1 fB.size ((fB.block Bn (txt_lt hbox)).trans hbox) hB ⟨txt_lt hbox, hBn⟩ ?text ⟨own_below hI h0 fB, fL, fD⟩).mono ?_
  case abides =>
    rintro pre X Y ⟨h1, h2, h3⟩ hb
    exact ⟨own_below hI h1 hb, (hb.block _ (txt_lt h2)).trans h2, (hb.block _ (txt_lt h3)).trans h3⟩
  case text =>
    intro hp
    obtain ⟨b, cs, e, hb, hh, hc⟩ := hT hp
    exact ⟨b, cs, e, txt_lt hh, hb, (fB.block b (txt_lt hh)).trans hh, hc⟩
  case yields =>
    rintro pre x W0 W ⟨hi, hl0, hd0⟩ hb htx hpf
    have ltL : w.heap.size + 1 < W0.heap.size := txt_lt hl0
    have ltD : w.heap.size < W0.heap.size := txt_lt hd0
    have hl : W.heap[w.heap.size + 1]? = some (.loop (rc .ready none)) := (hb.block _ ltL).trans hl0
    have hd : W.heap[w.heap.size]? = some (.deferred (some [])) := (hb.block _ ltD).trans hd0
    refine ⟨fn, _, assign, body, run_yield (args := #[x.val]) hl rfl, roundIn_of_wpIn hfn ?_⟩
    have et : (((rc .ready none).params.zip #[x.val]).foldl (fun tmps (t, a) => tmps.setIfInBounds t a) (rc .ready none).tmps) = a.tmps.setIfInBounds p x.val := by simp [rc]
    rw [et]
    refine hassign _ x W _ ?_
    obtain ⟨Wa, hWa⟩ : ∃ Wa, Wa = W.alloc (.cells #[.int .i64 (x.ln.off : Int), .slice x.a x.ln.text.length x.cap, .bool x.ln.ends] 61) := ⟨_, rfl⟩
    have ba : Below W.heap.size W Wa := by rw [hWa]; exact (Below.refl _ _).alloc (Nat.le_refl _) _
    have sa : Wa.heap.size = W.heap.size + 1 := by rw [hWa]; simp
    have ka : Blk3 Wa W.heap.size 61 (.int .i64 (x.ln.off : Int)) (.slice x.a x.ln.text.length x.cap) (.bool x.ln.ends) := by rw [hWa]; exact new_cells _ _ _ _ _
    rw [← hWa]
    have ltW := hb.size
    have la := (ba.block _ (by omega)).trans hl
    have da := (ba.block _ (by omega)).trans hd
    refine ⟨_, run_beginRound la rfl, ?_⟩
    obtain ⟨o, ho⟩ : ∃ o : Obj, o = .loop { rc .ready none with state := .busy } := ⟨_, rfl⟩
    rw [← ho]
    have lb : (Wa.putObj (w.heap.size + 1) o).heap[w.heap.size + 1]? = some o := World.putObj_heap_same (by omega)
    have db : (Wa.putObj (w.heap.size + 1) o).heap[w.heap.size]? = some (.deferred (some [])) := (World.putObj_heap_other (by omega)).trans da
    have bb : Below (W0.putObj (w.heap.size + 1) o).heap.size (W0.putObj (w.heap.size + 1) o) (Wa.putObj (w.heap.size + 1) o) := by
      refine ⟨ba.os.trans hb.os, ba.tape.trans hb.tape, ba.output.trans hb.output, by simp; omega, fun k hk => ?_⟩
      rw [World.putObj_size] at hk
      by_cases e : k = w.heap.size + 1
      · subst e; rw [World.putObj_heap_same (by omega), World.putObj_heap_same (by omega)]
      · rw [World.putObj_heap_other e, World.putObj_heap_other e]
        exact (ba.block k (by omega)).trans (hb.block k hk)
    have tb : Txt (Wa.putObj (w.heap.size + 1) o) (W0.putObj (w.heap.size + 1) o).heap.size x.a x.ln.text := fun hp => by
      obtain ⟨b, cs, e, hs, hh, hc⟩ := (htx.keep ba) hp
      exact ⟨b, cs, e, by simpa using hs, (World.putObj_heap_other (by omega)).trans hh, hc⟩
    have kb : Blk3 (Wa.putObj (w.heap.size + 1) o) W.heap.size 61 (.int .i64 (x.ln.off : Int)) (.slice x.a x.ln.text.length x.cap) (.bool x.ln.ends) := (World.putObj_heap_other (by omega)).trans ka
    refine wpIn_mono (hbody (w.heap.size + 1) pre x (W0.putObj (w.heap.size + 1) o) (Wa.putObj (w.heap.size + 1) o) W.heap.size (hI.putObj _ hi (by omega) hl0 rfl) bb tb (by simpa using ltW) kb (by simpa using ltD) hpf) ?_
    rintro e a3 W3 hp
    cases e with
    | normal =>
      obtain ⟨k3, q3, i3⟩ := hp
      have l3 := k3.same _ _ (by omega) lb (by rw [ho]; rfl)
      have d3 := k3.same _ _ (Nat.le_refl _) db rfl
      rw [ho] at l3
      refine ⟨_, _, run_endRound none l3, .inl ⟨rfl, ⟨hI.putObj _ i3 (by omega) l3 rfl, World.putObj_heap_same (txt_lt l3), (World.putObj_heap_other (by omega)).trans d3⟩, ?_⟩⟩
      have z3 := q3.size
      rw [World.putObj_size] at z3
      refine ⟨by rw [World.putObj_size]; omega, fun k hk hkB hks => ?_⟩
      have hne : k ≠ w.heap.size + 1 := by omega
      rw [World.putObj_heap_other hne, q3.same k (by simp; omega) hkB (by simpa using hks), World.putObj_heap_other hne]
      exact ba.block k hk
    | exit id =>
      obtain ⟨k3, i3⟩ := hp
      have l3 := k3.same _ _ (by omega) lb (by rw [ho]; rfl)
      have d3 := k3.same _ _ (Nat.le_refl _) db rfl
      rw [ho] at l3
      exact ⟨_, _, run_endRound (some (.exit id)) l3, .inr ⟨rfl, id, (hIx id).putObj _ i3 (by omega) l3 rfl, World.putObj_heap_same (txt_lt l3), (World.putObj_heap_other (by omega)).trans d3⟩⟩
    | ret => exact hp.elim
    | goto _ => exact hp.elim
    | panic _ => exact hp.elim
    | outgrown => exact hp.elim
  · rintro e W2 ⟨⟨v, rfl⟩, ⟨xs, hS, hi, hl, hd⟩ | ⟨pre, hS, id, hi, hl, hd⟩⟩
    · exact ⟨none, _, run_endLoop hl (by simp [rc]), hdone _ xs _ (Nat.le_refl _) hS (hI.putObj _ hi (by omega) hl rfl) ((World.putObj_heap_other (by omega)).trans hd)⟩
    · exact ⟨some (.exit id), _, run_endLoop hl (by simp [rc]), hstop _ id pre _ (Nat.le_refl _) hS ((hIx id).putObj _ hi (by omega) hl rfl) ((World.putObj_heap_other (by omega)).trans hd)⟩
end Go.Proofs.Yteggdhfchamffaa
