/- StreamPlays: the stream and the reference's, side by side. -/
import Derived.Test.YtcekifknbljbiaaStrC5
namespace Go.Proofs.Ytcekifknbljbiaa.Str
open Go.Proofs.Ytcekifknbljbiaa.Stm Go.Proofs.Ytcekifknbljbiaa.Reg Go.RowKit Go.Maps
set_option maxRecDepth 100000
set_option linter.unusedVariables false

/-- The stream, and the reference's in a block of its own. -/
structure Dp (W0 W : World) (p gm g : Nat) (d : Option Nat) (cb : Nat) (q : St) : Prop where
  sm : Sm W0 W p (some ⟨gm, 0, none⟩) g d q
  rb : Rb W cb q
  lo : W0.heap.size ≤ cb
  no : ¬ Own p g d (some ⟨gm, 0, none⟩) cb
theorem Dp.keep {W0 W W' : World} {p gm g : Nat} {d : Option Nat} {cb : Nat} {q : St} (h : Dp W0 W p gm g d cb q) (hb : Below W.heap.size W W') : Dp W0 W' p gm g d cb q :=
  ⟨h.sm.keep hb, h.rb.keep hb h.rb.lt, h.lo, h.no⟩
/-- The stream has gone on. -/
theorem Dp.went {W0 W W' : World} {p gm g : Nat} {d d' : Option Nat} {cb : Nat} {q q' : St} (h : Dp W0 W p gm g d cb q) (hm : Sm W0 W' p (some ⟨gm, 0, none⟩) g d' q') (hc : Ch W W' (Own p g d (some ⟨gm, 0, none⟩))) (hd : Nd W d d') : Sm W0 W' p (some ⟨gm, 0, none⟩) g d' q' ∧ Rb W' cb q ∧ ¬ Own p g d' (some ⟨gm, 0, none⟩) cb :=
  ⟨hm, (hc.cblk cb h.rb.lt h.no).trans h.rb, fun e => h.no (hd.own h.rb.lt e)⟩
/-- And so has the reference's. -/
theorem dp_set {W0 W : World} {p gm g : Nat} {d : Option Nat} {cb : Nat} {q q' : St} (hm : Sm W0 W p (some ⟨gm, 0, none⟩) g d q') (hr : Rb W cb q) (hl : W0.heap.size ≤ cb) (hn : ¬ Own p g d (some ⟨gm, 0, none⟩) cb) : Dp W0 (set9 W cb q') p gm g d cb q' :=
  ⟨hm.ch (ch_set9 W cb q') (fun k e => by rw [e]; exact ⟨hl, hn⟩), set9_rb hr q', hl, hn⟩
theorem neq_counts (a b c d : Int) (w : World) : (binOp .neq 44 (.agg #[.int .i64 a, .int .i64 b, .int .i64 c, .int .i64 d]) (.agg #[.int .i64 a, .int .i64 b, .int .i64 c, .int .i64 d])).run Try.prog w = .ok (.bool false) w := by
  simp [go_sem]
/-- The reference's lines, read. -/
def Rl (W : World) (a : Option Addr) (F : List Sl) : Prop :=
  0 < F.length → ∃ b off, a = some ⟨b, off, none⟩ ∧ b < W.heap.size ∧ ∀ i (h : i < F.length), W.cell? ⟨b, off + i * 3, none⟩ = some (.int .i64 (F[i].num : Int)) ∧ W.cell? ⟨b, off + i * 3 + 1, none⟩ = some (.int .i64 (F[i].off : Int)) ∧ W.cell? ⟨b, off + i * 3 + 2, none⟩ = some (.string (str F[i].text))
theorem Rl.keep {W W' : World} {a : Option Addr} {F : List Sl} (h : Rl W a F) (hb : Below W.heap.size W W') : Rl W' a F := fun h0 => by
  obtain ⟨b, off, e, hlt, hc⟩ := h h0
  refine ⟨b, off, e, Nat.lt_of_lt_of_le hlt hb.size, fun i hi => ?_⟩
  obtain ⟨h1, h2, h3⟩ := hc i hi
  exact ⟨(hb.cell (p := ⟨b, _, none⟩) hlt).trans h1, (hb.cell (p := ⟨b, _, none⟩) hlt).trans h2, (hb.cell (p := ⟨b, _, none⟩) hlt).trans h3⟩
theorem Rl.ch {W W' : World} {X : Nat → Prop} {a : Option Addr} {F : List Sl} (h : Rl W a F) (hc : Ch W W' X) (hX : ∀ ad : Addr, a = some ad → ¬ X ad.block) : Rl W' a F := fun h0 => by
  obtain ⟨b, off, e, hlt, hcs⟩ := h h0
  have hh := hc.cblk b hlt (hX _ e)
  exact ⟨b, off, e, Nat.lt_of_lt_of_le hlt hc.csize, fun i hi => ⟨(World.cell?_of_block hh).trans (hcs i hi).1, (World.cell?_of_block hh).trans (hcs i hi).2.1, (World.cell?_of_block hh).trans (hcs i hi).2.2⟩⟩
theorem rflat_at : ∀ (xs : List Sl) (i j : Nat), j < 3 → (h : i < xs.length) → (xs.flatMap rcells)[i * 3 + j]? = (rcells xs[i])[j]?
  | [], i, j, _, h => absurd h (by simp)
  | x :: xs, 0, j, hj, _ => by
    rw [List.flatMap_cons, List.getElem?_append_left (by simp [rcells]; omega)]
    simp
  | x :: xs, i + 1, j, hj, h => by
    have h' : i < xs.length := by simpa using h
    rw [List.flatMap_cons, List.getElem?_append_right (by simp [rcells]; omega)]
    have e : (i + 1) * 3 + j - (rcells x).length = i * 3 + j := by simp [rcells]; omega
    rw [e, rflat_at xs i j hj h']
    rfl
theorem own_rl {W : World} {base : Nat} {v : Value} {F : List Sl} (h : W.ownsRow base 49 3 v F.length (F.flatMap rcells)) : ∃ a cap, v = .slice a F.length cap ∧ Rl W a F ∧ ∀ ad : Addr, a = some ad → base ≤ ad.block ∧ ad.block < W.heap.size := by
  rcases h.2 with ⟨rfl, h0⟩ | ⟨g, cap, cur, rfl, hg, hh, hnc, _, hs, htk⟩
  · exact ⟨none, 0, by rw [h0], (fun h1 => by omega), fun ad e => by cases e⟩
  · refine ⟨some ⟨g, 0, none⟩, cap, rfl, fun _ => ⟨g, 0, rfl, txt_lt hh, fun i hi => ?_⟩, fun ad e => by cases e; exact ⟨hg, txt_lt hh⟩⟩
    have key : ∀ j, j < 3 → W.cell? ⟨g, 0 + i * 3 + j, none⟩ = (rcells F[i])[j]? := fun j hj => by
      rw [cell_of_row W g _ _ 49 (0, 0) hh, Nat.zero_add, ← rflat_at F i j hj hi, ← htk, List.getElem?_take_of_lt (by omega), Array.getElem?_toList]
    exact ⟨key 0 (by omega), key 1 (by omega), key 2 (by omega)⟩
end Go.Proofs.Ytcekifknbljbiaa.Str
