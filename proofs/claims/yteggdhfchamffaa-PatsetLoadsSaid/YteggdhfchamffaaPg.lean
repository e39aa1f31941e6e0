/- Contracts of the reference's Load; of the statements' own 'texts'. -/
import Derived.Test.YteggdhfchamffaaPf
namespace Go.Proofs.Yteggdhfchamffaa
open Go.RowKit

/-- A slice of the reference's lines that reads as ls. -/
def Rs (W : World) (a : Option Addr) (ls : List Ln) : Prop :=
  0 < ls.length → ∃ b off, a = some ⟨b, off, none⟩ ∧ b < W.heap.size ∧ ∀ i (h : i < ls.length), W.cell? ⟨b, off + i * 3, none⟩ = some (.int .i64 (ls[i].off : Int)) ∧
    W.cell? ⟨b, off + i * 3 + 1, none⟩ = some (.string (str ls[i].text)) ∧ W.cell? ⟨b, off + i * 3 + 2, none⟩ = some (.bool ls[i].ends)
theorem Rs.keep {W W' : World} {a : Option Addr} {ls : List Ln} (h : Rs W a ls) (hb : Below W.heap.size W W') : Rs W' a ls := fun h0 => by
  obtain ⟨b, off, e, hlt, hc⟩ := h h0
  refine ⟨b, off, e, Nat.lt_of_lt_of_le hlt hb.size, fun i hi => ?_⟩
  obtain ⟨h1, h2, h3⟩ := hc i hi
  exact ⟨(hb.cell (p := ⟨b, _, none⟩) hlt).trans h1, (hb.cell (p := ⟨b, _, none⟩) hlt).trans h2, (hb.cell (p := ⟨b, _, none⟩) hlt).trans h3⟩
theorem rflat_at : ∀ (xs : List Ln) (i j : Nat), j < 3 → (h : i < xs.length) → (xs.flatMap rcells)[i * 3 + j]? = (rcells xs[i])[j]?
  | [], i, j, _, h => absurd h (by simp)
  | x :: xs, 0, j, hj, _ => by
    rw [List.flatMap_cons, List.getElem?_append_left (by simp [rcells]; omega)]
    simp
  | x :: xs, i + 1, j, hj, h => by
    have h' : i < xs.length := by simpa using h
    rw [List.flatMap_cons, List.getElem?_append_right (by simp [rcells]; omega)]
    have e : (i + 1) * 3 + j - (rcells x).length = i * 3 + j := by simp [rcells]; omega
    rw [e, rflat_at xs i j hj h']
    rfl
theorem own_rs {W : World} {base : Nat} {v : Value} {xs : List Ln} (h : W.ownsRow base 54 3 v xs.length (xs.flatMap rcells)) : ∃ a cap, v = .slice a xs.length cap ∧ Rs W a xs := by
  rcases h.2 with ⟨rfl, h0⟩ | ⟨g, cap, cur, rfl, hg, hh, hnc, _, hs, htk⟩
  · exact ⟨none, 0, by rw [h0], fun h1 => by omega⟩
  · refine ⟨some ⟨g, 0, none⟩, cap, rfl, fun _ => ⟨g, 0, rfl, txt_lt hh, fun i hi => ?_⟩⟩
    have key : ∀ j, j < 3 → W.cell? ⟨g, 0 + i * 3 + j, none⟩ = (rcells xs[i])[j]? := fun j hj => by
      rw [cell_of_row W g _ _ 54 (0, 0) hh, Nat.zero_add, ← rflat_at xs i j hj hi, ← htk, List.getElem?_take_of_lt (by omega), Array.getElem?_toList]
    exact ⟨key 0 (by omega), key 1 (by omega), key 2 (by omega)⟩

/-- The reference's set of a file, and the error. -/
def GivesRLoad (w : World) (f : Bool) (t : List UInt8) (e : Ending) (w' : World) : Prop :=
  ∃ a cap, e = .returned (.tuple #[.agg #[.slice a (pats (loaded f t)).length cap, .bool (decide ([] ∈ loaded f t))], .int .i64 (code t : Int)]) ∧ Ss w' a (pats (loaded f t)) ∧ Below w.heap.size w w'

set_option maxHeartbeats 4000000 in
theorem rload_any (f : Bool) (t : List UInt8) (w : World) (ht : t.length ≤ 100000000) :
    Calls Try.prog 11 #[.string (str t), .bool f] w (GivesRLoad w f t) := by
  have hz := str_size t
  have hb0 : Below w.heap.size w (w.alloc (.cells #[.slice none 0 0, .bool false] 32)) := (Below.refl _ _).alloc (Nat.le_refl _) _
  have hk := Blk2.new w 32 (.slice none 0 0) (.bool false)
  by_cases hc : 1024 < t.length
  · obtain ⟨f0, f1⟩ := hk.free
    obtain ⟨d0, d1⟩ := hk.cells
    go_enter Try.func11, Try.ntmps11
    go_wp2
    have e1 : loaded f t = [] := by unfold loaded; rw [if_pos hc]
    have e2 : code t = 12 := by unfold code; rw [if_pos hc]
    refine bodyPost_ret (v := .tuple #[.agg #[.slice none 0 0, .bool false], .int .i64 12]) ?_ rfl ?_
    · simp [results, Try.results11, go_sem, d0, d1]
    · refine ⟨none, 0, ?_, ?_, hb0⟩
      · rw [e1, e2]; rfl
      · rw [e1]; exact ss_nil _ _
  · go_enter Try.func11, Try.ntmps11
    go_wp2_with (go_at_call 24; ((with_reducible refine (rsplit_any t _ (by omega)).mono ?_)); rintro e w1 ⟨v, rfl, hown, hb1⟩; obtain ⟨a1, cap1, rfl, hrs⟩ := own_rs hown)
    have hs1 := hb1.size
    rw [World.size_alloc] at hs1
    have hbw : Below w.heap.size w w1 := hb0.trans (hb1.mono (by simp))
    have hk1 := hk.keep hb1 (by simp)
    have HRS := Lib.hid hrs
    have hll := lines_le t
    clear hrs hown hb1
    go_loopw [6, 8] (fun v i wr => ∃ k : Nat, k ≤ (linesOf t).length ∧ i = .int .i64 k ∧ wr.ownsRow w1.heap.size 9 1 v k (svals ((textsOf f t).take k)) ∧ Below w1.heap.size w1 wr)
      (fun _ i _ => (linesOf t).length - (intOf i).toNat)
    case atStart => exact ⟨0, Nat.zero_le _, rfl, World.ownsRow_nil _ _ _ _, Below.refl _ _⟩
    case round =>
      obtain ⟨k, hkl, rfl, hown, hbel⟩ := hrel
      by_cases hlt : k < (linesOf t).length
      · obtain ⟨b, off, rfl, hbl, hcs⟩ := HRS.out (by omega)
        obtain ⟨_, hcell, _⟩ := hcs k hlt
        have hck := (hbel.cell (p := ⟨b, off + k * 3 + 1, none⟩) hbl).trans hcell
        have htl : k < (textsOf f t).length := by unfold textsOf; rw [List.length_map]; exact hlt
        have hte : (textsOf f t)[k] = cased f (linesOf t)[k].text := List.getElem_map _
        have hxl := (lines_bound t _ (List.getElem_mem hlt)).1
        have HT := Lib.hid (takes_snoc (textsOf f t) k htl)
        rw [hte] at HT
        clear hcs hcell hte htl
        have hsr := hbel.size
        cases f with
        | false =>
          go_wp2_with (at_builtin; refine app_ss rfl _ _ rfl w1.heap.size _ _ _ (linesOf t)[k].text rfl (hown.alloc _) ⟨wr.heap.size, 0, none⟩ rfl (cell_new1 _ _ _) (by omega) (by simp; omega) ?_; intro v2 w2 hown2 hg2)
          go_roundw
          case rel =>
            refine ⟨k + 1, by omega, by go_num, ?_, ?_⟩
            · rw [HT.out]; exact hown2
            · exact (hbel.alloc hsr _).grown hg2 (by simp; omega) (fun q hq => own_ge hown hq)
          case measure => simp [intOf]; omega
        | true =>
          go_wp2_with (first
            | (go_at_call 19; ((with_reducible refine (rbytes_any (linesOf t)[k].text _ (by omega)).mono ?_)); rintro e w3 ⟨rfl, hb3⟩; have hown3 := own_keep hown hb3; have hsz3 := hb3.size)
            | (at_builtin; refine app_ss rfl _ _ rfl w1.heap.size _ _ _ (lows (linesOf t)[k].text) rfl (hown3.alloc _) ⟨w3.heap.size, 0, none⟩ rfl (cell_new1 _ _ _) (by omega) (by simp; omega) ?_; intro v2 w2 hown2 hg2))
          go_roundw
          case rel =>
            refine ⟨k + 1, by omega, by go_num, ?_, ?_⟩
            · rw [HT.out]; exact hown2
            · exact ((hbel.trans (hb3.mono hsr)).alloc (by omega) _).grown hg2 (by simp; omega) (fun q hq => own_ge hown3 hq)
          case measure => simp [intOf]; omega
      · have et : (textsOf f t).take k = textsOf f t := List.take_of_length_le (by unfold textsOf; rw [List.length_map]; omega)
        rw [et] at hown
        obtain ⟨a2, cap2, rfl, hss, _⟩ := own_ss hown
        have HSS := Lib.hid hss
        have htl : (textsOf f t).length ≤ 100000000 := by have := texts_len f t; omega
        clear hss et
        go_wp2_with (go_at_call 17; ((with_reducible refine (rof_any (textsOf f t) a2 cap2 _ HSS.out htl).mono ?_)); rintro e w2 ⟨a3, cap3, rfl, hss3, hb3⟩; have hk3 := (hk1.keep hbel (by omega)).keep hb3 (by have := hbel.size; omega); obtain ⟨d0, d1⟩ := hk3.cells; obtain ⟨f0, f1⟩ := hk3.free)
        have e1 : loaded f t = textsOf f t := by unfold loaded; rw [if_neg hc]
        have e2 : code t = 0 := by unfold code; rw [if_neg hc]
        have hk4 := hk3.put0 (.slice a3 (pats (textsOf f t)).length cap3)
        obtain ⟨z0, z1⟩ := (hk4.put1 (.bool (decide ([] ∈ textsOf f t)))).cells
        have hsb := hbel.size
        refine bodyPost_ret (v := .tuple #[.agg #[.slice a3 (pats (textsOf f t)).length cap3, .bool (decide ([] ∈ textsOf f t))], .int .i64 0]) ?_ rfl ?_
        · simp [results, Try.results11, go_sem, z0, z1]
        · refine ⟨a3, cap3, ?_, ?_, ?_⟩
          · rw [e1, e2]; rfl
          · rw [e1]; exact (hss3.far hk3 (fun _ e => by cases e) (fun _ e => by cases e) _).far hk4 (fun _ e => by cases e) (fun _ e => by cases e) _
          · exact ((hbw.trans ((hbel.mono (by omega)).trans (hb3.mono (by omega)))).setCell (p := ⟨w.heap.size, 0, none⟩) (Nat.le_refl _) _).setCell (p := ⟨w.heap.size, 1, none⟩) (Nat.le_refl _) _
end Go.Proofs.Yteggdhfchamffaa
