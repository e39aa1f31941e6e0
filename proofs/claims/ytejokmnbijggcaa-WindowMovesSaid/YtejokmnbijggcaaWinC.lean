/- A window beside its meter; few; awake. -/
import Derived.Test.YtejokmnbijggcaaWinB
import Derived.Test.YtejokmnbijggcaaWinOpen
namespace Go.Proofs.Ytejokmnbijggcaa.Win
open Go.Proofs.Ytejokmnbijggcaa.Stm Go.Proofs.Ytejokmnbijggcaa.Reg Go.RowKit Go.Maps
set_option maxRecDepth 100000
set_option linter.unusedVariables false

theorem add_move (x : Wn) (b : Tx) : (x.add b).move = x.move + ((Wn.mk x.held x.room 0).add b).move ∧ (x.add b).room = ((Wn.mk x.held x.room 0).add b).room := by
  unfold Wn.add
  split
  · exact ⟨rfl, rfl⟩
  · split
    · exact ⟨by simp only; omega, rfl⟩
    · exact ⟨by simp only; omega, rfl⟩
theorem room_most {n : Nat} {x : Wn} (h : WInv n x) (hr : x.room ≤ 16 + 2 * n) (b : Tx) : (x.add b).room ≤ 16 + 2 * (n + b.length) := by
  have := h.came
  unfold Wn.add grown
  split
  · omega
  · split
    · simp only; omega
    · simp only; omega
/-- A window and its meter, both made since W0. -/
structure Duo (W0 W : World) (mp : Option Addr) (g : Nat) (d : Option Nat) (x : Wn) : Prop where
  wd : Wd W g d mp x.held x.room
  mt : Met.Mt W mp 0 0 0 (x.move : Int)
  bel : Below W0.heap.size W0 W
  g0 : W0.heap.size ≤ g
  d0 : ∀ k, d = some k → W0.heap.size ≤ k
  m0 : ∀ k, Met.blk mp = some k → W0.heap.size ≤ k ∧ k ≠ g ∧ d ≠ some k
theorem Duo.keep {W0 W W' : World} {mp : Option Addr} {g : Nat} {d : Option Nat} {x : Wn} (h : Duo W0 W mp g d x) (hb : Below W.heap.size W W') : Duo W0 W' mp g d x :=
  ⟨h.wd.keep hb, h.mt.keep hb, h.bel.trans (hb.mono h.bel.size), h.g0, h.d0, h.m0⟩
theorem duo_new (W0 W : World) (mp : Option Addr) (hb : Below W0.heap.size W0 W) (hm : Met.Mt W mp 0 0 0 0) (h0 : ∀ k, Met.blk mp = some k → W0.heap.size ≤ k) :
    Calls Try.prog 10 #[.pointer mp] W fun e w' => ∃ g, e = .returned (.pointer (some ⟨g, 0, none⟩)) ∧ Duo W0 w' mp g none wnNew ∧ Below W.heap.size W w' := by
  refine (wnew_any W mp).mono ?_
  rintro e w' ⟨g, rfl, hg, hw, hb'⟩
  exact ⟨g, rfl, ⟨hw, hm.keep hb', hb.trans (hb'.mono hb.size), Nat.le_trans hb.size hg, (fun k h => by cases h), fun k hk => ⟨h0 k hk, fun e => by have := hm.lt hk.symm; omega, (fun h => by cases h)⟩⟩, hb'⟩
theorem duo_add {W0 W : World} {mp : Option Addr} {g : Nat} {d : Option Nat} {x : Wn} (h : Duo W0 W mp g d x) (b : Tx) (a : Option Addr) (c : Nat) (hb : Bs W W.heap.size a b) (hne : 0 < b.length → ∀ ad : Addr, a = some ad → ad.block ≠ g ∧ d ≠ some ad.block)
    (hr : x.room ≤ 1000000000) (hm : x.move ≤ 1000000000) (hl : b.length ≤ 1000000000) :
    Calls Try.prog 13 #[.pointer (some ⟨g, 0, none⟩), .slice a b.length c] W fun e w' => e = .returned (.tuple #[]) ∧ ∃ d', (d' = d ∨ ∃ k, d' = some k ∧ W.heap.size ≤ k) ∧ Duo W0 w' mp g d' (x.add b) ∧ Touch W w' g d mp := by
  refine (wadd_any W g d mp x.held x.room h.wd b a c hb hne hr hl 0 0 0 x.move h.mt (by omega) (by omega) (by omega) (by omega) (fun k hk => (h.m0 k hk).2)).mono ?_
  rintro e w' ⟨rfl, d', hd, hw, hmt, ht⟩
  refine ⟨rfl, d', hd, ⟨?_, ?_, ht.below h.bel h.bel.size h.g0 h.d0 (fun k hk => (h.m0 k hk).1), h.g0, ?_, fun k hk => ⟨(h.m0 k hk).1, (h.m0 k hk).2.1, ?_⟩⟩, ht⟩
  · rw [(add_move x b).2, Wn.add_held]; exact hw
  · rw [(add_move x b).1]; simpa using hmt
  · rintro k hk
    rcases hd with rfl | ⟨j, rfl, hj⟩
    · exact h.d0 k hk
    · cases hk; exact Nat.le_trans h.bel.size hj
  · rcases hd with rfl | ⟨j, rfl, hj⟩
    · exact (h.m0 k hk).2.2
    · intro e; cases e
      have := h.mt.lt hk.symm
      omega
theorem duo_clear {W0 W : World} {mp : Option Addr} {g : Nat} {d : Option Nat} {x : Wn} (h : Duo W0 W mp g d x) (hr : x.room ≤ 1000000000) :
    Calls Try.prog 11 #[.pointer (some ⟨g, 0, none⟩)] W fun e w' => e = .returned (.tuple #[]) ∧ Duo W0 w' mp g d x.clear ∧ Touch W w' g none none := by
  refine (wclear_any W g d mp x.held x.room h.wd hr).mono ?_
  rintro e w' ⟨rfl, hw, ht⟩
  exact ⟨rfl, ⟨hw, h.mt.same fun k hk => ht.block k (h.mt.lt hk) (h.m0 k hk.symm).2.1 (by simp) (by simp [Met.blk]), ht.below h.bel h.bel.size h.g0 (fun k h => by cases h) (fun k h => by cases h), h.g0, h.d0, h.m0⟩, ht⟩
theorem duo_bytes {W0 W : World} {mp : Option Addr} {g : Nat} {d : Option Nat} {x : Wn} (h : Duo W0 W mp g d x) (hr : x.room ≤ 1000000000) :
    Calls Try.prog 15 #[.pointer (some ⟨g, 0, none⟩)] W (GivesText W x.held) := wbytes_any W g d mp x.held x.room h.wd hr
theorem duo_len {W0 W : World} {mp : Option Addr} {g : Nat} {d : Option Nat} {x : Wn} (h : Duo W0 W mp g d x) (hr : x.room ≤ 1000000000) :
    Calls Try.prog 16 #[.pointer (some ⟨g, 0, none⟩)] W fun e w' => e = .returned (.int .i64 (x.held.length : Int)) ∧ Below W.heap.size W w' := wlen_any W g d mp x.held x.room h.wd hr
theorem duo_room {W0 W : World} {mp : Option Addr} {g : Nat} {d : Option Nat} {x : Wn} (h : Duo W0 W mp g d x) (hr : x.room ≤ 1000000000) :
    Calls Try.prog 17 #[.pointer (some ⟨g, 0, none⟩)] W fun e w' => e = .returned (.int .i64 (x.room : Int)) ∧ Below W.heap.size W w' := wroom_any W g d mp x.held x.room h.wd hr
theorem duo_counts {W0 W : World} {gm g : Nat} {d : Option Nat} {x : Wn} (h : Duo W0 W (some ⟨gm, 0, none⟩) g d x) :
    Calls Try.prog 18 #[.pointer (some ⟨gm, 0, none⟩)] W fun e w' => e = .returned (.agg #[.int .i64 0, .int .i64 0, .int .i64 0, .int .i64 (x.move : Int)]) ∧ Below W.heap.size W w' := Met.counts_mt W gm 0 0 0 _ h.mt
/-- Bytes in a block that is new since the window: they lie apart from it. -/
theorem Duo.apart {W0 W : World} {mp : Option Addr} {g : Nat} {d : Option Nat} {x : Wn} (h : Duo W0 W mp g d x) {k : Nat} (hk : W.heap.size ≤ k ∨ k < W0.heap.size) : ∀ ad : Addr, some (⟨k, 0, none⟩ : Addr) = some ad → ad.block ≠ g ∧ d ≠ some ad.block := by
  rintro ad e; cases e
  have hlt := h.wd.lt
  refine ⟨fun e => ?_, fun e => ?_⟩
  · have h1 := hlt.1; have h2 := h.g0; simp only at e; omega
  · have h1 := hlt.2 _ e; have h2 := h.d0 _ e; simp only at h1 h2; omega
theorem Duo.old {W0 W : World} {mp : Option Addr} {g : Nat} {d : Option Nat} {x : Wn} (h : Duo W0 W mp g d x) {a : Option Addr} (ha : ∀ ad : Addr, a = some ad → ad.block < W0.heap.size) : ∀ ad : Addr, a = some ad → ad.block ≠ g ∧ d ≠ some ad.block := by
  rintro ad e
  have h1 := ha ad e
  have h2 := h.g0
  exact ⟨by omega, fun e => by have := h.d0 _ e; omega⟩
def zeros (n : Nat) : Tx := List.replicate n 0
def made (n : Nat) : Obj := .cells ((List.replicate n (Value.int .u8 0)).toArray) 5
theorem make_10 (w : World) : (Instr.makeSlice 31 (.int .i64 10) (.int .i64 10)).run Try.prog w = .ok (.slice (some ⟨w.heap.size, 0, none⟩) 10 10) (w.alloc (made 10)) := by
  obtain ⟨i0, hi, hz0, hz1, hz2⟩ := info_parts info5
  have := run_make (P := Try.prog) w 31 5 i0 _ und22 hi hz0 .i64 .i64 10 10 (by omega) (by omega) (by rw [hz2]; decide) (by omega)
  rw [hz1, show madeCells (Value.int .u8 0).cells ((10 : Int).toNat * 1) = (List.replicate 10 (Value.int .u8 0)).toArray by kernel_rfl] at this
  exact this
theorem make_7 (w : World) : (Instr.makeSlice 31 (.int .i64 7) (.int .i64 7)).run Try.prog w = .ok (.slice (some ⟨w.heap.size, 0, none⟩) 7 7) (w.alloc (made 7)) := by
  obtain ⟨i0, hi, hz0, hz1, hz2⟩ := info_parts info5
  have := run_make (P := Try.prog) w 31 5 i0 _ und22 hi hz0 .i64 .i64 7 7 (by omega) (by omega) (by rw [hz2]; decide) (by omega)
  rw [hz1, show madeCells (Value.int .u8 0).cells ((7 : Int).toNat * 1) = (List.replicate 7 (Value.int .u8 0)).toArray by kernel_rfl] at this
  exact this
theorem made_bs (w : World) (n : Nat) : Bs (w.alloc (made n)) (w.alloc (made n)).heap.size (some ⟨w.heap.size, 0, none⟩) (zeros n) := bs_lit w (zeros n) (0, 0) _ (by simp [zeros])
theorem ex_room : ((wnNew.add (zeros 10)).room : Int) = 16 ∧ (((wnNew.add (zeros 10)).add (zeros 7)).room : Int) = 32 ∧ (((wnNew.add (zeros 10)).add (zeros 7)).held.length : Int) = 17 ∧ (((wnNew.add (zeros 10)).add (zeros 7)).move : Int) = 27 := by decide
theorem ex_len : ((wnNew.add (zeros 10)).add (zeros 7)).held.length = 17 := by decide
theorem field_mv (a b c d : Int) (w : World) : (Instr.field 40 (.agg #[.int .i64 a, .int .i64 b, .int .i64 c, .int .i64 d]) 3).run Try.prog w = .ok (.int .i64 d) w := by
  simp [Instr.field, asAgg, go_sem]
set_option maxHeartbeats 4000000 in
theorem awake_any (w : World) : Calls Try.prog 7 #[] w fun e w' => e = .returned (.bool true) ∧ Below w.heap.size w w' := by
  go_enter Try.func7, Try.ntmps7
  go_wp2_with fail
  refine (Met.new_mt w).mono ?_
  rintro e w1 ⟨rfl, hM, hb1⟩
  have DN := Lib.hid (duo_new w w1 (some ⟨w.heap.size, 0, none⟩) hb1 hM (fun k hk => by cases hk; exact Nat.le_refl _))
  clear hM hb1
  generalize w.heap.size = gm at *
  go_wp2_with fail
  refine DN.out.mono ?_
  rintro e w2 ⟨g, rfl, hD2, hb2⟩
  have m10 := make_10 w2
  have hf := field_mv 0 0 0 27
  have ha2 := hD2.keep (Met.below_new w2 (made 10))
  have HD2 := Lib.hid (duo_add ha2 (zeros 10) (some ⟨w2.heap.size, 0, none⟩) 10 (made_bs w2 10) (fun _ => hD2.apart (.inl (Nat.le_refl _))) (by decide) (by decide) (by decide))
  clear DN hb2 hD2 ha2
  go_wp2_with fail
  refine HD2.out.mono ?_
  rintro e w3 ⟨rfl, d3, _, hD3, _⟩
  clear HD2 m10
  have HR := Lib.hid (duo_room hD3 (by decide))
  have HD3 := Lib.hid hD3
  clear hD3
  go_wp2_with fail
  refine HR.out.mono ?_
  rintro e w4 ⟨rfl, hb4⟩
  rw [ex_room.1]
  have hD4 := HD3.out.keep hb4
  have m7 := make_7 w4
  have HD4 := Lib.hid (duo_add (hD4.keep (Met.below_new w4 (made 7))) (zeros 7) (some ⟨w4.heap.size, 0, none⟩) 7 (made_bs w4 7) (fun _ => hD4.apart (.inl (Nat.le_refl _))) (by decide) (by decide) (by decide))
  clear HD3 hb4 hD4 HR
  go_wp2_with fail
  refine HD4.out.mono ?_
  rintro e w5 ⟨rfl, d5, _, hD5, _⟩
  clear HD4 m7
  have HD5 := Lib.hid hD5
  clear hD5
  go_wp2_with (first
    | (go_at_call 17; (with_reducible refine (duo_room HD5.out (by decide)).mono ?_); rintro e w6 ⟨rfl, hb6⟩; rw [ex_room.2.1]; have HD6 := Lib.hid (HD5.out.keep hb6); clear hb6)
    | (go_at_call 16; (with_reducible refine (duo_len HD6.out (by decide)).mono ?_); rintro e w7 ⟨rfl, hb7⟩; rw [ex_room.2.2.1]; have HD7 := Lib.hid (HD6.out.keep hb7); clear hb7)
    | (go_at_call 15; (with_reducible refine (duo_bytes HD7.out (by decide)).mono ?_); rintro e w8 ⟨a8, c8, rfl, _, _, _, hb8⟩; rw [ex_len]; have HD8 := Lib.hid (HD7.out.keep hb8); clear hb8)
    | (go_at_call 18; (with_reducible refine (duo_counts HD8.out).mono ?_); rintro e w9 ⟨rfl, hb9⟩; rw [ex_room.2.2.2]; have HD9 := Lib.hid (HD8.out.keep hb9); clear hb9))
  go_ret
  exact ⟨ret_bool (by simp), HD9.out.bel⟩
/-- How many bytes acts add in all. -/
def added (l : List ActV) : Nat := (l.map fun y => y.x.text.length).sum
theorem added_succ (l : List ActV) (k : Nat) (h : k < l.length) : added (l.take (k + 1)) = added (l.take k) + l[k].x.text.length := by
  unfold added
  rw [List.take_succ_eq_append_getElem h, List.map_append, List.sum_append]
  simp
/-- What few lets through. -/
def Fw (l : List ActV) : Prop := l.length ≤ 200 ∧ added l ≤ 4000 ∧ ∀ y ∈ l, y.x.text.length ≤ 2000
def GivesFew (w : World) (xs : List ActV) (e : Ending) (w' : World) : Prop := ∃ z : Bool, e = .returned (.bool z) ∧ w' = w ∧ (z = true → Fw xs)
set_option maxHeartbeats 4000000 in
theorem few_any (w : World) (a : Option Addr) (c : Nat) (xs : List ActV) (hs : Acts w a xs) (hl : xs.length ≤ 6000000000000) (hx : ∀ y ∈ xs, y.x.text.length ≤ maxLen) :
    Calls Try.prog 8 #[.slice a xs.length c] w (GivesFew w xs) := by
  have HS := Lib.hid hs
  have HX := Lib.hid hx
  clear hs hx
  go_enter Try.func8, Try.ntmps8
  go_wp2_with fail
  go_loopw [3, 4] (fun v i wr => ∃ k : Nat, k ≤ xs.length ∧ i = .int .i64 (k : Int) ∧ v = .int .i64 ((added (xs.take k) : Nat) : Int) ∧ wr = w ∧ added (xs.take k) ≤ 4000 ∧ Hid (∀ y ∈ xs.take k, y.x.text.length ≤ 2000)) (fun _ i _ => xs.length - (intOf i).toNat)
  case atStart => exact ⟨0, Nat.zero_le _, rfl, rfl, rfl, by simp [added], Lib.hid (by simp)⟩
  case round =>
    obtain ⟨k, hk, rfl, rfl, rfl, ha, hh⟩ := hrel
    by_cases hlt : k < xs.length
    · have hkl : (k : Int) < (xs.length : Int) := by omega
      obtain ⟨b, off, rfl, hbl, hc⟩ := HS.out.1 (by omega)
      obtain ⟨c0, c1⟩ := hc k hlt
      have hz := HX.out _ (List.getElem_mem hlt)
      have hsu := added_succ xs k hlt
      by_cases h1 : xs[k].x.text.length ≤ 2000
      · by_cases h2 : added (xs.take (k + 1)) ≤ 4000
        · have h1i : (xs[k].x.text.length : Int) ≤ 2000 := by omega
          have h2i : ((added (xs.take k) : Nat) : Int) + (xs[k].x.text.length : Int) ≤ 4000 := by omega
          have HN := Lib.hid h2
          have HT : Hid (∀ y ∈ xs.take (k + 1), y.x.text.length ≤ 2000) := Lib.hid (by
            rw [List.take_succ_eq_append_getElem hlt]
            intro y hy
            rcases List.mem_append.1 hy with h | h
            · exact hh.out y h
            · rw [List.mem_singleton.1 h]; exact h1)
          have HU := Lib.hid hsu
          clear h2 hsu
          go_wp2_with fail
          go_round
          case rel => exact ⟨k + 1, by omega, by go_num, by rw [HU.out]; go_num, trivial, HN.out, HT⟩
          case measure => simp [intOf]; omega
        · have h1i : (xs[k].x.text.length : Int) ≤ 2000 := by omega
          have h2i : ¬ ((added (xs.take k) : Nat) : Int) + (xs[k].x.text.length : Int) ≤ 4000 := by omega
          clear h2 hsu
          go_wp2_with fail
          go_ret
          exact ⟨false, rfl, rfl, fun h => by cases h⟩
      · have h1i : ¬ (xs[k].x.text.length : Int) ≤ 2000 := by omega
        clear hsu
        go_wp2_with fail
        go_ret
        exact ⟨false, rfl, rfl, fun h => by cases h⟩
    · obtain rfl : k = xs.length := by omega
      rw [List.take_length] at ha hh
      have HA := Lib.hid ha
      clear ha
      by_cases h3 : xs.length ≤ 200
      · have h3i : (xs.length : Int) ≤ 200 := by omega
        go_wp2
        go_ret
        exact ⟨true, ret_bool (by simp), rfl, fun _ => ⟨h3, HA.out, hh.out⟩⟩
      · have h3i : ¬ (xs.length : Int) ≤ 200 := by omega
        go_wp2
        go_ret
        exact ⟨false, ret_bool (by simp), rfl, fun h => by cases h⟩
end Go.Proofs.Ytejokmnbijggcaa.Win
