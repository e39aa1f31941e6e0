/- The document's example. -/
import Derived.Test.YtcieikibfmelkaaWi
namespace Go.Proofs.Ytcieikibfmelkaa
open Go.RowKit

/-- A call that hands out a slice of lines that reads as they are. -/
def GivesLs (w : World) (ls : List Ln) (e : Ending) (w' : World) : Prop :=
  ∃ a cap, ∃ xs : List LnV, e = .returned (.slice a xs.length cap) ∧ xs.map LnV.ln = ls ∧ xs.length ≤ cap ∧ Ls w' a xs ∧ Below w.heap.size w w'
theorem split_ls (t : List UInt8) (a : Option Addr) (cap n : Nat) (w : World) (hn : t.length = n) (ht : t.length ≤ 1000000000) (hb : Bs w w.heap.size a t) :
    Calls Try.prog 10 #[.slice a n cap] w (GivesLs w (linesOf t)) := by
  subst hn
  refine (split_any t a cap w ht hb).mono ?_
  rintro e w1 ⟨v, xs, rfl, hm, hown, htx, hbel⟩
  obtain ⟨a1, c1, rfl, hc, hls⟩ := own_ls hown htx
  exact ⟨a1, c1, xs, rfl, hm, hc, hls, hbel⟩
theorem count_n (l : List UInt8) (a : Option Addr) (cap n k : Nat) (w : World) (hn : l.length = n) (hk : (linesOf l).length = k) (hl : l.length ≤ 1000000000000) (hb : Bs w w.heap.size a l) :
    Calls Try.prog 12 #[.slice a n cap] w fun e w' => e = .returned (.int .i64 (k : Int)) ∧ w = w' := by
  subst hn hk; exact count_any l a cap w hl hb
theorem bare_n (l : List UInt8) (a : Option Addr) (cap n k : Nat) (w : World) (hn : l.length = n) (hk : l.length - nls l = k) (hl : l.length ≤ 1000000000000) (hb : Bs w w.heap.size a l) :
    Calls Try.prog 13 #[.slice a n cap] w fun e w' => e = .returned (.int .i64 (k : Int)) ∧ w = w' := by
  subst hn hk; exact bare_any l a cap w hl hb
theorem join_n (xs : List TxV) (l : List UInt8) (a : Option Addr) (cap n : Nat) (w : World) (hn : xs.length = n) (hj : joined (textsOf xs) = l) (hx : Ts w a xs) (hbd : l.length ≤ 900000) (hl : xs.length ≤ 900000) :
    Calls Try.prog 17 #[.slice a n cap] w (GivesText w l) := by
  subst hn hj; exact join_any xs a cap w hx hbd hl

theorem Ls.take {W : World} {a : Option Addr} {xs : List LnV} (h : Ls W a xs) (k : Nat) : Ls W a (xs.take k) := by
  refine ⟨fun h0 => ?_, fun x hx => h.2 x (List.mem_of_mem_take hx)⟩
  obtain ⟨b, off, e, hlt, hc⟩ := h.1 (by simp at h0; omega)
  refine ⟨b, off, e, hlt, fun i hi => ?_⟩
  have hi' : i < xs.length := by simp at hi; omega
  rw [List.getElem_take]
  exact hc i hi'
theorem Ls.drop {W : World} {b o : Nat} {xs : List LnV} (h : Ls W (some ⟨b, o, none⟩) xs) (k : Nat) (hk : k < xs.length) : Ls W (some ⟨b, o + k * 3, none⟩) (xs.drop k) := by
  refine ⟨fun h0 => ?_, fun x hx => h.2 x (List.mem_of_mem_drop hx)⟩
  obtain ⟨b', o', e, hlt, hc⟩ := h.1 (by omega)
  cases e
  refine ⟨b, o + k * 3, rfl, hlt, fun i hi => ?_⟩
  have hi' : k + i < xs.length := by simp at hi; omega
  have e : o + k * 3 + i * 3 = o + (k + i) * 3 := by omega
  rw [List.getElem_drop, e]
  exact hc (k + i) hi'
theorem same_q (xs ys : List LnV) (far n m : Nat) (a b : Option Addr) (ca cb : Nat) (w : World) (hn : xs.length = n) (hm : ys.length = m) (h : xs.map LnV.ln = (ys.map LnV.ln).map (Ln.shift far)) (hx : Ls w a xs) (hy : Ls w b ys)
    (hbd : ∀ x ∈ xs.map LnV.ln, x.off ≤ 1000000000) (hl : xs.length ≤ 1000000000) :
    Calls Try.prog 16 #[.slice a n ca, .slice b m cb, .int .i64 (far : Int)] w fun e w' => e = .returned (.bool true) ∧ ∃ q, w' = w.drewN q := by
  subst hn hm
  exact same_quiet xs ys far a b ca cb w h hx hy (fun x hx => hbd _ (List.mem_map_of_mem hx)) hl
/-- 'same' of lines that are the same, with the lengths as they are spelled. -/
theorem same_n (xs ys : List LnV) (far n m : Nat) (a b : Option Addr) (ca cb : Nat) (w : World) (hn : xs.length = n) (hm : ys.length = m) (h : xs.map LnV.ln = (ys.map LnV.ln).map (Ln.shift far)) (hx : Ls w a xs) (hy : Ls w b ys)
    (hbd : ∀ x ∈ xs.map LnV.ln, x.off ≤ 1000000000) (hl : xs.length ≤ 1000000000) :
    Calls Try.prog 16 #[.slice a n ca, .slice b m cb, .int .i64 (far : Int)] w fun e w' => e = .returned (.bool true) ∧ Below w.heap.size w w' := by
  subst hn hm
  exact same_true xs ys far a b ca cb w h hx hy (fun x hx => hbd _ (List.mem_map_of_mem hx)) hl
theorem offs_le (t : List UInt8) (h : t.length ≤ 1000000000) : ∀ x ∈ linesOf t, x.off ≤ 1000000000 := fun x hx => by
  have := (lines_bound t x hx).1
  omega

theorem ex_lines : linesOf [97, 10, 10, 98] = [⟨0, [97], true⟩, ⟨2, [], true⟩, ⟨3, [98], false⟩] := rfl
theorem map3 {xs : List LnV} {a b c : Ln} (h : xs.map LnV.ln = [a, b, c]) : ∃ x y z, xs = [x, y, z] ∧ x.ln = a ∧ y.ln = b ∧ z.ln = c := by
  match xs, h with
  | [x, y, z], h => simp at h; exact ⟨x, y, z, rfl, h.1, h.2.1, h.2.2⟩

/-- Two texts in a literal. -/
theorem ts_lit (w : World) (x y : TxV) (hx : Bs w w.heap.size x.a x.text) (hy : Bs w w.heap.size y.a y.text) :
    Ts (w.alloc (.cells #[.slice x.a x.text.length x.cap, .slice y.a y.text.length y.cap] 22)) (some ⟨w.heap.size, 0, none⟩) [x, y] := by
  have hb : Below w.heap.size w (w.alloc (.cells #[.slice x.a x.text.length x.cap, .slice y.a y.text.length y.cap] 22)) := (Below.refl _ _).alloc (Nat.le_refl _) _
  refine ⟨fun _ => ⟨w.heap.size, 0, rfl, by simp, fun i hi => ?_⟩, fun z hz => ?_⟩
  · rw [cell_of_row _ w.heap.size _ _ 22 (0, 0) (heap_alloc_new w _)]
    match i, hi with
    | 0, _ => rfl
    | 1, _ => rfl
  · rcases List.mem_cons.1 hz with rfl | hz
    · exact (hx.keep hb).more hb.size
    · simp at hz; subst hz; exact (hy.keep hb).more hb.size

set_option maxRecDepth 100000 in
set_option maxHeartbeats 8000000 in
theorem awake_any (w : World) : Calls Try.prog 9 #[] w fun e w' => e = .returned (.bool true) ∧ Below w.heap.size w w' := by
  have kc := fun (w : World) (C : Array Value) (n c : Nat) => Lib.run_convert_bytes_const (P := Try.prog) w 22 5 C n c Try.underlying22 Try.underlying5
  go_enter Try.func9, Try.ntmps9
  go_wp2_with fail
  refine (split_ls [97, 10, 10, 98] _ 4 4 _ rfl (by simp) (bs_lit w [97, 10, 10, 98] (4, 5) _ rfl)).mono ?_
  rintro e w1 ⟨a1, cap1, xs, rfl, hm, hlc, hls, hb1⟩
  rw [ex_lines] at hm
  obtain ⟨x, y, z, rfl, hx, hy, hz⟩ := map3 hm
  obtain ⟨b, off, rfl, hbl, hc⟩ := hls.1 (by simp)
  obtain ⟨x0, x1, x2⟩ := hc 0 (by simp)
  obtain ⟨y0, y1, y2⟩ := hc 1 (by simp)
  obtain ⟨z0, z1, z2⟩ := hc 2 (by simp)
  simp only [List.getElem_cons_zero, List.getElem_cons_succ, hx, hy, hz] at x0 x1 x2 y0 y1 y2 z0 z1 z2
  have hkx : Bs w1 w1.heap.size x.a [97] := by have := hls.2 x (by simp); rw [hx] at this; exact this
  have hcv : (convert 22 9 (.slice x.a 1 x.cap)).run Try.prog w1 = .ok (.string ⟨#[97]⟩) w1 := str_of_bs x.cap hkx
  have x0' : w1.cell? ⟨b, off, none⟩ = some (.int .i64 0) := by simpa using x0
  have x1' : w1.cell? ⟨b, off + 1, none⟩ = some (.slice x.a 1 x.cap) := by simpa using x1
  have x2' : w1.cell? ⟨b, off + 2, none⟩ = some (.bool true) := by simpa using x2
  have y0' : w1.cell? ⟨b, off + 3, none⟩ = some (.int .i64 2) := by simpa using y0
  have y1' : w1.cell? ⟨b, off + 3 + 1, none⟩ = some (.slice y.a 0 y.cap) := by simpa using y1
  have z0' : w1.cell? ⟨b, off + 6, none⟩ = some (.int .i64 3) := by simpa using z0
  have z2' : w1.cell? ⟨b, off + 6 + 2, none⟩ = some (.bool false) := by simpa using z2
  have B1 : Below w.heap.size w w1 := ((Below.refl _ w).alloc (Nat.le_refl _) _).trans (hb1.mono (by simp))
  have s1 := B1.size
  clear x0 x1 x2 y0 y1 y2 z0 z1 z2 hc hm hls hx hy hz hkx hb1
  go_wp2_with fail
  refine (count_n [97, 10] _ 2 2 1 _ rfl rfl (by simp) (bs_lit w1 [97, 10] (2, 3) _ rfl)).mono ?_
  rintro e w' ⟨rfl, rfl⟩
  clear hcv x0' x1' x2' y0' y1' z0' z2'
  have B2 : Below w.heap.size w (w1.alloc (.cells ([97, 10].map fun c : UInt8 => Value.int .u8 (c.toNat : Int)).toArray 5 (2, 3))) := B1.alloc s1 _
  generalize w1.alloc (.cells ([97, 10].map fun c : UInt8 => Value.int .u8 (c.toNat : Int)).toArray 5 (2, 3)) = w2 at *
  clear B1 s1
  go_wp2_with fail
  refine (bare_n [97, 10, 98] _ 3 3 2 _ rfl rfl (by simp) (bs_lit w2 [97, 10, 98] (3, 4) _ rfl)).mono ?_
  rintro e w' ⟨rfl, rfl⟩
  have B3 : Below w.heap.size w (w2.alloc (.cells ([97, 10, 98].map fun c : UInt8 => Value.int .u8 (c.toNat : Int)).toArray 5 (3, 4))) := B2.alloc B2.size _
  generalize w2.alloc (.cells ([97, 10, 98].map fun c : UInt8 => Value.int .u8 (c.toNat : Int)).toArray 5 (3, 4)) = w3 at *
  clear B2
  have hbs := bs_lit w3 [97] (1, 2) _ rfl
  have B4 : Below w.heap.size w (w3.alloc (.cells ([97].map fun c : UInt8 => Value.int .u8 (c.toNat : Int)).toArray 5 (1, 2))) := B3.alloc B3.size _
  have hts := ts_lit _ ⟨[97], some ⟨w3.heap.size, 0, none⟩, 1, (fun e => by cases e)⟩ ⟨[], none, 0, fun _ => rfl⟩ hbs (bs_nil _ _ _)
  have HTS := Lib.hid hts
  clear hts hbs
  go_wp2_with fail
  have hsz4 : (w3.alloc (.cells ([97].map fun c : UInt8 => Value.int .u8 (c.toNat : Int)).toArray 5 (1, 2))).heap.size = w3.heap.size + 1 := by simp
  have hts := HTS.out
  rw [hsz4] at hts
  refine (join_n [⟨[97], some ⟨w3.heap.size, 0, none⟩, 1, (fun e => by cases e)⟩, ⟨[], none, 0, fun _ => rfl⟩] [97, 10, 10] _ 2 2 _ rfl rfl hts (by simp) (by simp)).mono ?_
  rintro e w5 ⟨a5, c5, rfl, ht5, _, _, hb5⟩
  have hcv : (convert 22 9 (.slice a5 3 c5)).run Try.prog w5 = .ok (.string ⟨#[97, 10, 10]⟩) w5 := str_of_bs c5 ht5.bs
  have B5 : Below w.heap.size w w5 := (B4.alloc B4.size _).trans (hb5.mono (by have := B4.size; simp at this ⊢; omega))
  clear hts HTS hb5
  go_wp2
  go_ret
  exact ⟨rfl, B5⟩
end Go.Proofs.Ytcieikibfmelkaa
