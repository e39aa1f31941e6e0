/- Lines that were told, read; same; the document's example. -/
import Derived.Test.YtcekifknbljbiaaStrC2
namespace Go.Proofs.Ytcekifknbljbiaa.Str
open Go.Proofs.Ytcekifknbljbiaa.Stm Go.Proofs.Ytcekifknbljbiaa.Reg Go.RowKit Go.Maps
set_option maxRecDepth 100000
set_option linter.unusedVariables false

/-- A slice of lines that reads as xs. -/
def Lt (W : World) (a : Option Addr) (xs : List SlV) : Prop :=
  (0 < xs.length → ∃ b off, a = some ⟨b, off, none⟩ ∧ b < W.heap.size ∧ ∀ i (h : i < xs.length), W.cell? ⟨b, off + i * 3, none⟩ = some (.int .i64 (xs[i].sl.num : Int)) ∧
    W.cell? ⟨b, off + i * 3 + 1, none⟩ = some (.int .i64 (xs[i].sl.off : Int)) ∧ W.cell? ⟨b, off + i * 3 + 2, none⟩ = some (.slice xs[i].a xs[i].sl.text.length xs[i].cap)) ∧ ∀ x ∈ xs, Bs W W.heap.size x.a x.sl.text
theorem Lt.keep {W W' : World} {a : Option Addr} {xs : List SlV} (h : Lt W a xs) (hb : Below W.heap.size W W') : Lt W' a xs := by
  refine ⟨fun h0 => ?_, fun x hx => ((h.2 x hx).keep hb).more hb.size⟩
  obtain ⟨b, off, e, hlt, hc⟩ := h.1 h0
  refine ⟨b, off, e, Nat.lt_of_lt_of_le hlt hb.size, fun i hi => ?_⟩
  obtain ⟨h1, h2, h3⟩ := hc i hi
  exact ⟨(hb.cell (p := ⟨b, _, none⟩) hlt).trans h1, (hb.cell (p := ⟨b, _, none⟩) hlt).trans h2, (hb.cell (p := ⟨b, _, none⟩) hlt).trans h3⟩
theorem sflat_at : ∀ (xs : List SlV) (i j : Nat), j < 3 → (h : i < xs.length) → (xs.flatMap scells)[i * 3 + j]? = (scells xs[i])[j]?
  | [], i, j, _, h => absurd h (by simp)
  | x :: xs, 0, j, hj, _ => by
    rw [List.flatMap_cons, List.getElem?_append_left (by simp [scells]; omega)]
    simp
  | x :: xs, i + 1, j, hj, h => by
    have h' : i < xs.length := by simpa using h
    rw [List.flatMap_cons, List.getElem?_append_right (by simp [scells]; omega)]
    have e : (i + 1) * 3 + j - (scells x).length = i * 3 + j := by simp [scells]; omega
    rw [e, sflat_at xs i j hj h']
    rfl
theorem own_lt {W : World} {base base2 : Nat} {v : Value} {xs : List SlV} (h : W.ownsRow base 47 3 v xs.length (xs.flatMap scells)) (ht : ∀ x ∈ xs, Txt W base2 x.a x.sl.text) : ∃ a cap, v = .slice a xs.length cap ∧ Lt W a xs := by
  rcases h.2 with ⟨rfl, h0⟩ | ⟨g, cap, cur, rfl, hg, hh, hnc, _, hs, htk⟩
  · exact ⟨none, 0, by rw [h0], fun h1 => by omega, fun x hx => (ht x hx).bs⟩
  · refine ⟨some ⟨g, 0, none⟩, cap, rfl, fun _ => ⟨g, 0, rfl, txt_lt hh, fun i hi => ?_⟩, fun x hx => (ht x hx).bs⟩
    have key : ∀ j, j < 3 → W.cell? ⟨g, 0 + i * 3 + j, none⟩ = (scells xs[i])[j]? := fun j hj => by
      rw [cell_of_row W g _ _ 47 (0, 0) hh, Nat.zero_add, ← sflat_at xs i j hj hi, ← htk, List.getElem?_take_of_lt (by omega), Array.getElem?_toList]
    exact ⟨key 0 (by omega), key 1 (by omega), key 2 (by omega)⟩
/-- Lines told lie in memory that other blocks' changes leave alone. -/
theorem Lt.ch {W W' : World} {X : Nat → Prop} {a : Option Addr} {xs : List SlV} (h : Lt W a xs) (hc : Ch W W' X) (h1 : 0 < xs.length → ∀ ad : Addr, a = some ad → ¬ X ad.block) (h2 : ∀ x ∈ xs, 0 < x.sl.text.length → ∀ ad : Addr, x.a = some ad → ¬ X ad.block) : Lt W' a xs := by
  refine ⟨fun h0 => ?_, fun x hx => (hc.bs (h.2 x hx) (Nat.le_refl _) (h2 x hx)).more hc.csize⟩
  obtain ⟨b, off, e, hlt, hcs⟩ := h.1 h0
  have hh := hc.cblk b hlt (h1 h0 _ e)
  exact ⟨b, off, e, Nat.lt_of_lt_of_le hlt hc.csize, fun i hi => ⟨(World.cell?_of_block hh).trans (hcs i hi).1, (World.cell?_of_block hh).trans (hcs i hi).2.1, (World.cell?_of_block hh).trans (hcs i hi).2.2⟩⟩
set_option maxHeartbeats 4000000 in
theorem same_any (xs ys : List SlV) (n m : Nat) (a b : Option Addr) (ca cb : Nat) (w : World) (hn : xs.length = n) (hm : ys.length = m) (h : xs.map SlV.sl = ys.map SlV.sl) (hx : Lt w a xs) (hy : Lt w b ys) (hl : xs.length ≤ 1000000) :
    Calls Try.prog 23 #[.slice a n ca, .slice b m cb] w fun e w' => e = .returned (.bool true) ∧ ∃ q, w' = w.drewN q := by
  subst hn hm
  have hlen : xs.length = ys.length := by have := congrArg List.length h; simpa using this
  have h1 : ((xs.length : Int) != (ys.length : Int)) = false := by rw [hlen]; simp
  have h1' : (xs.length != ys.length) = false := by rw [hlen]; simp
  have HLEN := Lib.hid hlen
  have HH := Lib.hid h
  clear hlen h
  go_enter Try.func23, Try.ntmps23
  go_wp2
  go_loopw [5] (fun i wr => ∃ k : Nat, k ≤ xs.length ∧ i = .int .i64 k ∧ Hid (∃ q, wr = w.drewN q)) (fun i _ => xs.length - (intOf i).toNat)
  case atStart => exact ⟨0, Nat.zero_le _, rfl, Lib.hid ⟨0, rfl⟩⟩
  case round =>
    obtain ⟨k, hk, rfl, HQ⟩ := hrel
    have hbel : Below w.heap.size w wr := by obtain ⟨q, e⟩ := HQ.out; rw [e]; exact below_drews (Below.refl _ _) _
    by_cases hlt : k < xs.length
    · have hlt2 : k < ys.length := by rw [← HLEN.out]; exact hlt
      obtain ⟨ba, oa, rfl, hba, hca⟩ := (hx.keep hbel).1 (by omega)
      obtain ⟨bb, ob, rfl, hbb, hcb⟩ := (hy.keep hbel).1 (by omega)
      have hln : xs[k].sl = ys[k].sl := by
        have e := congrArg (fun l => l[k]?) HH.out
        simpa [hlt, hlt2] using e
      have htx := (hx.keep hbel).2 xs[k] (List.getElem_mem hlt)
      have hty := (hy.keep hbel).2 ys[k] (List.getElem_mem hlt2)
      obtain ⟨ca0, ca1, ca2⟩ := hca k hlt
      obtain ⟨cb0, cb1, cb2⟩ := hcb k hlt2
      rw [hln] at ca0 ca1 ca2 htx
      clear hca hcb hln
      generalize xs[k].a = A1 at *
      generalize xs[k].cap = C1 at *
      generalize ys[k].a = A2 at *
      generalize ys[k].cap = C2 at *
      generalize ys[k].sl = L at *
      obtain ⟨nu, o, tx⟩ := L
      simp only at ca0 ca1 ca2 cb0 cb1 cb2 htx hty
      have hk1 : ∀ n, (convert 38 9 (.slice A1 tx.length C1)).run Try.prog (wr.drewN n) = .ok (.string (str tx)) (wr.drewN n) := fun n => str_of_bs (w := wr.drewN n) C1 htx
      have hk2 : ∀ n, (convert 38 9 (.slice A2 tx.length C2)).run Try.prog (wr.drewN n) = .ok (.string (str tx)) (wr.drewN n) := fun n => str_of_bs (w := wr.drewN n) C2 hty
      have hkl : (k : Int) < (xs.length : Int) := by omega
      have hkl2 : (k : Int) < (ys.length : Int) := by omega
      have d1 : ((nu : Int) != (nu : Int)) = false := by simp
      have d2 : ((o : Int) != (o : Int)) = false := by simp
      clear hx hy HH HLEN
      go_wp2
      go_quiet (fail)
      go_wp2
      go_roundw
      case rel =>
        obtain ⟨q, e⟩ := HQ.out
        exact ⟨k + 1, by omega, by go_num, Lib.hid ⟨q + nq, by rw [e, World.drewN_drewN]⟩⟩
      case measure => simp [intOf]; omega
    · go_wp2
      go_ret
      exact ⟨rfl, HQ.out⟩
/-! The document's example. -/
def exL : List Tx := [[97, 98], [99, 10, 100], [10]]
theorem ex_told : (runs (stNew 9) exL).2 = [⟨0, 0, [97, 98, 99]⟩, ⟨1, 4, [100]⟩] := by decide +kernel
theorem ex_end : (runs (stNew 9) exL).1.bad = false ∧ (runs (stNew 9) exL).1.hunt = 6 ∧ (runs (stNew 9) exL).1.w.move = 4 := by decide +kernel
theorem const_at (w : World) (g : Nat) (hg : g = w.heap.size) (C : Array Value) (n c : Nat) :
    (convert 38 38 (.slice (some ⟨g, 0, none⟩) n c)).run Try.prog (w.alloc (.cells C 5)) = .ok (.slice (some ⟨g, 0, none⟩) n c) (w.alloc (.cells C 5 (C.size, C.size + 1))) := by
  subst hg
  exact Lib.run_convert_bytes_const w 38 5 C n c Try.underlying38 Try.underlying5
theorem bs_lit_at (w : World) (g : Nat) (l : List UInt8) (fr : Nat × Nat) (cs : Array Value) (hg : g = w.heap.size) (hcs : cs = (l.map fun c => Value.int .u8 (c.toNat : Int)).toArray) :
    Bs (w.alloc (.cells cs 5 fr)) (w.alloc (.cells cs 5 fr)).heap.size (some ⟨g, 0, none⟩) l := by
  subst hg; exact bs_lit w l fr cs hcs
abbrev exa (w : World) : World := w.alloc (.cells #[.int .u8 97, .int .u8 98] 5 (2, 3))
abbrev exb (w : World) : World := (exa w).alloc (.cells #[.int .u8 99, .int .u8 10, .int .u8 100] 5 (3, 4))
abbrev exc (w : World) : World := (exb w).alloc (.cells #[.int .u8 10] 5 (1, 2))
abbrev exw (w : World) : World := (exc w).alloc (.cells #[.slice (some ⟨w.heap.size, 0, none⟩) 2 2, .slice (some ⟨w.heap.size + 1, 0, none⟩) 3 3, .slice (some ⟨w.heap.size + 1 + 1, 0, none⟩) 1 1] 38)
def exx (w : World) : List TxV := [⟨[97, 98], some ⟨w.heap.size, 0, none⟩, 2, fun e => by cases e⟩, ⟨[99, 10, 100], some ⟨w.heap.size + 1, 0, none⟩, 3, fun e => by cases e⟩, ⟨[10], some ⟨w.heap.size + 1 + 1, 0, none⟩, 1, fun e => by cases e⟩]
theorem ex_ts (w : World) : Ts (exw w) (some ⟨w.heap.size + 1 + 1 + 1, 0, none⟩) (exx w) := by
  refine ⟨fun _ => ⟨_, _, rfl, by simp, fun i hi => ?_⟩, fun x hx => ?_⟩
  · have hh : (exw w).heap[w.heap.size + 1 + 1 + 1]? = some (.cells #[.slice (some ⟨w.heap.size, 0, none⟩) 2 2, .slice (some ⟨w.heap.size + 1, 0, none⟩) 3 3, .slice (some ⟨w.heap.size + 1 + 1, 0, none⟩) 1 1] 38 (0, 0)) := by
      have := heap_alloc_new (exc w) (.cells #[.slice (some ⟨w.heap.size, 0, none⟩) 2 2, .slice (some ⟨w.heap.size + 1, 0, none⟩) 3 3, .slice (some ⟨w.heap.size + 1 + 1, 0, none⟩) 1 1] 38)
      simpa using this
    rw [cell_of_row _ _ _ _ 38 (0, 0) hh]
    have hi' : i < 3 := hi
    rcases i with _ | _ | _ | i
    · rfl
    · rfl
    · rfl
    · omega
  · have b2 := Met.below_new (exa w) (.cells #[.int .u8 99, .int .u8 10, .int .u8 100] 5 (3, 4))
    have b3 := Met.below_new (exb w) (.cells #[.int .u8 10] 5 (1, 2))
    have b4 := Met.below_new (exc w) (.cells #[.slice (some ⟨w.heap.size, 0, none⟩) 2 2, .slice (some ⟨w.heap.size + 1, 0, none⟩) 3 3, .slice (some ⟨w.heap.size + 1 + 1, 0, none⟩) 1 1] 38)
    have k1 := bs_lit_at w w.heap.size [97, 98] (2, 3) #[.int .u8 97, .int .u8 98] rfl rfl
    have k2 := bs_lit_at (exa w) (w.heap.size + 1) [99, 10, 100] (3, 4) #[.int .u8 99, .int .u8 10, .int .u8 100] (by simp) rfl
    have k3 := bs_lit_at (exb w) (w.heap.size + 1 + 1) [10] (1, 2) #[.int .u8 10] (by simp) rfl
    simp only [exx, List.mem_cons, List.not_mem_nil, or_false] at hx
    rcases hx with rfl | rfl | rfl
    · exact ((((((k1.keep b2).more b2.size).keep b3).more b3.size).keep b4).more b4.size)
    · exact ((((k2.keep b3).more b3.size).keep b4).more b4.size)
    · exact ((k3.keep b4).more b4.size)
theorem ex_below (w : World) : Below w.heap.size w (exw w) := ((((Below.refl _ _).alloc (Nat.le_refl _) _).alloc (by simp) _).alloc (by simp; omega) _).alloc (by simp; omega) _
theorem ex_cks (w : World) (p g : Nat) (d : Option Nat) (mp : Option Addr) (h : ∀ k, Own p g d mp k → k < w.heap.size) : Cks (exw w) p g d mp (some ⟨w.heap.size + 1 + 1 + 1, 0, none⟩) (exx w) := by
  have hx : ∀ x ∈ exx w, (∀ ad : Addr, x.a = some ad → w.heap.size ≤ ad.block) ∧ x.text.length ≤ x.cap := by
    intro x hx
    simp only [exx, List.mem_cons, List.not_mem_nil, or_false] at hx
    rcases hx with rfl | rfl | rfl
    · exact ⟨by rintro ad e; cases e; exact Nat.le_refl _, by show 2 ≤ 2; omega⟩
    · exact ⟨by rintro ad e; cases e; show _ ≤ w.heap.size + 1; omega, by show 3 ≤ 3; omega⟩
    · exact ⟨by rintro ad e; cases e; show _ ≤ w.heap.size + 1 + 1; omega, by show 1 ≤ 1; omega⟩
  refine ⟨ex_ts w, fun _ ad e ho => ?_, fun x hxm _ ad e ho => ?_, fun x hxm => (hx x hxm).2⟩
  · cases e
    have := h _ ho
    simp only at this
    omega
  · have h1 := (hx x hxm).1 ad e
    have h2 := h _ ho
    omega
theorem two_of {ys : List SlV} {A B : Sl} (h : ys.map SlV.sl = [A, B]) : ∃ y z, ys = [y, z] ∧ y.sl = A ∧ z.sl = B := by
  match ys, h with
  | [y, z], h =>
    simp only [List.map_cons, List.map_nil, List.cons.injEq, and_true] at h
    exact ⟨y, z, rfl, h.1, h.2⟩
attribute [local go_sem ↓] Met.eql_counts
set_option maxHeartbeats 4000000 in
theorem awake_any (w : World) : Calls Try.prog 10 #[] w fun e w' => e = .returned (.bool true) ∧ Below w.heap.size w w' := by
  have kc := fun (w : World) (C : Array Value) (n c : Nat) => Lib.run_convert_bytes_const (P := Try.prog) w 38 5 C n c Try.underlying38 Try.underlying5
  have kd := fun (w : World) (o : Obj) (C : Array Value) (n c : Nat) => const_at (w.alloc o) (w.heap.size + 1) (by simp) C n c
  have ke := fun (w : World) (o o2 : Obj) (C : Array Value) (n c : Nat) => const_at ((w.alloc o).alloc o2) (w.heap.size + 1 + 1) (by simp) C n c
  go_enter Try.func10, Try.ntmps10
  go_wp2_with fail
  refine (Met.new_mt w).mono ?_
  rintro e w1 ⟨rfl, hM, hb1⟩
  have NW := Lib.hid (snew_any w w1 (some ⟨w.heap.size, 0, none⟩) 9 9 (by decide) hb1 hM (fun k hk => by cases hk; exact Nat.le_refl _))
  clear hM hb1
  generalize w.heap.size = gm at *
  go_wp2_with fail
  refine NW.out.mono ?_
  rintro e w2 ⟨p, g, rfl, hp, hg, hS2, hb2⟩
  have RN := Lib.hid (run_any w (exw w2) p (some ⟨gm, 0, none⟩) g none (stNew 9) (hS2.keep (ex_below w2)) 0 (bd_new 9) (by decide) (exx w2) (some ⟨w2.heap.size + 1 + 1 + 1, 0, none⟩) 3 3 rfl (ex_cks w2 p g none _ (fun k hk => hS2.ownl hk)) (by show 3 ≤ 1000; decide) (by show 6 ≤ 10000; decide))
  clear NW hS2 hp hg hb2
  go_wp2_with fail
  refine RN.out.mono ?_
  rintro e w3 ⟨v, ys, d3, rfl, hy, hgv, _, hS3, _⟩
  rw [show tx (exx w2) = exL from rfl] at hy hS3
  rw [ex_told] at hy
  obtain ⟨y, z, rfl, hyl, hzl⟩ := two_of hy
  obtain ⟨a, cap, rfl, hlt⟩ := own_lt hgv.1 (fun x hx => (hgv.2 x hx).1)
  obtain ⟨b, off, rfl, hbl, hc⟩ := hlt.1 (by simp)
  have c0 := (hc 0 (by simp)).2.2
  obtain ⟨c1, c2, c3⟩ := hc 1 (by simp)
  simp only [List.getElem_cons_zero, List.getElem_cons_succ, hyl, hzl, Nat.zero_mul, Nat.add_zero, Nat.one_mul] at c0 c1 c2 c3
  have t0 := hlt.2 y (by simp)
  have t1 := hlt.2 z (by simp)
  rw [hyl] at t0
  rw [hzl] at t1
  obtain ⟨q1, q2, q3⟩ := ex_end
  have ER := Lib.hid (serr_any w w3 p _ g d3 _ hS3)
  have HS3 := Lib.hid hS3
  have HB3 := Lib.hid hS3.sbel
  have hM3 := hS3.smt
  rw [q2, q3] at hM3
  have he : errOf (runs (stNew 9) exL).1 = 0 := by unfold errOf; rw [if_neg (by rw [q1]; decide)]
  have hn : badNum (runs (stNew 9) exL).1 = 0 := by unfold badNum; rw [if_neg (by rw [q1]; decide)]
  rw [he, hn] at ER
  clear RN hc hlt hgv hy hyl hzl hS3 q1 q2 q3 he hn kc kd ke
  go_wp2_with fail
  refine ER.out.mono ?_
  rintro e w4 ⟨rfl, q, hq⟩
  have hb4 : Below w3.heap.size w3 w4 := by rw [hq]; exact below_drews (Below.refl _ _) _
  have d0 : w4.cell? ⟨b, off + 2, none⟩ = some (.slice y.a 3 y.cap) := (hb4.cell (p := ⟨b, _, none⟩) hbl).trans c0
  have d1 : w4.cell? ⟨b, off + 3, none⟩ = some (.int .i64 1) := (hb4.cell (p := ⟨b, _, none⟩) hbl).trans c1
  have d2 : w4.cell? ⟨b, off + 3 + 1, none⟩ = some (.int .i64 4) := (hb4.cell (p := ⟨b, _, none⟩) hbl).trans c2
  have d3' : w4.cell? ⟨b, off + 3 + 2, none⟩ = some (.slice z.a 1 z.cap) := (hb4.cell (p := ⟨b, _, none⟩) hbl).trans c3
  have k0 : (convert 38 9 (.slice y.a 3 y.cap)).run Try.prog w4 = .ok (.string { data := #[97, 98, 99] }) w4 := str_of_bs (l := [97, 98, 99]) y.cap ((t0.keep hb4))
  have k1 : (convert 38 9 (.slice z.a 1 z.cap)).run Try.prog w4 = .ok (.string { data := #[100] }) w4 := str_of_bs (l := [100]) z.cap ((t1.keep hb4))
  have CN := Lib.hid (Met.counts_mt w4 gm 0 0 6 4 (hM3.keep hb4))
  have HB4 := Lib.hid (HB3.out.trans (hb4.mono HB3.out.size))
  clear c0 c1 c2 c3 t0 t1 hM3 hb4 hq ER HB3 HS3 hbl
  go_wp2_with (go_at_call 19; (with_reducible refine CN.out.mono ?_); rintro e w5 ⟨rfl, hb5⟩; have HB5 := Lib.hid hb5; clear hb5)
  go_ret
  exact ⟨ret_bool (by simp), HB4.out.trans (HB5.out.mono HB4.out.size)⟩
end Go.Proofs.Ytcekifknbljbiaa.Str
