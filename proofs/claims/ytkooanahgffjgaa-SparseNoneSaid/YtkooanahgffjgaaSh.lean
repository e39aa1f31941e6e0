/- The contract of 'awake': the document's example. -/
import Derived.Test.YtkooanahgffjgaaSg
namespace Go.Proofs.Ytkooanahgffjgaa.Spa
open Go.RowKit Go.Maps
open Go.Proofs.Ytkooanahgffjgaa.Tri Go.Proofs.Ytkooanahgffjgaa.Lnk Go.Proofs.Ytkooanahgffjgaa.Prs
set_option maxRecDepth 100000
abbrev exl : List Tx := [[104, 101], [115, 104, 101]]
abbrev exp : List Tx := [[], [104], [104, 101], [115], [115, 104], [115, 104, 101]]
theorem ex_paths : paths exl = exp := by decide
theorem ex_wf : Wf exp := by rw [← ex_paths]; exact paths_wf _
abbrev ex1 : List Pr := [⟨1, 4⟩, ⟨2, 4⟩]
abbrev ex2 : List Pr := [⟨2, 4⟩]
theorem ex_scan1 : scanOf exl [117, 115, 104, 101] = ex1 := by decide
theorem ex_scan2 : scanOf exl [115, 104, 104, 101] = ex2 := by decide
theorem ex_looks1 : looksTo exp [117, 115, 104, 101] 4 = 4 := by
  have h0 : looksTo exp [117, 115, 104, 101] 1 = looksTo exp [117, 115, 104, 101] 0 + 1 := by
    have := looksTo_succ exp [117, 115, 104, 101] 0 (by decide)
    rw [stepN_one (by decide)] at this
    exact this
  have h1 : looksTo exp [117, 115, 104, 101] 2 = looksTo exp [117, 115, 104, 101] 1 + 1 := by
    have := looksTo_succ exp [117, 115, 104, 101] 1 (by decide)
    rw [stepN_one (by decide)] at this
    exact this
  have h2 : looksTo exp [117, 115, 104, 101] 3 = looksTo exp [117, 115, 104, 101] 2 + 1 := by
    have := looksTo_succ exp [117, 115, 104, 101] 2 (by decide)
    rw [stepN_one (by decide)] at this
    exact this
  have h3 : looksTo exp [117, 115, 104, 101] 4 = looksTo exp [117, 115, 104, 101] 3 + 1 := by
    have := looksTo_succ exp [117, 115, 104, 101] 3 (by decide)
    rw [stepN_one (by decide)] at this
    exact this
  rw [h3, h2, h1, h0]; rfl
theorem ex_looks2 : looksTo exp [115, 104, 104, 101] 4 = 6 := by
  have h0 : looksTo exp [115, 104, 104, 101] 1 = looksTo exp [115, 104, 104, 101] 0 + 1 := by
    have := looksTo_succ exp [115, 104, 104, 101] 0 (by decide)
    rw [stepN_one (by decide)] at this
    exact this
  have h1 : looksTo exp [115, 104, 104, 101] 2 = looksTo exp [115, 104, 104, 101] 1 + 1 := by
    have := looksTo_succ exp [115, 104, 104, 101] 1 (by decide)
    rw [stepN_one (by decide)] at this
    exact this
  have h2 : looksTo exp [115, 104, 104, 101] 3 = looksTo exp [115, 104, 104, 101] 2 + 3 := by
    have := looksTo_succ exp [115, 104, 104, 101] 2 (by decide)
    rw [stepN_fall (by decide) (by decide), stepN_fall (by decide) (by decide), stepN_one (by decide)] at this
    exact this
  have h3 : looksTo exp [115, 104, 104, 101] 4 = looksTo exp [115, 104, 104, 101] 3 + 1 := by
    have := looksTo_succ exp [115, 104, 104, 101] 3 (by decide)
    rw [stepN_one (by decide)] at this
    exact this
  rw [h3, h2, h1, h0]; rfl
theorem const_at (w : World) (g : Nat) (hg : g = w.heap.size) (C : Array Value) (n c : Nat) :
    (convert 23 23 (.slice (some ⟨g, 0, none⟩) n c)).run Try.prog (w.alloc (.cells C 5)) = .ok (.slice (some ⟨g, 0, none⟩) n c) (w.alloc (.cells C 5 (C.size, C.size + 1))) := by
  subst hg
  exact Lib.run_convert_bytes_const w 23 5 C n c Try.underlying23 Try.underlying5
theorem bs_lit_at (w : World) (g : Nat) (l : List UInt8) (fr : Nat × Nat) (cs : Array Value) (hg : g = w.heap.size) (hcs : cs = (l.map fun c => Value.int .u8 (c.toNat : Int)).toArray) :
    Bs (w.alloc (.cells cs 5 fr)) (w.alloc (.cells cs 5 fr)).heap.size (some ⟨g, 0, none⟩) l := by
  subst hg; exact bs_lit w l fr cs hcs
theorem below_new (w : World) (x : Obj) : Below w.heap.size w (w.alloc x) := (Below.refl _ _).alloc (Nat.le_refl _) _
theorem ex_far {X Y : World} {A : Option Addr} {g : Nat} (h : Ps X X.heap.size A ex1) (hM : Met.Cnt X g 4 4 0 0) (hg : X.grownBy Y (some g)) : Ps Y Y.heap.size A ex1 := fun h0 => by
  obtain ⟨b, off, e, hlt, hc⟩ := h h0
  have hb : b ≠ g := by
    rintro rfl
    have h1 := (hc 0 (by decide)).1
    rw [cell_of_row _ _ _ _ 56 (0, 0) hM] at h1
    rcases Nat.lt_or_ge off 4 with ho | ho
    · have : off = 0 ∨ off = 1 ∨ off = 2 ∨ off = 3 := by omega
      rcases this with rfl | rfl | rfl | rfl <;> simp at h1
    · rw [Array.getElem?_eq_none (by simp; omega)] at h1
      cases h1
  have ne : some b ≠ some g := fun e => hb (Option.some.inj e)
  exact ⟨b, off, e, Nat.lt_of_lt_of_le hlt hg.size, fun i hi => ⟨hg.cell (hc i hi).1 ne, hg.cell (hc i hi).2 ne⟩⟩
attribute [local go_sem ↓] Met.eql_counts
theorem ps_two (w : World) (p q : Pr) : Ps (w.alloc (.cells #[.int .i64 p.s, .int .i64 p.e, .int .i64 q.s, .int .i64 q.e] 52)) (w.alloc (.cells #[.int .i64 p.s, .int .i64 p.e, .int .i64 q.s, .int .i64 q.e] 52)).heap.size (some ⟨w.heap.size, 0, none⟩) [p, q] := fun _ => by
  refine ⟨w.heap.size, 0, rfl, by simp, fun i hi => ?_⟩
  have hh := heap_alloc_new w (.cells #[.int .i64 p.s, .int .i64 p.e, .int .i64 q.s, .int .i64 q.e] 52)
  have hi' : i < 2 := hi
  rw [cell_of_row _ _ _ _ 52 (0, 0) hh, cell_of_row _ _ _ _ 52 (0, 0) hh]
  rcases i with _ | _ | i
  · exact ⟨rfl, rfl⟩
  · exact ⟨rfl, rfl⟩
  · omega
abbrev exw (w : World) : World := ((w.alloc (.cells #[.int .u8 104, .int .u8 101] 5 (2, 3))).alloc (.cells #[.int .u8 115, .int .u8 104, .int .u8 101] 5 (3, 4))).alloc (.cells #[.slice (some ⟨w.heap.size, 0, none⟩) 2 2, .slice (some ⟨w.heap.size + 1, 0, none⟩) 3 3] 23)
def exx (w : World) : List TxV := [⟨[104, 101], some ⟨w.heap.size, 0, none⟩, 2, fun e => by cases e⟩, ⟨[115, 104, 101], some ⟨w.heap.size + 1, 0, none⟩, 3, fun e => by cases e⟩]
theorem ex_ts (w : World) : Ts (exw w) (some ⟨w.heap.size + 1 + 1, 0, none⟩) (exx w) := by
  refine ⟨fun _ => ⟨_, _, rfl, by simp, fun i hi => ?_⟩, fun x hx => ?_⟩
  · have hh : (exw w).heap[w.heap.size + 1 + 1]? = some (.cells #[.slice (some ⟨w.heap.size, 0, none⟩) 2 2, .slice (some ⟨w.heap.size + 1, 0, none⟩) 3 3] 23 (0, 0)) := by
      have := heap_alloc_new ((w.alloc (.cells #[.int .u8 104, .int .u8 101] 5 (2, 3))).alloc (.cells #[.int .u8 115, .int .u8 104, .int .u8 101] 5 (3, 4))) (.cells #[.slice (some ⟨w.heap.size, 0, none⟩) 2 2, .slice (some ⟨w.heap.size + 1, 0, none⟩) 3 3] 23)
      simpa using this
    rw [cell_of_row _ _ _ _ 23 (0, 0) hh]
    have hi' : i < 2 := hi
    rcases i with _ | _ | i
    · rfl
    · rfl
    · omega
  · have b1 := below_new w (.cells #[.int .u8 104, .int .u8 101] 5 (2, 3))
    have b2 := below_new (w.alloc (.cells #[.int .u8 104, .int .u8 101] 5 (2, 3))) (.cells #[.int .u8 115, .int .u8 104, .int .u8 101] 5 (3, 4))
    have b3 := below_new ((w.alloc (.cells #[.int .u8 104, .int .u8 101] 5 (2, 3))).alloc (.cells #[.int .u8 115, .int .u8 104, .int .u8 101] 5 (3, 4))) (.cells #[.slice (some ⟨w.heap.size, 0, none⟩) 2 2, .slice (some ⟨w.heap.size + 1, 0, none⟩) 3 3] 23)
    have k1 := bs_lit_at w w.heap.size [104, 101] (2, 3) #[.int .u8 104, .int .u8 101] rfl rfl
    have k2 := bs_lit_at (w.alloc (.cells #[.int .u8 104, .int .u8 101] 5 (2, 3))) (w.heap.size + 1) [115, 104, 101] (3, 4) #[.int .u8 115, .int .u8 104, .int .u8 101] (by simp) rfl
    simp only [exx, List.mem_cons, List.not_mem_nil, or_false] at hx
    rcases hx with rfl | rfl
    · exact ((((k1.keep b2).more b2.size).keep b3).more b3.size)
    · exact ((k2.keep b3).more b3.size)
theorem ex_below (w : World) : Below w.heap.size w (exw w) := (((Below.refl _ _).alloc (Nat.le_refl _) _).alloc (by simp) _).alloc (by simp; omega) _
theorem mt_grown (W w' : World) (g : Nat) (hg : W.heap.size ≤ g) (h : W.grownBy w' (some g)) : Below W.heap.size W w' := (Below.refl _ _).grown h (Nat.le_refl _) (fun k e => by obtain rfl := Option.some.inj e; exact hg)
set_option maxRecDepth 100000 in
set_option maxHeartbeats 8000000 in
theorem awake_any (w : World) : Calls Try.prog 9 #[] w fun e w' => e = .returned (.bool true) ∧ Below w.heap.size w w' := by
  have kc := fun (w : World) (C : Array Value) (n c : Nat) => Lib.run_convert_bytes_const (P := Try.prog) w 23 5 C n c Try.underlying23 Try.underlying5
  have kd := fun (w : World) (o : Obj) (C : Array Value) (n c : Nat) => const_at (w.alloc o) (w.heap.size + 1) (by simp) C n c
  go_enter Try.func9, Try.ntmps9
  have BU : Calls Try.prog 13 #[.slice (some ⟨w.heap.size + 1 + 1, 0, none⟩) 2 2] (exw w) (GivesAu (exw w) exp exl) := by
    have := snew_any (exw w) (exx w) (some ⟨w.heap.size + 1 + 1, 0, none⟩) 2 (ex_ts w) (by show 2 ≤ 1000000; decide) (by show tot exl ≤ _; decide)
    rw [show (exx w).map TxV.text = exl from rfl, ex_paths] at this
    exact this
  go_wp2_with fail
  refine BU.mono ?_
  rintro e w0 ⟨t, rfl, _, hA, hb⟩
  have HB0 := Lib.hid ((ex_below w).trans (hb.mono (ex_below w).size))
  clear BU hb
  have CN := Met.new_any w0
  go_wp2_with fail
  refine CN.mono ?_
  rintro e X1 ⟨rfl, hX1⟩
  have HA1 : Hid (Au X1 t exp exl) := Lib.hid (by rw [hX1]; exact hA.keep (below_new w0 _))
  have HM1 : Hid (Met.Mt X1 (some ⟨w0.heap.size, 0, none⟩) 0 0 0 0) := Lib.hid (.inr ⟨_, rfl, by rw [hX1]; exact Met.Blk4.new w0 56 _ _ _ _⟩)
  have HB1 : Hid (Below w.heap.size w X1) := Lib.hid (by rw [hX1]; exact HB0.out.alloc HB0.out.size _)
  have hgw : w.heap.size ≤ w0.heap.size := HB0.out.size
  clear hX1 CN hA HB0
  generalize w0.heap.size = g at *
  have C1 : Calls Try.prog 14 #[.pointer (some ⟨t, 0, none⟩), .pointer (some ⟨g, 0, none⟩), .slice (some ⟨X1.heap.size, 0, none⟩) 4 4] (X1.alloc (.cells #[.int .u8 117, .int .u8 115, .int .u8 104, .int .u8 101] 5 (4, 5))) (Scans (X1.alloc (.cells #[.int .u8 117, .int .u8 115, .int .u8 104, .int .u8 101] 5 (4, 5))) (some ⟨g, 0, none⟩) ex1 4 4 0 0) := by
    have b1 := below_new X1 (.cells #[.int .u8 117, .int .u8 115, .int .u8 104, .int .u8 101] 5 (4, 5))
    have := scan_any (X1.alloc (.cells #[.int .u8 117, .int .u8 115, .int .u8 104, .int .u8 101] 5 (4, 5))) t exp exl (HA1.out.keep b1) (some ⟨g, 0, none⟩) [117, 115, 104, 101] (some ⟨X1.heap.size, 0, none⟩) 4 (bs_lit X1 [117, 115, 104, 101] (4, 5) #[.int .u8 117, .int .u8 115, .int .u8 104, .int .u8 101] rfl) (by decide) _ _ 0 0 (HM1.out.keep b1) (by decide) (by decide) (by decide) (by decide)
    rw [ex_scan1, show ([117, 115, 104, 101] : List UInt8).length = 4 from rfl, ex_looks1] at this
    exact this
  go_wp2_with fail
  refine C1.mono ?_
  rintro e X ⟨A1, k1, rfl, hp1, hn1, hM, hg⟩
  have bX := below_new X1 (.cells #[.int .u8 117, .int .u8 115, .int .u8 104, .int .u8 101] 5 (4, 5))
  have HBX : Hid (Below w.heap.size w X) := Lib.hid ((HB1.out.alloc HB1.out.size _).grown hg (by have := HB1.out.size; simp; omega) (fun k e => by obtain rfl := Option.some.inj e; exact hgw))
  have HAX : Hid (Au X t exp exl) := Lib.hid ((HA1.out.keep bX).adds hg (HM1.out.keep bX))
  have HPX := Lib.hid hp1
  have HMX := Lib.hid hM
  clear hp1 hM hg C1 HA1 HM1 HB1 bX
  have hcX : Met.Cnt X g 4 4 0 0 := by
    rcases HMX.out with e | ⟨g', e, h⟩
    · cases e
    · cases e; exact h
  have CC := Met.counts_some X g 4 4 0 0 hcX
  clear hcX
  go_wp2_with fail
  refine CC.mono ?_
  rintro e Y ⟨rfl, hb⟩
  clear CC
  have hsY := hb.size
  have HBY := Lib.hid (HBX.out.trans (hb.mono HBX.out.size))
  have HAY := Lib.hid (HAX.out.keep hb)
  have HPY := Lib.hid (HPX.out.keeps hb)
  have HMY := Lib.hid (HMX.out.keep hb)
  clear HBX HAX HPX HMX hb
  have kd2 := fun (o : Obj) (C : Array Value) (n c : Nat) => const_at (Y.alloc o) (Y.heap.size + 1) (by simp) C n c
  have bc := below_new Y (.cells #[.int .i64 4, .int .i64 4, .int .i64 0, .int .i64 0] 38)
  have bl := below_new (Y.alloc (.cells #[.int .i64 4, .int .i64 4, .int .i64 0, .int .i64 0] 38)) (.cells #[.int .u8 115, .int .u8 104, .int .u8 104, .int .u8 101] 5 (4, 5))
  have HK := Lib.hid (Met.Blk4.new Y 38 (.int .i64 4) (.int .i64 4) (.int .i64 0) (.int .i64 0))
  have C2 : Calls Try.prog 14 #[.pointer (some ⟨t, 0, none⟩), .pointer (some ⟨g, 0, none⟩), .slice (some ⟨Y.heap.size + 1, 0, none⟩) 4 4] ((Y.alloc (.cells #[.int .i64 4, .int .i64 4, .int .i64 0, .int .i64 0] 38)).alloc (.cells #[.int .u8 115, .int .u8 104, .int .u8 104, .int .u8 101] 5 (4, 5))) (Scans ((Y.alloc (.cells #[.int .i64 4, .int .i64 4, .int .i64 0, .int .i64 0] 38)).alloc (.cells #[.int .u8 115, .int .u8 104, .int .u8 104, .int .u8 101] 5 (4, 5))) (some ⟨g, 0, none⟩) ex2 8 10 0 0) := by
    have := scan_any ((Y.alloc (.cells #[.int .i64 4, .int .i64 4, .int .i64 0, .int .i64 0] 38)).alloc (.cells #[.int .u8 115, .int .u8 104, .int .u8 104, .int .u8 101] 5 (4, 5))) t exp exl ((HAY.out.keep bc).keep bl) (some ⟨g, 0, none⟩) [115, 104, 104, 101] (some ⟨Y.heap.size + 1, 0, none⟩) 4 (bs_lit_at (Y.alloc (.cells #[.int .i64 4, .int .i64 4, .int .i64 0, .int .i64 0] 38)) (Y.heap.size + 1) [115, 104, 104, 101] (4, 5) #[.int .u8 115, .int .u8 104, .int .u8 104, .int .u8 101] (by simp) rfl) (by decide) _ _ 0 0 ((HMY.out.keep bc).keep bl) (by decide) (by decide) (by decide) (by decide)
    rw [ex_scan2, show ([115, 104, 104, 101] : List UInt8).length = 4 from rfl, ex_looks2] at this
    exact this
  have hB2 := (HBY.out.alloc HBY.out.size (.cells #[.int .i64 4, .int .i64 4, .int .i64 0, .int .i64 0] 38)).alloc (by have := HBY.out.size; simp; omega) (.cells #[.int .u8 115, .int .u8 104, .int .u8 104, .int .u8 101] 5 (4, 5))
  have HA2 := Lib.hid ((HAY.out.keep bc).keep bl)
  have HP2 := Lib.hid ((HPY.out.keeps bc).keeps bl)
  have HM2 := Lib.hid ((HMY.out.keep bc).keep bl)
  have HK2 := Lib.hid (HK.out.same (bl.block _ (by simp)))
  have HB2 := Lib.hid hB2
  clear bc bl HBY HAY HPY HMY HK hB2
  go_wp2_with fail
  refine C2.mono ?_
  generalize (Y.alloc (.cells #[.int .i64 4, .int .i64 4, .int .i64 0, .int .i64 0] 38)).alloc (.cells #[.int .u8 115, .int .u8 104, .int .u8 104, .int .u8 101] 5 (4, 5)) = Y2 at *
  rintro e Z ⟨A2, k2, rfl, hp2, hn2, hM, hg⟩
  have hcnt2 : Met.Cnt Y2 g 4 4 0 0 := by
    rcases HM2.out with e | ⟨g', e, h⟩
    · cases e
    · cases e; exact h
  have HBZ : Hid (Below w.heap.size w Z) := Lib.hid (HB2.out.grown hg HB2.out.size (fun k e => by obtain rfl := Option.some.inj e; exact hgw))
  have HAZ := Lib.hid (HA2.out.adds hg HM2.out)
  have HPZ := Lib.hid (ex_far HP2.out hcnt2 hg)
  have HQZ := Lib.hid hp2
  have HKZ := Lib.hid (HK2.out.same (hg.block _ HK2.out.lt (HM2.out.not HK2.out (by decide))))
  have hcZ : Met.Cnt Z g 8 10 0 0 := by
    rcases hM with e | ⟨g', e, h⟩
    · cases e
    · cases e; exact h
  have CC := Met.counts_some Z g 8 10 0 0 hcZ
  clear hcZ hcnt2 C2 hp2 hM hg HA2 HP2 HM2 HK2 HB2 kd2 kd kc
  go_wp2_with fail
  refine CC.mono ?_
  rintro e V ⟨rfl, hb⟩
  clear CC
  have bd := below_new V (.cells #[.int .i64 8, .int .i64 10, .int .i64 0, .int .i64 0] 38)
  have HBV := Lib.hid ((HBZ.out.trans (hb.mono HBZ.out.size)).alloc (HBZ.out.trans (hb.mono HBZ.out.size)).size (.cells #[.int .i64 8, .int .i64 10, .int .i64 0, .int .i64 0] 38))
  have HAV := Lib.hid ((HAZ.out.keep hb).keep bd)
  have HPV := Lib.hid ((HPZ.out.keeps hb).keeps bd)
  have HQV := Lib.hid ((HQZ.out.keeps hb).keeps bd)
  have hKV := (HKZ.out.same (hb.block _ HKZ.out.lt)).same (bd.block _ (Nat.lt_of_lt_of_le HKZ.out.lt hb.size))
  have hDV := Met.Blk4.new V 38 (.int .i64 8) (.int .i64 10) (.int .i64 0) (.int .i64 0)
  have HKV := Lib.hid hKV
  have HDV := Lib.hid hDV
  clear HBZ HAZ HPZ HQZ HKZ hb bd hKV hDV
  generalize Y.heap.size = gc at *
  have HS := Lib.hid (states_any _ t exp exl HAV.out)
  go_wp2_with fail
  generalize V.alloc (.cells #[.int .i64 8, .int .i64 10, .int .i64 0, .int .i64 0] 38) = V2 at *
  generalize V.heap.size = gd at *
  refine HS.out.mono ?_
  rintro e w5 ⟨rfl, rfl⟩
  have b5 := below_new V2 (.cells #[.int .i64 1, .int .i64 4, .int .i64 2, .int .i64 4] 52)
  have C5 := same_any ex1 ex1 A1 (some ⟨V2.heap.size, 0, none⟩) k1 2 _ (by decide) (HPV.out.keeps b5) (ps_two V2 ⟨1, 4⟩ ⟨2, 4⟩)
  have h11 : decide (ex1 = ex1) = true := by simp
  rw [h11] at C5
  have HB5 := Lib.hid (HBV.out.alloc HBV.out.size (.cells #[.int .i64 1, .int .i64 4, .int .i64 2, .int .i64 4] 52))
  have HQ5 := Lib.hid (HQV.out.keeps b5)
  have HK5 := Lib.hid (HKV.out.same (b5.block _ HKV.out.lt))
  have HD5 := Lib.hid (HDV.out.same (b5.block _ HDV.out.lt))
  clear HBV HAV HPV HQV HKV HDV HS b5
  go_wp2_with fail
  refine C5.mono ?_
  generalize V2.alloc (.cells #[.int .i64 1, .int .i64 4, .int .i64 2, .int .i64 4] 52) = V3 at *
  rintro e w6 ⟨rfl, q6, rfl⟩
  have b6 : Below V3.heap.size V3 (V3.drewN q6) := below_drews (Below.refl _ _) q6
  have HB6 := Lib.hid (below_drews HB5.out q6)
  have HQ6 := Lib.hid (HQ5.out.keeps b6)
  have HD6 := Lib.hid (HD5.out.same (b6.block _ HD5.out.lt))
  have hK6 := HK5.out.same (b6.block _ HK5.out.lt)
  obtain ⟨ck0, ck1, ck2, ck3⟩ := hK6.cells
  clear C5 HB5 HQ5 HD5 HK5 hK6 b6 h11
  generalize V3.drewN q6 = V4 at *
  have b7 := below_new V4 (.cells #[.int .i64 2, .int .i64 4] 52)
  have C7 := same_any ex2 ex2 A2 (some ⟨V4.heap.size, 0, none⟩) k2 1 _ (by decide) (HQ6.out.keeps b7) (ps_one V4 ⟨2, 4⟩ (0, 0))
  have h12 : decide (ex2 = ex2) = true := by simp
  rw [h12] at C7
  have HB7 := Lib.hid (HB6.out.alloc HB6.out.size (.cells #[.int .i64 2, .int .i64 4] 52))
  have HD7 := Lib.hid (HD6.out.same (b7.block _ HD6.out.lt))
  clear HB6 HQ6 HD6 b7
  go_wp2_with fail
  refine C7.mono ?_
  clear ck0 ck1 ck2 ck3
  generalize V4.alloc (.cells #[.int .i64 2, .int .i64 4] 52) = V5 at *
  rintro e w8 ⟨rfl, q8, rfl⟩
  have b8 : Below V5.heap.size V5 (V5.drewN q8) := below_drews (Below.refl _ _) q8
  have HB8 := Lib.hid (below_drews HB7.out q8)
  have hD8 := HD7.out.same (b8.block _ HD7.out.lt)
  obtain ⟨ck0, ck1, ck2, ck3⟩ := hD8.cells
  clear C7 HB7 HD7 hD8 b8 h12
  generalize V5.drewN q8 = V6 at *
  go_wp2
  go_ret
  exact ⟨rfl, HB8.out⟩
end Go.Proofs.Ytkooanahgffjgaa.Spa
