/- What is picked: the library's sort, laid here. -/
import Derived.Test.YtlmncljnnpnjmaaPickA2
import Derived.Shelf.SlSortCmp.NoneTotal
namespace Go.Proofs.Ytlmncljnnpnjmaa.Pck
open Go Go.RowKit Go.Shelf Go.Proofs.Ytlmncljnnpnjmaa.Prs Adm Reg
set_option maxRecDepth 100000
/-- The library's numbers here. -/
def laysSortRen : Go.Shelf.Ren := ⟨fun | 6 => 21 | 14 => 25 | 15 => 26 | 20 => 28 | 21 => 29 | 22 => 30 | 23 => 31 | 24 => 32 | 25 => 33 | 26 => 34 | 27 => 35 | 28 => 36 | 29 => 37 | 46 => 38 | 47 => 39 | 48 => 40 | 49 => 41 | 50 => 42 | 57 => 43 | n => n, fun | 0 => 0 | 3 => 3 | 4 => 4 | 5 => 5 | 9 => 9 | 22 => 22 | 24 => 25 | 25 => 42 | 39 => 45 | 45 => 49 | 46 => 50 | 50 => 54 | 53 => 57 | 55 => 59 | 66 => 60 | 70 => 64 | 76 => 66 | 77 => 67 | n => n, fun n => n⟩
theorem laysSort : SlLaysF0.n6 Try.prog laysSortRen := {
  mixed := by kernel_rfl,
  f6 := ⟨ "slices.SortFunc[[]seine/api.Pair,seine/api.Pair]", by decide, Try.func21.trans (congrArg some (by kernel_rfl))⟩,
  f14 := ⟨ "slices.pdqsortCmpFunc[seine/api.Pair]", by decide, Try.func25.trans (congrArg some (by kernel_rfl))⟩,
  f15 := Try.func26.trans (congrArg some (by kernel_rfl)),
  f20 := ⟨ "slices.insertionSortCmpFunc[seine/api.Pair]", by decide, Try.func28.trans (congrArg some (by kernel_rfl))⟩,
  f21 := ⟨ "slices.heapSortCmpFunc[seine/api.Pair]", by decide, Try.func29.trans (congrArg some (by kernel_rfl))⟩,
  f22 := ⟨ "slices.breakPatternsCmpFunc[seine/api.Pair]", by decide, Try.func30.trans (congrArg some (by kernel_rfl))⟩,
  f23 := ⟨ "slices.choosePivotCmpFunc[seine/api.Pair]", by decide, Try.func31.trans (congrArg some (by kernel_rfl))⟩,
  f24 := ⟨ "slices.reverseRangeCmpFunc[seine/api.Pair]", by decide, Try.func32.trans (congrArg some (by kernel_rfl))⟩,
  f25 := ⟨ "slices.partialInsertionSortCmpFunc[seine/api.Pair]", by decide, Try.func33.trans (congrArg some (by kernel_rfl))⟩,
  f26 := ⟨ "slices.partitionEqualCmpFunc[seine/api.Pair]", by decide, Try.func34.trans (congrArg some (by kernel_rfl))⟩,
  f27 := ⟨ "slices.partitionCmpFunc[seine/api.Pair]", by decide, Try.func35.trans (congrArg some (by kernel_rfl))⟩,
  f28 := Try.func36.trans (congrArg some (by kernel_rfl)),
  f29 := Try.func37.trans (congrArg some (by kernel_rfl)),
  f46 := ⟨ "slices.siftDownCmpFunc[seine/api.Pair]", by decide, Try.func38.trans (congrArg some (by kernel_rfl))⟩,
  f47 := Try.func39.trans (congrArg some (by kernel_rfl)),
  f48 := Try.func40.trans (congrArg some (by kernel_rfl)),
  f49 := ⟨ "slices.medianAdjacentCmpFunc[seine/api.Pair]", by decide, Try.func41.trans (congrArg some (by kernel_rfl))⟩,
  f50 := ⟨ "slices.medianCmpFunc[seine/api.Pair]", by decide, Try.func42.trans (congrArg some (by kernel_rfl))⟩,
  f57 := ⟨ "slices.order2CmpFunc[seine/api.Pair]", by decide, Try.func43.trans (congrArg some (by kernel_rfl))⟩,
  t0 := Try.underlying0,
  a0 := Try.isAgg0,
  z0 := Try.sizeOf0,
  v0 := Try.zeroValue0,
  t3 := Try.underlying3,
  a3 := Try.isAgg3,
  z3 := Try.sizeOf3,
  v3 := Try.zeroValue3,
  t4 := Try.underlying4,
  a4 := Try.isAgg4,
  z4 := Try.sizeOf4,
  v4 := Try.zeroValue4,
  t5 := Try.underlying5,
  a5 := Try.isAgg5,
  z5 := Try.sizeOf5,
  v5 := Try.zeroValue5,
  t9 := Try.underlying9,
  a9 := Try.isAgg9,
  z9 := Try.sizeOf9,
  v9 := Try.zeroValue9,
  t22 := Try.underlying22,
  a22 := Try.isAgg22,
  z22 := Try.sizeOf22,
  v22 := Try.zeroValue22,
  t25 := Try.underlying42,
  a25 := Try.isAgg42,
  z25 := Try.sizeOf42,
  v25 := Try.zeroValue42,
  t39 := Try.underlying45,
  a39 := Try.isAgg45,
  z39 := Try.sizeOf45,
  v39 := Try.zeroValue45,
  t45 := Try.underlying49,
  a45 := Try.isAgg49,
  z45 := Try.sizeOf49,
  v45 := Try.zeroValue49,
  t46 := Try.underlying50,
  a46 := Try.isAgg50,
  z46 := Try.sizeOf50,
  v46 := Try.zeroValue50,
  t50 := Try.underlying54,
  a50 := Try.isAgg54,
  z50 := Try.sizeOf54,
  v50 := Try.zeroValue54,
  t53 := Try.underlying57,
  a53 := Try.isAgg57,
  z53 := Try.sizeOf57,
  v53 := Try.zeroValue57,
  t55 := Try.underlying59,
  a55 := Try.isAgg59,
  z55 := Try.sizeOf59,
  v55 := Try.zeroValue59,
  t66 := Try.underlying60,
  a66 := Try.isAgg60,
  z66 := Try.sizeOf60,
  v66 := Try.zeroValue60,
  t70 := Try.underlying64,
  a70 := Try.isAgg64,
  z70 := Try.sizeOf64,
  v70 := Try.zeroValue64,
  t76 := Try.underlying66,
  a76 := Try.isAgg66,
  z76 := Try.sizeOf66,
  v76 := Try.zeroValue66,
  t77 := Try.underlying67,
  a77 := Try.isAgg67,
  z77 := Try.sizeOf67,
  v77 := Try.zeroValue67 }
instance : Inhabited Pr := ⟨⟨0, 0⟩⟩
theorem lt_cf (x y : Pr) : ltOf cfP x y = decide (Ahead x y) := by
  unfold ltOf
  rw [Bool.eq_iff_iff, decide_eq_true_eq, decide_eq_true_eq]
  unfold cfP orV cmpV Ahead
  by_cases h1 : x.s < y.s
  · simp [h1]
  · by_cases h2 : y.s < x.s
    · simp [h1, h2]; omega
    · by_cases h3 : y.e < x.e
      · simp [h1, h2, h3]; omega
      · by_cases h4 : x.e < y.e
        · simp [h1, h2, h3, h4]
        · simp [h1, h2, h3, h4]
theorem swo_cf : Sort.SWO (ltOf cfP) := {
  irrefl := fun x => by rw [lt_cf]; simp [Ahead]
  trans := fun x y z h1 h2 => by rw [lt_cf, decide_eq_true_eq] at *; unfold Ahead at *; omega
  ntrans := fun x y z h1 h2 => by rw [lt_cf, decide_eq_false_iff_not] at *; unfold Ahead at *; omega }
theorem lays_cmp (blk off size : Nat) (w : World) : CmpLays Try.prog 22 #[] pcells 2 cfP blk off size w := fun _ _ _ _ x y => closure_any x y _
theorem cells_all (d : List Pr) (t : Nat) (h : t < d.length * 2) : (cellsOf d)[t]? = some (pcells d.toArray[t / 2]!)[t % 2]! := by
  have h1 : t / 2 < d.length := by omega
  have h2 : t % 2 < 2 := by omega
  have h3 := cells_at d (t / 2) (t % 2) h2 h1
  rw [show t / 2 * 2 + t % 2 = t from by omega] at h3
  rw [h3]
  have h4 : d.toArray[t / 2]! = d[t / 2] := by rw [getElem!_pos d.toArray (t / 2) (by simpa using h1)]; simp
  rw [h4]
  have h5 : t % 2 < (pcells d[t / 2]).length := by simpa [pcells] using h2
  rw [List.getElem?_eq_getElem h5, getElem!_pos (pcells d[t / 2]) (t % 2) h5]
theorem below_sort {m g n : Nat} {w : World} (hg : m ≤ g) (hs : g < w.heap.size) (r : Array Pr) (os : Array Obj) : Below m w (sortWorldK pcells 2 w g 0 n r os) := by
  refine ⟨rfl, rfl, rfl, size_sortWorldK_c pcells 2 w g 0 n r os, fun k hk => ?_⟩
  have hsz : (Sort.putRowK pcells 2 (Sort.ahead w n) g 0 r).heap.size = w.heap.size := by simp [Sort.putRowK, Sort.putRow, Sort.mapBlock, Sort.ahead]
  unfold sortWorldK Sort.grow
  show ((Sort.putRowK pcells 2 (Sort.ahead w n) g 0 r).heap ++ os)[k]? = w.heap[k]?
  rw [Array.getElem?_append_left (by rw [hsz]; omega)]
  simp only [Sort.putRowK, Sort.putRow, Sort.mapBlock, Sort.ahead, Array.getElem?_modify]
  rw [if_neg (by omega)]
theorem sort_any (d : List Pr) (m : Nat) (v : Value) (w : World) (hl : d.length ≤ 1000000) (h : w.ownsRow m 25 2 v d.length (cellsOf d)) :
    Calls Try.prog 21 #[v, .func (.func 22) #[] #[]] w fun e w' => e = .returned (.tuple #[]) ∧ ∃ (r : List Pr) (a : Option Addr) (cap : Nat), v = .slice a r.length cap ∧ r.Perm d ∧ (r.Pairwise fun x y => ¬ Ahead y x) ∧ r.length ≤ cap ∧ (a = none → cap = 0) ∧ Ps w' w'.heap.size a r ∧ Below m w w' := by
  rcases h.2 with ⟨rfl, h0⟩ | ⟨g, cap, cur, rfl, hg, hh, hnc, _, hs, htk⟩
  · obtain rfl : d = [] := List.length_eq_zero_iff.1 h0
    refine (AnyF.slices_SortFunc_none laysSort none 0 (.func (.func 22) #[] #[]) w).mono ?_
    rintro e w' ⟨rfl, rfl⟩
    exact ⟨rfl, [], none, 0, rfl, List.Perm.refl _, List.Pairwise.nil, Nat.le_refl _, fun _ => rfl, ps_nil _ _ _, Below.refl _ _⟩
  · have hblk := heap_lt hh
    have hH : Sort.HoldsK pcells 2 w g 0 d.toArray := fun t ht => by
      have ht : t < d.length * 2 := by simpa using ht
      refine ⟨?_, frozen_of_row _ _ _ _ _ hh⟩
      rw [Sort.get_flatK _ _ _ _ (by simpa using ht), cell_of_row w g _ _ 25 (0, 0) hh, Nat.zero_add, ← Array.getElem?_toList, ← List.getElem?_take_of_lt ht, htk]
      exact cells_all d t ht
    have hcon := AnyQ.slices_SortFunc laysSort 2 Try.isAgg25 Try.sizeOf25 pcells (fun _ => rfl) (fun x v hv => by simp [pcells] at hv; rcases hv with rfl | rfl <;> rfl) cfP swo_cf 22 #[] g 0 cap d.toArray w (enters_of Try.func22 (by kernel_rfl) rfl) (lays_cmp g 0 _ w) hH hblk (by simp; omega)
    rw [List.size_toArray] at hcon
    refine hcon.mono ?_
    rintro e w' ⟨rfl, r, n, os, ⟨hp1, _, hp3⟩, hsr, rfl⟩
    have hrs : r.size = d.length := by simpa using hp1
    have hperm : r.toList.Perm d := by
      rw [Array.extract_eq_self_of_le (by omega), Array.extract_eq_self_of_le (by simp)] at hp3
      simpa using hp3
    have hH2 := holdsK_sortWorldK_c pcells 2 w g 0 d.toArray r n os hH hblk (by simpa using hrs)
    have e1 : r.toList.length = d.length := by rw [Array.length_toList, hrs]
    refine ⟨rfl, r.toList, some ⟨g, 0, none⟩, cap, congrArg (fun z => Value.slice (some ⟨g, 0, none⟩) z cap) e1.symm, hperm, ?_, by rw [e1]; exact hnc, (fun e => by cases e), ?_, below_sort hg hblk r os⟩
    · rw [List.pairwise_iff_getElem]
      intro i j hi hj hij
      have h1 := hsr i j (Nat.zero_le _) hij (by simpa [hrs] using hj)
      rw [lt_cf, decide_eq_false_iff_not, getElem!_pos r i (by simpa using hi), getElem!_pos r j (by simpa using hj)] at h1
      simpa using h1
    · intro _
      refine ⟨g, 0, rfl, Nat.lt_of_lt_of_le hblk (size_sortWorldK_c pcells 2 w g 0 n r os), fun i hi => ?_⟩
      have hi : i < r.size := by simpa using hi
      have h1 := (hH2.cell (i := i) (c := 0) hi (by omega)).1
      have h2 := (hH2.cell (i := i) (c := 1) hi (by omega)).1
      rw [getElem!_pos r i hi] at h1 h2
      exact ⟨h1, h2⟩
set_option maxHeartbeats 2000000 in
theorem inorder_any (l : List Pr) (al : Option Addr) (cl : Nat) (w : World) (hll : l.length ≤ 1000000) (hx : Ps w w.heap.size al l) :
    Calls Try.prog 18 #[.slice al l.length cl] w fun e w' => ∃ r, Inord l r ∧ Gives w r e w' := by
  have HX := Lib.hid hx
  clear hx
  have CS := Lib.hid fun d m v W hd h => sort_any d m v W hd h
  go_enter Try.func18, Try.ntmps18
  go_wp2
  go_loopg [3, 8] l.length (fun gf s3 s8 wr => ∃ (k : Nat) (d : List Pr), k + gf = l.length ∧ s8 = .int .i64 k ∧ wr.ownsRow w.heap.size 25 2 s3 d.length (cellsOf d) ∧ d = (l.take k).filter (fun p => decide (p.s < p.e)) ∧ d.length ≤ k ∧ Below w.heap.size w wr)
  case atStart => exact ⟨0, [], by omega, rfl, World.ownsRow_nil w w.heap.size 25 2, by simp, by simp, Below.refl _ _⟩
  case round =>
    obtain ⟨k, d, hk, rfl, hown, hd, hdk, hbel⟩ := hrel
    have HO := Lib.hid hown
    have HB := Lib.hid hbel
    have hsz := hbel.size
    cases gk with
    | zero =>
      obtain rfl : k = l.length := by omega
      have hni : ¬ ((l.length : Int) < (l.length : Int)) := by omega
      rw [List.take_length] at hd
      have CT := Lib.hid (CS.out d w.heap.size _ wr (by omega) hown)
      have HD := Lib.hid hd
      clear hd hown hbel
      go_wp2_with (go_at_call 21; (with_reducible refine CT.out.mono ?_); rintro e w2 ⟨rfl, r, a, cap, rfl, hp, hs, hlc, hnc, hps, hb2⟩)
      go_ret
      refine ⟨r, ⟨fun p => ?_, hs, ?_⟩, a, cap, rfl, hlc, hnc, hps, HB.out.trans hb2⟩
      · rw [hp.mem_iff, HD.out, List.mem_filter, decide_eq_true_eq]
      · rw [hp.length_eq]; omega
    | succ gf =>
      have hlt : k < l.length := by omega
      have hli : (k : Int) < (l.length : Int) := by omega
      obtain ⟨b, o, rfl, hbl, hc⟩ := HX.out (by omega)
      obtain ⟨p, hpk⟩ : ∃ p, l[k] = p := ⟨_, rfl⟩
      have HD : Hid (∀ X, Below w.heap.size w X → X.cell? ⟨b, o + k * 2, none⟩ = some (.int .i64 p.s) ∧ X.cell? ⟨b, o + k * 2 + 1, none⟩ = some (.int .i64 p.e)) := Lib.hid fun X h => by
        have h2 := hc k hlt
        rw [hpk] at h2
        exact ⟨(h.cell (p := ⟨b, o + k * 2, none⟩) hbl).trans h2.1, (h.cell (p := ⟨b, o + k * 2 + 1, none⟩) hbl).trans h2.2⟩
      obtain ⟨d0, d1⟩ := HD.out wr hbel
      obtain ⟨q0, q1⟩ := (pb_new wr p.s p.e).cells
      have HT : Hid ((l.take (k + 1)).filter (fun p => decide (p.s < p.e)) = d ++ if p.s < p.e then [p] else []) := Lib.hid (by
        rw [List.take_add_one, List.filter_append, ← hd, List.getElem?_eq_getElem hlt, hpk]
        by_cases h : p.s < p.e <;> simp [h])
      have HB1 := Lib.hid (hbel.alloc hbel.size (.cells #[.int .i64 p.s, .int .i64 p.e] 25))
      obtain ⟨z, hz⟩ : ∃ z, decide (p.s < p.e) = z := ⟨_, rfl⟩
      clear hc hown hbel hpk hd
      cases z
      · have HG : Hid ((l.take (k + 1)).filter (fun p => decide (p.s < p.e)) = d) := Lib.hid (by rw [HT.out, if_neg (of_decide_eq_false hz), List.append_nil])
        go_wp2
        go_roundg gf
        case rel => exact ⟨k + 1, d, by omega, by go_num, HO.out.alloc _, HG.out.symm, by omega, HB1.out⟩
        case measure => omega
      · have HG : Hid ((l.take (k + 1)).filter (fun p => decide (p.s < p.e)) = d ++ [p]) := Lib.hid (by rw [HT.out, if_pos (of_decide_eq_true hz)])
        have HO1 := Lib.hid (HO.out.alloc (.cells #[.int .i64 p.s, .int .i64 p.e] 25))
        have HP1 : Hid (Ps ((wr.alloc (.cells #[.int .i64 p.s, .int .i64 p.e] 25)).alloc (.cells #[.int .i64 p.s, .int .i64 p.e] 25)) ((wr.alloc (.cells #[.int .i64 p.s, .int .i64 p.e] 25)).alloc (.cells #[.int .i64 p.s, .int .i64 p.e] 25)).heap.size (some ⟨wr.heap.size + 1, 0, none⟩) [p]) := Lib.hid (by
          have h := ps_one (wr.alloc (.cells #[.int .i64 p.s, .int .i64 p.e] 25)) p (0, 0)
          rwa [show (wr.alloc (.cells #[.int .i64 p.s, .int .i64 p.e] 25)).heap.size = wr.heap.size + 1 from by simp] at h)
        go_wp2_with (at_builtin; refine app_ps rfl _ _ rfl w.heap.size _ d.length d rfl (HO1.out.alloc _) (some ⟨wr.heap.size + 1, 0, none⟩) [p] 1 _ rfl HP1.out (fun e => by cases e) (by simp; omega) (by simp; omega) ?_; intro v2 w2 hown2 hg2; have HO2 := Lib.hid hown2; have HB2 := Lib.hid (Prs.app_below (HB1.out.alloc HB1.out.size _) (HO1.out.alloc _) hg2 (by have := HB1.out.size; simp; omega) (Nat.le_refl _)); clear hown2 hg2)
        go_roundg gf
        case rel => exact ⟨k + 1, d ++ [p], by omega, by go_num, by simpa using HO2.out, HG.out.symm, by simp; omega, HB2.out⟩
        case measure => omega
end Go.Proofs.Ytlmncljnnpnjmaa.Pck
