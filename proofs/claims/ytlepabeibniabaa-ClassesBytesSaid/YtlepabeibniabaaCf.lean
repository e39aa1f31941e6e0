/- The contract of 'awake': the document's example. -/
import Derived.Test.YtlepabeibniabaaCe
import Derived.Test.YtlepabeibniabaaTl
namespace Go.Proofs.Ytlepabeibniabaa.Cls
open Go.RowKit Go.Maps Go.Proofs.Ytlepabeibniabaa.Reg Go.Proofs.Ytlepabeibniabaa.Tri
set_option maxRecDepth 100000

theorem idx27 {cs : Array Value} (k : Nat) (hk : k < 256) {v : Value} (h : cs[k]? = some v) (kd : IntKind) (w : World) : (Instr.index 27 (.agg cs) (.int kd (k : Int))).run Try.prog w = .ok v w := by
  simp [Instr.index, go_sem, hk, h]
abbrev exl : List Tx := [[97, 98], [98]]
theorem ex_cnt : cnt (stands exl) = 2 := by decide +kernel
theorem ex_a : cls (stands exl) 97 = 1 := by decide +kernel
theorem ex_b : cls (stands exl) 98 = 2 := by decide +kernel
theorem ex_c : cls (stands exl) 99 = 0 := by decide +kernel
theorem ex_two : upTo (fun c => decide ((cls (stands exl) c : Int) = 2)) 256 = [98] := by decide +kernel
theorem ex_nil : (upTo (fun c => decide ((cls (stands exl) c : Int) = 0)) 256).length = 254 := by decide +kernel
theorem const_at (w : World) (g : Nat) (hg : g = w.heap.size) (C : Array Value) (n c : Nat) :
    (convert 36 36 (.slice (some ⟨g, 0, none⟩) n c)).run Try.prog (w.alloc (.cells C 5)) = .ok (.slice (some ⟨g, 0, none⟩) n c) (w.alloc (.cells C 5 (C.size, C.size + 1))) := by
  subst hg
  exact Lib.run_convert_bytes_const w 36 5 C n c und22 und5
theorem bs_lit_at (w : World) (g : Nat) (l : List UInt8) (fr : Nat × Nat) (cs : Array Value) (hg : g = w.heap.size) (hcs : cs = (l.map fun c => Value.int .u8 (c.toNat : Int)).toArray) :
    Bs (w.alloc (.cells cs 5 fr)) (w.alloc (.cells cs 5 fr)).heap.size (some ⟨g, 0, none⟩) l := by
  subst hg; exact bs_lit w l fr cs hcs
theorem below_new (w : World) (x : Obj) : Below w.heap.size w (w.alloc x) := (Below.refl _ _).alloc (Nat.le_refl _) _
abbrev exw (w : World) : World := ((w.alloc (.cells #[.int .u8 97, .int .u8 98] 5 (2, 3))).alloc (.cells #[.int .u8 98] 5 (1, 2))).alloc (.cells #[.slice (some ⟨w.heap.size, 0, none⟩) 2 2, .slice (some ⟨w.heap.size + 1, 0, none⟩) 1 1] 36)
def exx (w : World) : List TxV := [⟨[97, 98], some ⟨w.heap.size, 0, none⟩, 2, fun e => by cases e⟩, ⟨[98], some ⟨w.heap.size + 1, 0, none⟩, 1, fun e => by cases e⟩]
theorem ex_ts (w : World) : Ts (exw w) (some ⟨w.heap.size + 1 + 1, 0, none⟩) (exx w) := by
  refine ⟨fun _ => ⟨_, _, rfl, by simp, fun i hi => ?_⟩, fun x hx => ?_⟩
  · have hh : (exw w).heap[w.heap.size + 1 + 1]? = some (.cells #[.slice (some ⟨w.heap.size, 0, none⟩) 2 2, .slice (some ⟨w.heap.size + 1, 0, none⟩) 1 1] 36 (0, 0)) := by
      have := heap_alloc_new ((w.alloc (.cells #[.int .u8 97, .int .u8 98] 5 (2, 3))).alloc (.cells #[.int .u8 98] 5 (1, 2))) (.cells #[.slice (some ⟨w.heap.size, 0, none⟩) 2 2, .slice (some ⟨w.heap.size + 1, 0, none⟩) 1 1] 36)
      simpa using this
    rw [cell_of_row _ _ _ _ 36 (0, 0) hh]
    have hi' : i < 2 := hi
    rcases i with _ | _ | i
    · rfl
    · rfl
    · omega
  · have b1 := below_new w (.cells #[.int .u8 97, .int .u8 98] 5 (2, 3))
    have b2 := below_new (w.alloc (.cells #[.int .u8 97, .int .u8 98] 5 (2, 3))) (.cells #[.int .u8 98] 5 (1, 2))
    have b3 := below_new ((w.alloc (.cells #[.int .u8 97, .int .u8 98] 5 (2, 3))).alloc (.cells #[.int .u8 98] 5 (1, 2))) (.cells #[.slice (some ⟨w.heap.size, 0, none⟩) 2 2, .slice (some ⟨w.heap.size + 1, 0, none⟩) 1 1] 36)
    have k1 := bs_lit_at w w.heap.size [97, 98] (2, 3) #[.int .u8 97, .int .u8 98] rfl rfl
    have k2 := bs_lit_at (w.alloc (.cells #[.int .u8 97, .int .u8 98] 5 (2, 3))) (w.heap.size + 1) [98] (1, 2) #[.int .u8 98] (by simp) rfl
    simp only [exx, List.mem_cons, List.not_mem_nil, or_false] at hx
    rcases hx with rfl | rfl
    · exact ((((k1.keep b2).more b2.size).keep b3).more b3.size)
    · exact ((k2.keep b3).more b3.size)
theorem ex_below (w : World) : Below w.heap.size w (exw w) := (((Below.refl _ _).alloc (Nat.le_refl _) _).alloc (by simp) _).alloc (by simp; omega) _
set_option maxHeartbeats 4000000 in
theorem awake_any (w : World) : Calls Try.prog 7 #[] w fun e w' => e = .returned (.bool true) ∧ Below w.heap.size w w' := by
  have kc := fun (w : World) (C : Array Value) (n c : Nat) => Lib.run_convert_bytes_const (P := Try.prog) w 36 5 C n c und22 und5
  have kd := fun (w : World) (o : Obj) (C : Array Value) (n c : Nat) => const_at (w.alloc o) (w.heap.size + 1) (by simp) C n c
  have BU : Calls Try.prog 9 #[.slice (some ⟨w.heap.size + 1 + 1, 0, none⟩) 2 2] (exw w) fun e w' => e = .returned (.agg (cc (stands exl))) ∧ Below (exw w).heap.size (exw w) w' :=
    of_any9 (exx w) (some ⟨w.heap.size + 1 + 1, 0, none⟩) 2 (exw w) (ex_ts w) (by show 2 ≤ _; decide) (fun x hx => by
      simp only [exx, List.mem_cons, List.not_mem_nil, or_false] at hx
      rcases hx with rfl | rfl
      · show 2 ≤ _; decide
      · show 1 ≤ _; decide)
  have HLEN := Lib.hid (fun X => len_any (stands exl) X)
  have HA := Lib.hid (fun X => class_any (stands exl) 97 X)
  have HB := Lib.hid (fun X => class_any (stands exl) 98 X)
  have HC := Lib.hid (fun X => class_any (stands exl) 99 X)
  have H2 := Lib.hid (fun X => bytes_any (stands exl) 2 X)
  have H0 := Lib.hid (fun X => bytes_any (stands exl) 0 X)
  have HT := Lib.hid (fun X => table_any (stands exl) X)
  rw [ex_cnt] at HLEN
  rw [ex_a] at HA
  rw [ex_b] at HB
  rw [ex_c] at HC
  rw [ex_two] at H2
  have hz := ex_nil
  have hcell : (cc (stands exl))[98]? = some (.int .i64 2) := by
    have := cc_at (stands exl) 98
    rw [ex_b] at this
    exact this
  have hsz := cc_size (stands exl)
  have HO := Lib.hid (cc_one (stands exl))
  generalize upTo (fun c => decide ((cls (stands exl) c : Int) = 0)) 256 = l0 at *
  generalize cc (stands exl) = cs at *
  go_enter Try.func7, Try.ntmps7
  go_wp2_with fail
  refine BU.mono ?_
  rintro e w1 ⟨rfl, hb1⟩
  have hB1 := (ex_below w).trans (hb1.mono (ex_below w).size)
  have HB1 := Lib.hid hB1
  clear BU hb1 hB1 kc kd
  have hz29 := zero29
  have hzs := cc_size (fun _ => false)
  generalize cc (fun _ => false) = z at *
  have HG := Lib.hid (heap_alloc_new w1 (.cells z 29))
  have es : ((w1.alloc (.cells z 29)).setRow w1.heap.size cs) = w1.alloc (.cells cs 29) := World.setRow_alloc_new _ _ _ _
  have hW0 : Below w.heap.size w ((w1.alloc (.cells z 29)).setRow w1.heap.size cs) := by rw [es]; exact HB1.out.alloc HB1.out.size _
  have HB0 := Lib.hid hW0
  have hs0 := hW0.size
  have hl0 : ((w1.alloc (.cells z 29)).setRow w1.heap.size cs).heap[w1.heap.size]? = some (.cells cs 29 (0, 0)) := by rw [es]; exact heap_alloc_new w1 _
  have hgl : w1.heap.size < ((w1.alloc (.cells z 29)).setRow w1.heap.size cs).heap.size := by rw [es]; simp
  have HL : Hid (∀ X, Below ((w1.alloc (.cells z 29)).setRow w1.heap.size cs).heap.size ((w1.alloc (.cells z 29)).setRow w1.heap.size cs) X → X.heap[w1.heap.size]? = some (.cells cs 29 (0, 0))) := Lib.hid (fun X h => (h.block _ hgl).trans hl0)
  have b0 : Below ((w1.alloc (.cells z 29)).setRow w1.heap.size cs).heap.size ((w1.alloc (.cells z 29)).setRow w1.heap.size cs) ((w1.alloc (.cells z 29)).setRow w1.heap.size cs) := Below.refl _ _
  obtain ⟨fs, hd1⟩ := some29
  have HD := Lib.hid hd1
  clear hd1 hl0 HB1 hW0 es
  go_wp2_with (first
    | (with_reducible refine wpList_store_row rfl 29 (.tmp 1) (.tmp 7) rfl w1.heap.size cs rfl rfl 29 z HG.out (by rw [hsz]; exact size29) (by rw [hsz, hzs]) HO.out ?_)
    | (with_reducible refine wpList_load_row rfl 29 (.tmp 1) rfl w1.heap.size rfl 29 cs (0, 0) _ (HL.out _ (by assumption)) HD.out rfl (by rw [hsz]; exact size29) ?_))
  generalize ((w1.alloc (.cells z 29)).setRow w1.heap.size cs) = x0 at *
  generalize w1.heap.size = g at *
  clear hzs HG hz29
  refine (HLEN.out _).mono ?_
  rintro e x1 ⟨rfl, hb⟩
  have b1 := b0.trans (hb.mono b0.size)
  clear hb b0
  go_wp2_with fail
  refine wp_load_row 29 (.tmp 1) rfl g rfl 29 cs (0, 0) _ (HL.out _ (by assumption)) HD.out rfl (by rw [hsz]; exact size29) ?_
  go_wp2_with fail
  refine (HA.out _).mono ?_
  rintro e x2 ⟨rfl, hb⟩
  have b2 := b1.trans (hb.mono b1.size)
  clear hb b1
  go_wp2_with fail
  refine wp_load_row 29 (.tmp 1) rfl g rfl 29 cs (0, 0) _ (HL.out _ (by assumption)) HD.out rfl (by rw [hsz]; exact size29) ?_
  go_wp2_with fail
  refine (HB.out _).mono ?_
  rintro e x3 ⟨rfl, hb⟩
  have b3 := b2.trans (hb.mono b2.size)
  clear hb b2
  go_wp2_with fail
  refine wp_load_row 29 (.tmp 1) rfl g rfl 29 cs (0, 0) _ (HL.out _ (by assumption)) HD.out rfl (by rw [hsz]; exact size29) ?_
  go_wp2_with fail
  refine (HC.out _).mono ?_
  rintro e x4 ⟨rfl, hb⟩
  have b4 := b3.trans (hb.mono b3.size)
  clear hb b3
  go_wp2_with fail
  refine wp_load_row 29 (.tmp 1) rfl g rfl 29 cs (0, 0) _ (HL.out _ (by assumption)) HD.out rfl (by rw [hsz]; exact size29) ?_
  go_wp2_with fail
  refine (H2.out _).mono ?_
  rintro e x5 ⟨a5, c5, rfl, hs5, hb⟩
  have b5 := b4.trans (hb.mono b4.size)
  have hcv : (convert 36 9 (.slice a5 1 c5)).run Try.prog x5 = .ok (.string (str [98])) x5 := str_of_bs c5 hs5
  have hst : ((str [98]).toList == [98]) = true := by rw [str_list]; rfl
  clear hb b4
  go_wp2_with fail
  refine wp_load_row 29 (.tmp 1) rfl g rfl 29 cs (0, 0) _ (HL.out _ (by assumption)) HD.out rfl (by rw [hsz]; exact size29) ?_
  go_wp2_with fail
  refine (H0.out _).mono ?_
  rintro e x6 ⟨a6, c6, rfl, hs6, hb⟩
  have b6 := b5.trans (hb.mono b5.size)
  clear hb b5
  go_wp2_with fail
  refine wp_load_row 29 (.tmp 1) rfl g rfl 29 cs (0, 0) _ (HL.out _ (by assumption)) HD.out rfl (by rw [hsz]; exact size29) ?_
  go_wp2_with fail
  refine (HT.out _).mono ?_
  rintro e x7 ⟨rfl, hb⟩
  have hix : (Instr.index 27 (.agg cs) (.int .i64 98)).run Try.prog x7 = .ok (.int .i64 2) x7 := idx27 98 (by decide) hcell .i64 x7
  have b7 := b6.trans (hb.mono b6.size)
  clear hb b6
  go_wp2
  go_ret
  exact ⟨rfl, HB0.out.trans (b7.mono hs0)⟩
end Go.Proofs.Ytlepabeibniabaa.Cls
