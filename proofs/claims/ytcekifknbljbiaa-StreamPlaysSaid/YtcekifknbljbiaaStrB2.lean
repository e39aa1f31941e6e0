/- The reference of layer 20: Feed, End. -/
import Derived.Test.YtcekifknbljbiaaStrB
namespace Go.Proofs.Ytcekifknbljbiaa.Str
open Go.Proofs.Ytcekifknbljbiaa.Stm Go.Proofs.Ytcekifknbljbiaa.Reg Go.RowKit Go.Maps
set_option maxRecDepth 100000
set_option linter.unusedVariables false

def rcells (x : Sl) : List Value := [.int .i64 (x.num : Int), .int .i64 (x.off : Int), .string (str x.text)]
theorem infoR : (Try.prog.info? 49).map (fun i => (i.zero, i.size, i.bytes)) = some (some (.agg #[.int .i64 0, .int .i64 0, .string ByteArray.empty]), 3, 32) := by kernel_rfl
/-- What the reference's Feed and End give. -/
def GivesR (w : World) (r : St × List Sl) (e : Ending) (w' : World) : Prop :=
  ∃ v, e = .returned (.tuple #[rv r.1, v]) ∧ w'.ownsRow w.heap.size 49 3 v r.2.length (r.2.flatMap rcells) ∧ Below w.heap.size w w'
/-- Zeros, where a result lies. -/
abbrev Zb (w : World) (B : Nat) : Prop := Blk9 w B 33 (.string { data := #[] }) (.int .i64 0) (.int .i64 0) (.int .i64 0) (.int .i64 0) (.int .i64 0) (.int .i64 0) (.bool false) (.int .i64 0)
theorem two_new (w : World) (s : St) : ∃ y, (w.alloc (.cells #[.string (str s.w.held), .int .i64 (s.w.room : Int), .int .i64 (s.w.move : Int), .int .i64 (s.most : Int), .int .i64 (s.num : Int), .int .i64 (s.off : Int), .int .i64 (s.hunt : Int), .bool s.over, .int .i64 (errOf s)] 33)).alloc (.cells #[.string { data := #[] }, .int .i64 0, .int .i64 0, .int .i64 0, .int .i64 0, .int .i64 0, .int .i64 0, .bool false, .int .i64 0] 33) = y ∧
    Rb y w.heap.size s ∧ Zb y (w.heap.size + 1) ∧ Below w.heap.size w y ∧ y.heap.size = w.heap.size + 2 := by
  refine ⟨_, rfl, ?_⟩
  have e1 := Blk9.new w 33 (.string (str s.w.held)) (.int .i64 (s.w.room : Int)) (.int .i64 (s.w.move : Int)) (.int .i64 (s.most : Int)) (.int .i64 (s.num : Int)) (.int .i64 (s.off : Int)) (.int .i64 (s.hunt : Int)) (.bool s.over) (.int .i64 (errOf s))
  have hs1 : (w.alloc (.cells #[.string (str s.w.held), .int .i64 (s.w.room : Int), .int .i64 (s.w.move : Int), .int .i64 (s.most : Int), .int .i64 (s.num : Int), .int .i64 (s.off : Int), .int .i64 (s.hunt : Int), .bool s.over, .int .i64 (errOf s)] 33)).heap.size = w.heap.size + 1 := by simp
  have b1 := Met.below_new w (.cells #[.string (str s.w.held), .int .i64 (s.w.room : Int), .int .i64 (s.w.move : Int), .int .i64 (s.most : Int), .int .i64 (s.num : Int), .int .i64 (s.off : Int), .int .i64 (s.hunt : Int), .bool s.over, .int .i64 (errOf s)] 33)
  generalize w.alloc (.cells #[.string (str s.w.held), .int .i64 (s.w.room : Int), .int .i64 (s.w.move : Int), .int .i64 (s.most : Int), .int .i64 (s.num : Int), .int .i64 (s.off : Int), .int .i64 (s.hunt : Int), .bool s.over, .int .i64 (errOf s)] 33) = w1 at *
  have e2 := Blk9.new w1 33 (.string { data := #[] }) (.int .i64 0) (.int .i64 0) (.int .i64 0) (.int .i64 0) (.int .i64 0) (.int .i64 0) (.bool false) (.int .i64 0)
  have hs2 : (w1.alloc (.cells #[.string { data := #[] }, .int .i64 0, .int .i64 0, .int .i64 0, .int .i64 0, .int .i64 0, .int .i64 0, .bool false, .int .i64 0] 33)).heap.size = w1.heap.size + 1 := by simp
  have b2 := Met.below_new w1 (.cells #[.string { data := #[] }, .int .i64 0, .int .i64 0, .int .i64 0, .int .i64 0, .int .i64 0, .int .i64 0, .bool false, .int .i64 0] 33)
  generalize w1.alloc (.cells #[.string { data := #[] }, .int .i64 0, .int .i64 0, .int .i64 0, .int .i64 0, .int .i64 0, .int .i64 0, .bool false, .int .i64 0] 33) = w2 at *
  rw [hs1] at e2
  exact ⟨e1.keep b2 (by omega), e2, b1.trans (b2.mono b1.size), by omega⟩
/-- All nine cells stored. -/
abbrev set9 (w : World) (g : Nat) (s : St) : World :=
  ((((((((w.setCell ⟨g, 0, none⟩ (.string (str s.w.held))).setCell ⟨g, 1, none⟩ (.int .i64 (s.w.room : Int))).setCell ⟨g, 2, none⟩ (.int .i64 (s.w.move : Int))).setCell ⟨g, 3, none⟩ (.int .i64 (s.most : Int))).setCell ⟨g, 4, none⟩ (.int .i64 (s.num : Int))).setCell ⟨g, 5, none⟩ (.int .i64 (s.off : Int))).setCell ⟨g, 6, none⟩ (.int .i64 (s.hunt : Int))).setCell ⟨g, 7, none⟩ (.bool s.over)).setCell ⟨g, 8, none⟩ (.int .i64 (errOf s))
set_option maxHeartbeats 2000000 in
theorem set9_rb {w : World} {g : Nat} {u0 u1 u2 u3 u4 u5 u6 u7 u8 : Value} (h : Blk9 w g 33 u0 u1 u2 u3 u4 u5 u6 u7 u8) (s : St) : Rb (set9 w g s) g s := by
  unfold Blk9 at h
  unfold Rb Blk9 set9
  have h1 := heap_set_same (i := 0) (u := .string (str s.w.held)) h
  have h2 := heap_set_same (i := 1) (u := .int .i64 (s.w.room : Int)) h1
  have h3 := heap_set_same (i := 2) (u := .int .i64 (s.w.move : Int)) h2
  have h4 := heap_set_same (i := 3) (u := .int .i64 (s.most : Int)) h3
  have h5 := heap_set_same (i := 4) (u := .int .i64 (s.num : Int)) h4
  have h6 := heap_set_same (i := 5) (u := .int .i64 (s.off : Int)) h5
  have h7 := heap_set_same (i := 6) (u := .int .i64 (s.hunt : Int)) h6
  have h8 := heap_set_same (i := 7) (u := .bool s.over) h7
  have h9 := heap_set_same (i := 8) (u := .int .i64 (errOf s)) h8
  simp only [List.setIfInBounds_toArray, List.set_cons_zero, List.set_cons_succ] at h9
  exact h9
theorem set9_other {w : World} {g k : Nat} {s : St} (h : k ≠ g) : (set9 w g s).heap[k]? = w.heap[k]? := by
  unfold set9
  rw [Below.heap_setCell _ _ _ _ h, Below.heap_setCell _ _ _ _ h, Below.heap_setCell _ _ _ _ h, Below.heap_setCell _ _ _ _ h, Below.heap_setCell _ _ _ _ h, Below.heap_setCell _ _ _ _ h, Below.heap_setCell _ _ _ _ h, Below.heap_setCell _ _ _ _ h, Below.heap_setCell _ _ _ _ h]
theorem set9_below {B g : Nat} {a w : World} {s : St} (h : Below B a w) (hg : B ≤ g) : Below B a (set9 w g s) := by
  unfold set9
  iterate 9 (with_reducible refine Below.setCell ?_ hg _)
  exact h
theorem set9_size (w : World) (g : Nat) (s : St) : (set9 w g s).heap.size = w.heap.size := by simp [set9]
theorem Rb.hunt {w : World} {g : Nat} {s : St} (h : Rb w g s) : Rb (w.setCell ⟨g, 6, none⟩ (.int .i64 ((s.hunt : Int) + 1))) g { s with hunt := s.hunt + 1 } := by
  unfold Rb Blk9 at h ⊢
  rw [heap_set_same h]
  rfl
theorem Rb.fail {w : World} {g : Nat} {s : St} (h : Rb w g s) : Rb ((w.setCell ⟨g, 7, none⟩ (.bool true)).setCell ⟨g, 8, none⟩ (.int .i64 15)) g (St.fail s) := by
  unfold Rb Blk9 at h ⊢
  rw [heap_set_same (heap_set_same h)]
  rfl
theorem Rb.over {w : World} {g : Nat} {s : St} (h : Rb w g s) : Rb (w.setCell ⟨g, 7, none⟩ (.bool true)) g { s with over := true } := by
  unfold Rb Blk9 at h ⊢
  rw [heap_set_same h]
  rfl
theorem Rb.win {w : World} {g : Nat} {s : St} (h : Rb w g s) (x : Wn) : Rb (((w.setCell ⟨g, 0, none⟩ (.string (str x.held))).setCell ⟨g, 1, none⟩ (.int .i64 (x.room : Int))).setCell ⟨g, 2, none⟩ (.int .i64 (x.move : Int))) g { s with w := x } := by
  unfold Rb Blk9 at h ⊢
  rw [heap_set_same (heap_set_same (heap_set_same h))]
  rfl
/-- What line's results are stored to. -/
theorem res_new (x1 : World) (q : St) (td : Sl) : ∃ z, ((x1.alloc (.cells #[.string (str q.w.held), .int .i64 (q.w.room : Int), .int .i64 (q.w.move : Int), .int .i64 (q.most : Int), .int .i64 (q.num : Int), .int .i64 (q.off : Int), .int .i64 (q.hunt : Int), .bool q.over, .int .i64 (errOf q)] 33)).alloc (.cells #[.int .i64 (td.num : Int), .int .i64 (td.off : Int), .string (str td.text)] 49)) = z ∧ Rb z x1.heap.size q ∧ Blk3 z (x1.heap.size + 1) 49 (.int .i64 (td.num : Int)) (.int .i64 (td.off : Int)) (.string (str td.text)) ∧ Below x1.heap.size x1 z ∧ z.heap.size = x1.heap.size + 2 := by
  refine ⟨_, rfl, ?_⟩
  have e1 := Blk9.new x1 33 (.string (str q.w.held)) (.int .i64 (q.w.room : Int)) (.int .i64 (q.w.move : Int)) (.int .i64 (q.most : Int)) (.int .i64 (q.num : Int)) (.int .i64 (q.off : Int)) (.int .i64 (q.hunt : Int)) (.bool q.over) (.int .i64 (errOf q))
  have hs1 : (x1.alloc (.cells #[.string (str q.w.held), .int .i64 (q.w.room : Int), .int .i64 (q.w.move : Int), .int .i64 (q.most : Int), .int .i64 (q.num : Int), .int .i64 (q.off : Int), .int .i64 (q.hunt : Int), .bool q.over, .int .i64 (errOf q)] 33)).heap.size = x1.heap.size + 1 := by simp
  have b1 := Met.below_new x1 (.cells #[.string (str q.w.held), .int .i64 (q.w.room : Int), .int .i64 (q.w.move : Int), .int .i64 (q.most : Int), .int .i64 (q.num : Int), .int .i64 (q.off : Int), .int .i64 (q.hunt : Int), .bool q.over, .int .i64 (errOf q)] 33)
  generalize (x1.alloc (.cells #[.string (str q.w.held), .int .i64 (q.w.room : Int), .int .i64 (q.w.move : Int), .int .i64 (q.most : Int), .int .i64 (q.num : Int), .int .i64 (q.off : Int), .int .i64 (q.hunt : Int), .bool q.over, .int .i64 (errOf q)] 33)) = w1 at *
  have e2 := Win.new3 w1 49 (.int .i64 (td.num : Int)) (.int .i64 (td.off : Int)) (.string (str td.text))
  have hs2 : (w1.alloc (.cells #[.int .i64 (td.num : Int), .int .i64 (td.off : Int), .string (str td.text)] 49)).heap.size = w1.heap.size + 1 := by simp
  have b2 := Met.below_new w1 (.cells #[.int .i64 (td.num : Int), .int .i64 (td.off : Int), .string (str td.text)] 49)
  generalize w1.alloc (.cells #[.int .i64 (td.num : Int), .int .i64 (td.off : Int), .string (str td.text)] 49) = w2 at *
  rw [hs1] at e2
  exact ⟨e1.keep b2 (by omega), e2, b1.trans (b2.mono b1.size), by omega⟩
theorem one_rowR (w : World) (x : Sl) : (w.alloc (.cells #[.int .i64 (x.num : Int), .int .i64 (x.off : Int), .string (str x.text)] 49)).ownsRow w.heap.size 49 3 (.slice (some ⟨w.heap.size, 0, none⟩) 1 1) 1 (rcells x) :=
  ⟨rfl, .inr ⟨w.heap.size, 1, _, rfl, Nat.le_refl _, heap_alloc_new w _, Nat.le_refl _, by decide, rfl, rfl⟩⟩
theorem rsfeed_over (w : World) (s : St) (ho : s.over = true) (b : Tx) : Calls Try.prog 16 #[rv s, .string (str b)] w (GivesR w (s.feed b)) := by
  have hf : s.feed b = (s, []) := by rw [St.feed, if_pos ho]
  rw [hf]
  go_enter Try.func16, Try.ntmps16
  go_wp2_with fail
  refine bodyPost_ret (v := .tuple #[rv s, .slice none 0 0]) (by simp [results, Try.results16, go_sem]; trivial) rfl ?_
  exact ⟨_, rfl, World.ownsRow_nil _ _ _ _, ((Below.refl _ _).alloc (Nat.le_refl _) _).alloc (by simp) _⟩
theorem rsend_over (w : World) (s : St) (ho : s.over = true) : Calls Try.prog 18 #[rv s] w (GivesR w s.fin) := by
  have hf : s.fin = (s, []) := by rw [St.fin, if_pos ho]
  rw [hf]
  go_enter Try.func18, Try.ntmps18
  go_wp2_with fail
  refine bodyPost_ret (v := .tuple #[rv s, .slice none 0 0]) (by simp [results, Try.results18, go_sem]; trivial) rfl ?_
  exact ⟨_, rfl, World.ownsRow_nil _ _ _ _, ((Below.refl _ _).alloc (Nat.le_refl _) _).alloc (by simp) _⟩
set_option maxHeartbeats 4000000 in
theorem rsend_any (w : World) (s : St) (ho : s.over = false) (hs : Small s) : Calls Try.prog 18 #[rv s] w (GivesR w s.fin) := by
  have hsz := str_size s.w.held
  have HS := Lib.hid hs
  by_cases he : s.w.held = []
  · have he2 : (str s.w.held).toList.isEmpty = true := by rw [Win.str_emp, he]; rfl
    have hf : s.fin = ({ s with over := true }, []) := by rw [St.fin, ho, he]; rfl
    rw [hf]
    clear hs he hf
    go_enter Try.func18, Try.ntmps18
    go_wp2_with fail
    refine bodyPost_ret (v := .tuple #[rv { s with over := true }, .slice none 0 0]) (by simp [results, Try.results18, go_sem]; rfl) rfl ?_
    exact ⟨_, rfl, World.ownsRow_nil _ _ _ _, ((Below.refl _ _).alloc (Nat.le_refl _) _).alloc (by simp) _⟩
  · have he2 : (str s.w.held).toList.isEmpty = false := by rw [Win.str_emp]; exact decide_eq_false he
    have hf : s.fin = (({ s with over := true } : St).line [], [s.told []]) := by rw [St.fin, ho]; simp [he]
    rw [hf]
    clear hs he hf
    go_enter Try.func18, Try.ntmps18
    go_wp2_with fail
    obtain ⟨y, hy, HB, HZ, hby, hys⟩ := two_new w { s with over := true }
    rw [show ((w.alloc (.cells #[.string (str s.w.held), .int .i64 (s.w.room : Int), .int .i64 (s.w.move : Int), .int .i64 (s.most : Int), .int .i64 (s.num : Int), .int .i64 (s.off : Int), .int .i64 (s.hunt : Int), .bool true, .int .i64 (errOf s)] 33)).alloc (.cells #[.string { data := #[] }, .int .i64 0, .int .i64 0, .int .i64 0, .int .i64 0, .int .i64 0, .int .i64 0, .bool false, .int .i64 0] 33)) = y from hy]
    have hsm : Small { s with over := true } := ⟨HS.out.sw1, HS.out.sw2, HS.out.sw3, HS.out.sw4, HS.out.sw5, HS.out.sw6⟩
    refine (rsline_any y { s with over := true } hsm [] (by decide)).mono ?_
    rintro e x1 ⟨rfl, hb1⟩
    have htd : ({ s with over := true } : St).told [] = s.told [] := rfl
    rw [htd]
    generalize ({ s with over := true } : St).line [] = q at *
    generalize s.told [] = td at *
    have HZ1 := HZ.keep hb1 (by omega)
    have HBY := Lib.hid (hby.trans (hb1.mono hby.size))
    have hyl : w.heap.size + 2 ≤ x1.heap.size := by have := hb1.size; omega
    clear hy HB HZ hby hb1 hsm htd hys
    rw [show rv q = .agg #[.string (str q.w.held), .int .i64 (q.w.room : Int), .int .i64 (q.w.move : Int), .int .i64 (q.most : Int), .int .i64 (q.num : Int), .int .i64 (q.off : Int), .int .i64 (q.hunt : Int), .bool q.over, .int .i64 (errOf q)] from rfl, show rl td = .agg #[.int .i64 (td.num : Int), .int .i64 (td.off : Int), .string (str td.text)] from rfl]
    have HZh := Lib.hid HZ1
    clear HZ1
    go_wp2_with fail
    obtain ⟨z, hz, hq, ht, hbz, hzs⟩ := res_new x1 q td
    rw [hz]
    have HZ2 := HZh.out.keep hbz (by omega)
    have HBY2 := Lib.hid (HBY.out.trans (hbz.mono HBY.out.size))
    obtain ⟨c0, c1, c2, c3, c4, c5, c6, c7, c8⟩ := hq.cells
    obtain ⟨g0, g1, g2⟩ := ht.cells
    obtain ⟨d0, d1, d2, d3, d4, d5, d6, d7, d8⟩ := HZ2.cells
    have fr := HZ2.free
    have HZ3 := Lib.hid HZ2
    have hzl : w.heap.size + 4 ≤ z.heap.size := by omega
    have n1 : ¬ (w.heap.size + 1 = x1.heap.size) := by omega
    have n2 : ¬ (x1.heap.size = w.heap.size + 1) := by omega
    have n3 : ¬ (w.heap.size + 1 = x1.heap.size + 1) := by omega
    have n4 : ¬ (x1.heap.size + 1 = w.heap.size + 1) := by omega
    have z1 : x1.heap.size < z.heap.size := by omega
    have z2 : x1.heap.size + 1 < z.heap.size := by omega
    have z3 : w.heap.size + 1 < z.heap.size := by omega
    clear hz hq ht hbz HZ2 HZh HBY hzs
    go_region
    all_goals go_wp2_with fail
    have hrow := one_rowR (set9 z (w.heap.size + 1) q) td
    have hsz9 := set9_size z (w.heap.size + 1) q
    have hrb := set9_rb HZ3.out q
    have hbl : Below w.heap.size w (set9 z (w.heap.size + 1) q) := set9_below HBY2.out (by omega)
    change bodyPost _ _ _ _ _ ((set9 z (w.heap.size + 1) q).alloc (.cells #[.int .i64 (td.num : Int), .int .i64 (td.off : Int), .string (str td.text)] 49)).drew
    rw [← hsz9]
    generalize set9 z (w.heap.size + 1) q = z9 at *
    have hrb2 : Rb (z9.alloc (.cells #[.int .i64 (td.num : Int), .int .i64 (td.off : Int), .string (str td.text)] 49)).drew (w.heap.size + 1) q := Blk9.keep hrb (below_drews (Met.below_new z9 _) 1) (by omega)
    have hbl2 : Below w.heap.size w (z9.alloc (.cells #[.int .i64 (td.num : Int), .int .i64 (td.off : Int), .string (str td.text)] 49)).drew := below_drews (hbl.alloc (by omega) _) 1
    have hrow2 : (z9.alloc (.cells #[.int .i64 (td.num : Int), .int .i64 (td.off : Int), .string (str td.text)] 49)).drew.ownsRow z9.heap.size 49 3 (.slice (some ⟨z9.heap.size, 0, none⟩) 1 1) 1 (rcells td) := hrow
    generalize (z9.alloc (.cells #[.int .i64 (td.num : Int), .int .i64 (td.off : Int), .string (str td.text)] 49)).drew = zf at *
    obtain ⟨k0, k1, k2, k3, k4, k5, k6, k7, k8⟩ := hrb2.cells
    refine bodyPost_ret (v := .tuple #[rv q, .slice (some ⟨z9.heap.size, 0, none⟩) 1 1]) (by simp [results, Try.results18, go_sem, k0, k1, k2, k3, k4, k5, k6, k7, k8]) rfl ?_
    exact ⟨_, rfl, own_base hrow2 (by omega), hbl2⟩
end Go.Proofs.Ytcekifknbljbiaa.Str
