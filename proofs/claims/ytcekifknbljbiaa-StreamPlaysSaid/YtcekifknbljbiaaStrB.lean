/- The reference of layer 20: New, line, Feed, End. -/
import Derived.Test.YtcekifknbljbiaaStrA6
namespace Go.Proofs.Ytcekifknbljbiaa.Str
open Go.Proofs.Ytcekifknbljbiaa.Stm Go.Proofs.Ytcekifknbljbiaa.Reg Go.RowKit Go.Maps
set_option maxRecDepth 100000
set_option linter.unusedVariables false

/-- A stream, as the reference has it. -/
abbrev rv (s : St) : Value := .agg #[.string (str s.w.held), .int .i64 (s.w.room : Int), .int .i64 (s.w.move : Int), .int .i64 (s.most : Int), .int .i64 (s.num : Int), .int .i64 (s.off : Int), .int .i64 (s.hunt : Int), .bool s.over, .int .i64 (errOf s)]
/-- A line, as the reference has it. -/
abbrev rl (x : Sl) : Value := .agg #[.int .i64 (x.num : Int), .int .i64 (x.off : Int), .string (str x.text)]
set_option maxHeartbeats 1000000 in
theorem rsnew_any (w : World) (most : Int) (M : Nat) (hmx : max most 0 = (M : Int)) :
    Calls Try.prog 14 #[.int .i64 most] w fun e w' => e = .returned (rv (stNew M)) ∧ Below w.heap.size w w' := by
  by_cases h : most < 0
  · have hM : M = 0 := by omega
    subst hM
    clear hmx
    go_enter Try.func14, Try.ntmps14
    go_wp2_with fail
    refine bodyPost_ret (v := rv (stNew 0)) (by simp [results, Try.results14, go_sem, stNew, wnNew, str, errOf]) rfl ?_
    exact ⟨rfl, (Below.refl _ _).alloc (Nat.le_refl _) _⟩
  · have hM : most = (M : Int) := by omega
    subst hM
    clear hmx
    go_enter Try.func14, Try.ntmps14
    go_wp2_with fail
    refine bodyPost_ret (v := rv (stNew M)) (by simp [results, Try.results14, go_sem, stNew, wnNew, str, errOf]) rfl ?_
    exact ⟨rfl, (Below.refl _ _).alloc (Nat.le_refl _) _⟩
/-- A block of nine cells that is known whole. -/
def Blk9 (w : World) (g : Nat) (t : TypeId) (u0 u1 u2 u3 u4 u5 u6 u7 u8 : Value) : Prop := w.heap[g]? = some (.cells #[u0, u1, u2, u3, u4, u5, u6, u7, u8] t (0, 0))
theorem Blk9.lt {w : World} {g : Nat} {t : TypeId} {u0 u1 u2 u3 u4 u5 u6 u7 u8 : Value} (h : Blk9 w g t u0 u1 u2 u3 u4 u5 u6 u7 u8) : g < w.heap.size := txt_lt h
theorem Blk9.cells {w : World} {g : Nat} {t : TypeId} {u0 u1 u2 u3 u4 u5 u6 u7 u8 : Value} (h : Blk9 w g t u0 u1 u2 u3 u4 u5 u6 u7 u8) : w.cell? ⟨g, 0, none⟩ = some u0 ∧ w.cell? ⟨g, 1, none⟩ = some u1 ∧ w.cell? ⟨g, 2, none⟩ = some u2 ∧ w.cell? ⟨g, 3, none⟩ = some u3 ∧ w.cell? ⟨g, 4, none⟩ = some u4 ∧ w.cell? ⟨g, 5, none⟩ = some u5 ∧ w.cell? ⟨g, 6, none⟩ = some u6 ∧ w.cell? ⟨g, 7, none⟩ = some u7 ∧ w.cell? ⟨g, 8, none⟩ = some u8 := by
  unfold Blk9 at h
  refine ⟨?_, ?_, ?_, ?_, ?_, ?_, ?_, ?_, ?_⟩ <;> (rw [cell_of_row w g _ _ t (0, 0) h]; rfl)
theorem Blk9.free {w : World} {g : Nat} {t : TypeId} {u0 u1 u2 u3 u4 u5 u6 u7 u8 : Value} (h : Blk9 w g t u0 u1 u2 u3 u4 u5 u6 u7 u8) (i : Nat) : w.frozen? ⟨g, i, none⟩ = false := by
  unfold Blk9 at h
  simp [World.frozen?, h]
theorem Blk9.new (w : World) (t : TypeId) (u0 u1 u2 u3 u4 u5 u6 u7 u8 : Value) : Blk9 (w.alloc (.cells #[u0, u1, u2, u3, u4, u5, u6, u7, u8] t)) w.heap.size t u0 u1 u2 u3 u4 u5 u6 u7 u8 := heap_alloc_new w _
theorem Blk9.keep {w w' : World} {B g : Nat} {t : TypeId} {u0 u1 u2 u3 u4 u5 u6 u7 u8 : Value} (h : Blk9 w g t u0 u1 u2 u3 u4 u5 u6 u7 u8) (hb : Below B w w') (hg : g < B) : Blk9 w' g t u0 u1 u2 u3 u4 u5 u6 u7 u8 := (hb.block g hg).trans h
/-- A stream of the reference in block B. -/
abbrev Rb (w : World) (B : Nat) (s : St) : Prop := Blk9 w B 33 (.string (str s.w.held)) (.int .i64 (s.w.room : Int)) (.int .i64 (s.w.move : Int)) (.int .i64 (s.most : Int)) (.int .i64 (s.num : Int)) (.int .i64 (s.off : Int)) (.int .i64 (s.hunt : Int)) (.bool s.over) (.int .i64 (errOf s))
/-- The blocks of line: its own, and those of its results. -/
theorem three_new (w : World) (s : St) : ∃ y, ((w.alloc (.cells #[.string (str s.w.held), .int .i64 (s.w.room : Int), .int .i64 (s.w.move : Int), .int .i64 (s.most : Int), .int .i64 (s.num : Int), .int .i64 (s.off : Int), .int .i64 (s.hunt : Int), .bool s.over, .int .i64 (errOf s)] 33)).alloc (.cells #[.string { data := #[] }, .int .i64 0, .int .i64 0, .int .i64 0, .int .i64 0, .int .i64 0, .int .i64 0, .bool false, .int .i64 0] 33)).alloc (.cells #[.int .i64 0, .int .i64 0, .string { data := #[] }] 49) = y ∧
    Rb y w.heap.size s ∧ Blk9 y (w.heap.size + 1) 33 (.string { data := #[] }) (.int .i64 0) (.int .i64 0) (.int .i64 0) (.int .i64 0) (.int .i64 0) (.int .i64 0) (.bool false) (.int .i64 0) ∧ Blk3 y (w.heap.size + 2) 49 (.int .i64 0) (.int .i64 0) (.string { data := #[] }) ∧ Below w.heap.size w y ∧ y.heap.size = w.heap.size + 3 := by
  refine ⟨_, rfl, ?_⟩
  have e1 := Blk9.new w 33 (.string (str s.w.held)) (.int .i64 (s.w.room : Int)) (.int .i64 (s.w.move : Int)) (.int .i64 (s.most : Int)) (.int .i64 (s.num : Int)) (.int .i64 (s.off : Int)) (.int .i64 (s.hunt : Int)) (.bool s.over) (.int .i64 (errOf s))
  have hs1 : (w.alloc (.cells #[.string (str s.w.held), .int .i64 (s.w.room : Int), .int .i64 (s.w.move : Int), .int .i64 (s.most : Int), .int .i64 (s.num : Int), .int .i64 (s.off : Int), .int .i64 (s.hunt : Int), .bool s.over, .int .i64 (errOf s)] 33)).heap.size = w.heap.size + 1 := by simp
  have b1 := Met.below_new w (.cells #[.string (str s.w.held), .int .i64 (s.w.room : Int), .int .i64 (s.w.move : Int), .int .i64 (s.most : Int), .int .i64 (s.num : Int), .int .i64 (s.off : Int), .int .i64 (s.hunt : Int), .bool s.over, .int .i64 (errOf s)] 33)
  generalize w.alloc (.cells #[.string (str s.w.held), .int .i64 (s.w.room : Int), .int .i64 (s.w.move : Int), .int .i64 (s.most : Int), .int .i64 (s.num : Int), .int .i64 (s.off : Int), .int .i64 (s.hunt : Int), .bool s.over, .int .i64 (errOf s)] 33) = w1 at *
  have e2 := Blk9.new w1 33 (.string { data := #[] }) (.int .i64 0) (.int .i64 0) (.int .i64 0) (.int .i64 0) (.int .i64 0) (.int .i64 0) (.bool false) (.int .i64 0)
  have hs2 : (w1.alloc (.cells #[.string { data := #[] }, .int .i64 0, .int .i64 0, .int .i64 0, .int .i64 0, .int .i64 0, .int .i64 0, .bool false, .int .i64 0] 33)).heap.size = w1.heap.size + 1 := by simp
  have b2 := Met.below_new w1 (.cells #[.string { data := #[] }, .int .i64 0, .int .i64 0, .int .i64 0, .int .i64 0, .int .i64 0, .int .i64 0, .bool false, .int .i64 0] 33)
  generalize w1.alloc (.cells #[.string { data := #[] }, .int .i64 0, .int .i64 0, .int .i64 0, .int .i64 0, .int .i64 0, .int .i64 0, .bool false, .int .i64 0] 33) = w2 at *
  have e3 := Win.new3 w2 49 (.int .i64 0) (.int .i64 0) (.string { data := #[] })
  have hs3 : (w2.alloc (.cells #[.int .i64 0, .int .i64 0, .string { data := #[] }] 49)).heap.size = w2.heap.size + 1 := by simp
  have b3 := Met.below_new w2 (.cells #[.int .i64 0, .int .i64 0, .string { data := #[] }] 49)
  generalize w2.alloc (.cells #[.int .i64 0, .int .i64 0, .string { data := #[] }] 49) = w3 at *
  have b23 := b2.trans (b3.mono b2.size)
  rw [hs1] at e2
  have f2 : w2.heap.size = w.heap.size + 2 := by omega
  rw [f2] at e3
  exact ⟨e1.keep b23 (by omega), e2.keep b3 (by omega), e3, b1.trans (b23.mono b1.size), by omega⟩
/-- How large a stream's numbers may be here. -/
structure Small (s : St) : Prop where
  sw1 : s.w.held.length ≤ 1000000
  sw2 : s.w.room ≤ 100000000
  sw3 : s.w.move ≤ 100000000
  sw4 : s.num ≤ 1000000
  sw5 : s.off ≤ 100000000
  sw6 : s.hunt ≤ 1000000
set_option maxHeartbeats 4000000 in
theorem rsline_any (w : World) (s : St) (hs : Small s) (b : Tx) (hb : b.length ≤ 1000000) :
    Calls Try.prog 32 #[rv s, .string (str b)] w fun e w' => e = .returned (.tuple #[rv (s.line b), rl (s.told b)]) ∧ Below w.heap.size w w' := by
  obtain ⟨h1, h2, h3, h4, h5, h6⟩ := hs
  have hsz := str_size s.w.held
  have hbz := str_size b
  have hap := Win.str_add s.w.held b
  have hap2 : Hid (lineT s b = s.w.held ++ b) := Lib.hid rfl
  rw [← hap2.out] at hap
  have hapz := str_size (lineT s b)
  have hal : (lineT s b).length ≤ 2000000 := by rw [lineT_len]; omega
  by_cases he : s.w.held = []
  · have he2 : (str s.w.held).toList.isEmpty = true := by rw [Win.str_emp, he]; rfl
    have HE := Lib.hid he
    clear he
    go_enter Try.func32, Try.ntmps32
    go_wp2_with fail
    go_region
    go_wp2_with fail
    have hln : (s.line b).w = s.w := by unfold St.line; simp only; rw [if_pos HE.out]
    have e1 : ((s.line b).num : Int) = (s.num : Int) + 1 := Int.natCast_succ _
    have e2 : ((s.line b).off : Int) = (s.off : Int) + (((lineT s b).length : Int) + 1) := by
      show (((s.off + (lineT s b).length + 1 : Nat)) : Int) = _
      omega
    refine bodyPost_ret (v := .tuple #[rv (s.line b), rl (s.told b)]) (by simp [results, Try.results32, go_sem, hln, e1, e2]; repeat' (first | apply And.intro | rfl)) rfl ⟨rfl, ?_⟩
    exact below_drews ((((Below.refl _ _).alloc (Nat.le_refl _) _).alloc (by simp) _).alloc (by simp; omega) _ |>.alloc (by simp; omega) _) 1
  · have he2 : (str s.w.held).toList.isEmpty = false := by rw [Win.str_emp]; exact decide_eq_false he
    have HE := Lib.hid he
    clear he
    go_enter Try.func32, Try.ntmps32
    go_wp2_with fail
    obtain ⟨y, hy, HB, HR, HL, hby, hys⟩ := three_new w s
    rw [hy]
    refine (Win.rwadd_any y s.w b (by omega) (by omega) (by omega) (by omega)).mono ?_
    rintro e x1 ⟨rfl, hb1⟩
    have HB1 := HB.keep hb1 (by omega)
    have HR1 := HR.keep hb1 (by omega)
    have HL1 := HL.keep hb1 (by omega)
    have HBY := Lib.hid (hby.trans (hb1.mono hby.size))
    have hlen := hb1.size
    clear hy HB HR HL hby hb1
    go_wp2_with fail
    refine (Win.rwclear_any x1 (s.w.add b)).mono ?_
    rintro e x2 ⟨rfl, hb2⟩
    rw [show Win.wv (s.w.add b).clear = .agg #[.string (str []), .int .i64 ((s.w.add b).room : Int), .int .i64 ((s.w.add b).move : Int)] from rfl]
    have HB2 := HB1.keep hb2 (by omega)
    have HR2 := HR1.keep hb2 (by omega)
    have HL2 := HL1.keep hb2 (by omega)
    have HBZ := Lib.hid (HBY.out.trans (hb2.mono HBY.out.size))
    have hlen2 := hb2.size
    clear HB1 HR1 HL1 HBY hb2
    have HB3 : Blk9 (((x2.setCell ⟨w.heap.size, 0, none⟩ (.string (str []))).setCell ⟨w.heap.size, 1, none⟩ (.int .i64 ((s.w.add b).room : Int))).setCell ⟨w.heap.size, 2, none⟩ (.int .i64 ((s.w.add b).move : Int))) w.heap.size 33 (.string (str [])) (.int .i64 ((s.w.add b).room : Int)) (.int .i64 ((s.w.add b).move : Int)) (.int .i64 (s.most : Int)) (.int .i64 (s.num : Int)) (.int .i64 (s.off : Int)) (.int .i64 (s.hunt : Int)) (.bool s.over) (.int .i64 (errOf s)) := by
      unfold Rb Blk9 at HB2
      unfold Blk9
      rw [heap_set_same (heap_set_same (heap_set_same HB2))]
      rfl
    have hoth : ∀ k, k ≠ w.heap.size → (((x2.setCell ⟨w.heap.size, 0, none⟩ (.string (str []))).setCell ⟨w.heap.size, 1, none⟩ (.int .i64 ((s.w.add b).room : Int))).setCell ⟨w.heap.size, 2, none⟩ (.int .i64 ((s.w.add b).move : Int))).heap[k]? = x2.heap[k]? := fun k hk => ((Below.heap_setCell _ _ _ _ hk).trans (Below.heap_setCell _ _ _ _ hk)).trans (Below.heap_setCell _ _ _ _ hk)
    have hs3 : (((x2.setCell ⟨w.heap.size, 0, none⟩ (.string (str []))).setCell ⟨w.heap.size, 1, none⟩ (.int .i64 ((s.w.add b).room : Int))).setCell ⟨w.heap.size, 2, none⟩ (.int .i64 ((s.w.add b).move : Int))).heap.size = x2.heap.size := by simp
    have hal4 := Met.below_new (((x2.setCell ⟨w.heap.size, 0, none⟩ (.string (str []))).setCell ⟨w.heap.size, 1, none⟩ (.int .i64 ((s.w.add b).room : Int))).setCell ⟨w.heap.size, 2, none⟩ (.int .i64 ((s.w.add b).move : Int))) (.cells #[.int .i64 (s.num : Int), .int .i64 (s.off : Int), .string (str (lineT s b))] 49)
    have HL4 := Win.new3 (((x2.setCell ⟨w.heap.size, 0, none⟩ (.string (str []))).setCell ⟨w.heap.size, 1, none⟩ (.int .i64 ((s.w.add b).room : Int))).setCell ⟨w.heap.size, 2, none⟩ (.int .i64 ((s.w.add b).move : Int))) 49 (.int .i64 (s.num : Int)) (.int .i64 (s.off : Int)) (.string (str (lineT s b)))
    rw [hs3] at hal4 HL4
    have HB4 := HB3.keep hal4 (by omega)
    have HR4 := Blk9.keep ((hoth _ (by omega)).trans HR2) hal4 (by omega)
    have HL5 := Blk3.keep ((hoth _ (by omega)).trans HL2) hal4 (by omega)
    obtain ⟨c0, c1, c2, c3, c4, c5, c6, c7, c8⟩ := HB2.cells
    obtain ⟨d0, d1, d2, d3, d4, d5, d6, d7, d8⟩ := HR4.cells
    obtain ⟨g0, g1, g2⟩ := HL5.cells
    obtain ⟨l0, l1, l2⟩ := HL4.cells
    obtain ⟨m0, m1, m2, m3, m4, m5, m6, m7, m8⟩ := HB4.cells
    have fb := HB2.free
    have fb4 := HB4.free
    have fr := HR4.free
    obtain ⟨fl0, fl1, fl2⟩ := HL5.free
    have hyl : w.heap.size + 3 ≤ x2.heap.size := by omega
    have HB4h := Lib.hid HB4
    have HR4h := Lib.hid HR4
    have HL4h := Lib.hid HL4
    have HL5h := Lib.hid HL5
    have HBW : Hid (Below w.heap.size w ((((x2.setCell ⟨w.heap.size, 0, none⟩ (.string (str []))).setCell ⟨w.heap.size, 1, none⟩ (.int .i64 ((s.w.add b).room : Int))).setCell ⟨w.heap.size, 2, none⟩ (.int .i64 ((s.w.add b).move : Int))).alloc (.cells #[.int .i64 (s.num : Int), .int .i64 (s.off : Int), .string (str (lineT s b))] 49))) := Lib.hid ((((HBZ.out.setCell (Nat.le_refl _) _).setCell (Nat.le_refl _) _).setCell (Nat.le_refl _) _).alloc (by rw [hs3]; omega) _)
    have h4s : ((((x2.setCell ⟨w.heap.size, 0, none⟩ (.string (str []))).setCell ⟨w.heap.size, 1, none⟩ (.int .i64 ((s.w.add b).room : Int))).setCell ⟨w.heap.size, 2, none⟩ (.int .i64 ((s.w.add b).move : Int))).alloc (.cells #[.int .i64 (s.num : Int), .int .i64 (s.off : Int), .string (str (lineT s b))] 49)).heap.size = x2.heap.size + 1 := by simp
    have HS4 := Lib.hid h4s
    clear HB2 HR2 HL2 hlen hlen2 hys HB3 HB4 HR4 HL4 HL5 hoth hs3 hal4 h4s
    simp only [Nat.add_assoc, Nat.reduceAdd]
    go_wp2_with fail
    clear c0 c1 c2 c3 c4 c5 c6 c7 c8 d0 d1 d2 d3 d4 d5 d6 d7 d8 g0 g1 g2 l0 l1 l2 m0 m1 m2 m3 m4 m5 m6 m7 m8 fb fb4 fr fl0 fl1 fl2
    generalize ((((x2.setCell ⟨w.heap.size, 0, none⟩ (.string (str []))).setCell ⟨w.heap.size, 1, none⟩ (.int .i64 ((s.w.add b).room : Int))).setCell ⟨w.heap.size, 2, none⟩ (.int .i64 ((s.w.add b).move : Int))).alloc (.cells #[.int .i64 (s.num : Int), .int .i64 (s.off : Int), .string (str (lineT s b))] 49)) = z4 at *
    have HB6 : Blk9 ((z4.setCell ⟨w.heap.size, 4, none⟩ (.int .i64 ((s.num : Int) + 1))).setCell ⟨w.heap.size, 5, none⟩ (.int .i64 ((s.off : Int) + (((lineT s b).length : Int) + 1)))) w.heap.size 33 (.string (str [])) (.int .i64 ((s.w.add b).room : Int)) (.int .i64 ((s.w.add b).move : Int)) (.int .i64 (s.most : Int)) (.int .i64 ((s.num : Int) + 1)) (.int .i64 ((s.off : Int) + (((lineT s b).length : Int) + 1))) (.int .i64 (s.hunt : Int)) (.bool s.over) (.int .i64 (errOf s)) := by
      have h := HB4h.out
      unfold Blk9 at h ⊢
      rw [heap_set_same (heap_set_same h)]
      rfl
    have hoth : ∀ k, k ≠ w.heap.size → ((z4.setCell ⟨w.heap.size, 4, none⟩ (.int .i64 ((s.num : Int) + 1))).setCell ⟨w.heap.size, 5, none⟩ (.int .i64 ((s.off : Int) + (((lineT s b).length : Int) + 1)))).heap[k]? = z4.heap[k]? := fun k hk => (Below.heap_setCell _ _ _ _ hk).trans (Below.heap_setCell _ _ _ _ hk)
    have HR6 : Blk9 _ _ _ _ _ _ _ _ _ _ _ _ := (hoth (w.heap.size + 1) (by omega)).trans HR4h.out
    have HL6 : Blk3 _ _ _ _ _ _ := (hoth x2.heap.size (by omega)).trans HL4h.out
    have HL7 : Blk3 _ _ _ _ _ _ := (hoth (w.heap.size + 2) (by omega)).trans HL5h.out
    have HBW6 := Lib.hid ((HBW.out.setCell (p := ⟨w.heap.size, 4, none⟩) (Nat.le_refl _) (.int .i64 ((s.num : Int) + 1))).setCell (p := ⟨w.heap.size, 5, none⟩) (Nat.le_refl _) (.int .i64 ((s.off : Int) + (((lineT s b).length : Int) + 1))))
    clear hoth HB4h HR4h HL4h HL5h HBW
    generalize ((z4.setCell ⟨w.heap.size, 4, none⟩ (.int .i64 ((s.num : Int) + 1))).setCell ⟨w.heap.size, 5, none⟩ (.int .i64 ((s.off : Int) + (((lineT s b).length : Int) + 1)))) = z at *
    obtain ⟨c0, c1, c2, c3, c4, c5, c6, c7, c8⟩ := HB6.cells
    obtain ⟨d0, d1, d2, d3, d4, d5, d6, d7, d8⟩ := HR6.cells
    obtain ⟨g0, g1, g2⟩ := HL7.cells
    obtain ⟨l0, l1, l2⟩ := HL6.cells
    have fr := HR6.free
    obtain ⟨fl0, fl1, fl2⟩ := HL7.free
    have nx1 : ¬ (x2.heap.size = w.heap.size + 1) := by omega
    have nx2 : ¬ (w.heap.size + 1 = x2.heap.size) := by omega
    have nx3 : ¬ (x2.heap.size = w.heap.size + 2) := by omega
    have nx4 : ¬ (w.heap.size + 2 = x2.heap.size) := by omega
    go_region
    go_wp2_with fail
    have hln : (s.line b).w = (s.w.add b).clear := by unfold St.line; simp only; rw [if_neg HE.out]
    have e1 : ((s.line b).num : Int) = (s.num : Int) + 1 := Int.natCast_succ _
    have e2 : ((s.line b).off : Int) = (s.off : Int) + (((lineT s b).length : Int) + 1) := by
      show (((s.off + (lineT s b).length + 1 : Nat)) : Int) = _
      omega
    refine bodyPost_ret (v := .tuple #[rv (s.line b), rl (s.told b)]) (by simp [results, Try.results32, go_sem, hln, e1, e2, d0, d1, d2, d3, d4, d5, d6, d7, d8, g0, g1, g2]; repeat' (first | apply And.intro | rfl)) rfl ⟨rfl, below_drews ?_ 1⟩
    iterate 12 (with_reducible refine Below.setCell ?_ (by simp) _)
    exact HBW6.out
end Go.Proofs.Ytcekifknbljbiaa.Str
