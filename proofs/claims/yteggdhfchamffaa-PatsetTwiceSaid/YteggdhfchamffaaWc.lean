/- Contracts of lines.at, lines.All. -/
import Derived.Test.YteggdhfchamffaaWb
namespace Go.Proofs.Yteggdhfchamffaa
open Go.RowKit

/-- A line's value. -/
def lnv (x : Ln) (a : Option Addr) (cap : Nat) : Value := .agg #[.int .i64 (x.off : Int), .slice a x.text.length cap, .bool x.ends]
def GivesLine (w : World) (x : Ln) (e : Ending) (w' : World) : Prop :=
  ∃ a cap, e = .returned (lnv x a cap) ∧ Txt w' w.heap.size a x.text ∧ (a = none → cap = 0) ∧ Below w.heap.size w w'

theorem drop_cells {w : World} {l : List UInt8} {b o : Nat} (off : Nat) (hc : ∀ i (h : i < l.length), w.cell? ⟨b, o + i, none⟩ = some (.int .u8 (l[i].toNat : Int))) :
    ∀ i (h : i < (l.drop off).length), w.cell? ⟨b, o + off + i, none⟩ = some (.int .u8 ((l.drop off)[i].toNat : Int)) := fun i h => by
  have h' : off + i < l.length := by simp at h; omega
  rw [List.getElem_drop, ← hc (off + i) h', Nat.add_assoc]
theorem take_cells {w : World} {l : List UInt8} {b o : Nat} (k : Nat) (hc : ∀ i (h : i < l.length), w.cell? ⟨b, o + i, none⟩ = some (.int .u8 (l[i].toNat : Int))) :
    ∀ i (h : i < (l.take k).length), w.cell? ⟨b, o + i, none⟩ = some (.int .u8 ((l.take k)[i].toNat : Int)) := fun i h => by
  have h' : i < l.length := by simp at h; omega
  rw [List.getElem_take]
  exact hc i h'
theorem index_n (l : List UInt8) (b off cap n : Nat) (r : Int) (w : World) (hn : l.length = n) (hr : Lib.indexByte l 10 = r) (hc : ∀ i (h : i < l.length), w.cell? ⟨b, off + i, none⟩ = some (.int .u8 (l[i].toNat : Int))) :
    Calls Try.prog 34 #[.slice (some ⟨b, off, none⟩) n cap, .int .u8 10] w fun e w' => e = .returned (.int .i64 r) ∧ w = w' := by
  subst hn hr; exact index_any l b off cap w hc
theorem clone_n (l : List UInt8) (b off cap n : Nat) (w : World) (hn : l.length = n) (hl : l.length ≤ 1000000000000) (hb : b < w.heap.size) (hc : ∀ i (h : i < l.length), w.cell? ⟨b, off + i, none⟩ = some (.int .u8 (l[i].toNat : Int))) :
    Calls Try.prog 30 #[.slice (some ⟨b, off, none⟩) n cap] w (GivesText w l) := by
  subst hn; exact clone_any l _ cap w hl fun _ => ⟨b, off, rfl, hb, hc⟩

set_option maxHeartbeats 2000000 in
theorem at_found (l x : List UInt8) (b o cap off k : Nat) (w : World) (hl : l.length ≤ 1000000000000) (hcap : l.length ≤ cap) (hoff : off < l.length)
    (hbb : b < w.heap.size) (hc : ∀ i (h : i < l.length), w.cell? ⟨b, o + i, none⟩ = some (.int .u8 (l[i].toNat : Int))) (hk : Lib.indexByte (l.drop off) 10 = (k : Int)) (hx : x = (l.drop off).take k) (hkl : k ≤ l.length - off) :
    Calls Try.prog 32 #[.slice (some ⟨b, o, none⟩) l.length cap, .int .i64 (off : Int)] w (GivesLine w ⟨off, x, true⟩) := by
  have hdl : (l.drop off).length = l.length - off := List.length_drop
  have hbel : Below w.heap.size w (w.alloc (.cells #[.int .i64 0, .slice none 0 0, .bool false] 61)) := (Below.refl _ _).alloc (Nat.le_refl _) _
  have hc1 : ∀ i (h : i < l.length), (w.alloc (.cells #[.int .i64 0, .slice none 0 0, .bool false] 61)).cell? ⟨b, o + i, none⟩ = some (.int .u8 (l[i].toNat : Int)) := fun i h => (hbel.cell (p := ⟨b, o + i, none⟩) hbb).trans (hc i h)
  have hxl : x.length = k := by rw [hx]; simp; omega
  have ht := take_cells k (drop_cells off hc1)
  rw [← hx] at ht
  have HD := Lib.hid (drop_cells off hc1)
  have HT := Lib.hid ht
  have HK := Lib.hid hk
  have HDL := Lib.hid hdl
  have HTL := Lib.hid hxl
  clear hc hc1 hk hdl ht hxl hx
  go_enter Try.func32, Try.ntmps32
  go_wp2_with fail
  refine (index_n (l.drop off) b (o + off) (cap - off) (l.length - off) (k : Int) _ HDL.out HK.out HD.out).mono ?_
  rintro e w' ⟨rfl, rfl⟩
  go_wp2_with fail
  refine (clone_n x b (o + off) (cap - off) (k) _ HTL.out (by rw [HTL.out]; omega) (by simp; omega) HT.out).mono ?_
  rintro e w1 ⟨a1, cap1, rfl, ht1, hlc1, hnc1, hb1⟩
  have hbk : Blk3 (w.alloc (.cells #[.int .i64 0, .slice none 0 0, .bool false] 61)) w.heap.size 61 (.int .i64 0) (.slice none 0 0) (.bool false) := new_cells _ _ _ _ _
  have hbk1 := hbk.keep hb1 (by simp)
  obtain ⟨c0, c1, c2⟩ := hbk1.cells
  obtain ⟨f0, f1, f2⟩ := hbk1.free
  go_wp2
  refine bodyPost_ret (v := lnv ⟨off, x, true⟩ a1 cap1) ?_ rfl ⟨a1, cap1, rfl, Txt.less (s := w.heap.size + 1) (Txt.put3 (by simpa using ht1) (by omega)) (by omega), hnc1, below_put3 (hbel.trans (hb1.mono (by simp))) (Nat.le_refl _) _ _ _⟩
  obtain ⟨e0, e1, e2⟩ := (hbk1.put (.int .i64 (off : Int)) (.slice a1 x.length cap1) (.bool true)).cells
  unfold put3 at e0 e1 e2
  simp [results, Try.results32, go_sem, lnv, e0, e1, e2]
set_option maxHeartbeats 2000000 in
theorem at_none (l x : List UInt8) (b o cap off k : Nat) (w : World) (hl : l.length ≤ 1000000000000) (hcap : l.length ≤ cap) (hoff : off < l.length)
    (hbb : b < w.heap.size) (hc : ∀ i (h : i < l.length), w.cell? ⟨b, o + i, none⟩ = some (.int .u8 (l[i].toNat : Int))) (hk : Lib.indexByte (l.drop off) 10 = -1) (hkk : k = l.length - off) (hx : x = (l.drop off).take k) (_hkl : k ≤ l.length - off) :
    Calls Try.prog 32 #[.slice (some ⟨b, o, none⟩) l.length cap, .int .i64 (off : Int)] w (GivesLine w ⟨off, x, false⟩) := by
  have hdl : (l.drop off).length = l.length - off := List.length_drop
  have hbel : Below w.heap.size w (w.alloc (.cells #[.int .i64 0, .slice none 0 0, .bool false] 61)) := (Below.refl _ _).alloc (Nat.le_refl _) _
  have hc1 : ∀ i (h : i < l.length), (w.alloc (.cells #[.int .i64 0, .slice none 0 0, .bool false] 61)).cell? ⟨b, o + i, none⟩ = some (.int .u8 (l[i].toNat : Int)) := fun i h => (hbel.cell (p := ⟨b, o + i, none⟩) hbb).trans (hc i h)
  have hxl : x.length = l.length - off := by rw [hx]; simp; omega
  have ht := take_cells k (drop_cells off hc1)
  rw [← hx] at ht
  have HD := Lib.hid (drop_cells off hc1)
  have HT := Lib.hid ht
  have HK := Lib.hid hk
  have HDL := Lib.hid hdl
  have HTL := Lib.hid hxl
  clear hc hc1 hk hdl ht hxl hx hkk _hkl
  go_enter Try.func32, Try.ntmps32
  go_wp2_with fail
  refine (index_n (l.drop off) b (o + off) (cap - off) (l.length - off) (-1) _ HDL.out HK.out HD.out).mono ?_
  rintro e w' ⟨rfl, rfl⟩
  go_wp2_with fail
  refine (clone_n x b (o + off) (cap - off) (l.length - off) _ HTL.out (by rw [HTL.out]; omega) (by simp; omega) HT.out).mono ?_
  rintro e w1 ⟨a1, cap1, rfl, ht1, hlc1, hnc1, hb1⟩
  have hbk : Blk3 (w.alloc (.cells #[.int .i64 0, .slice none 0 0, .bool false] 61)) w.heap.size 61 (.int .i64 0) (.slice none 0 0) (.bool false) := new_cells _ _ _ _ _
  have hbk1 := hbk.keep hb1 (by simp)
  obtain ⟨c0, c1, c2⟩ := hbk1.cells
  obtain ⟨f0, f1, f2⟩ := hbk1.free
  go_wp2
  refine bodyPost_ret (v := lnv ⟨off, x, false⟩ a1 cap1) ?_ rfl ⟨a1, cap1, rfl, Txt.less (s := w.heap.size + 1) (Txt.put3 (by simpa using ht1) (by omega)) (by omega), hnc1, below_put3 (hbel.trans (hb1.mono (by simp))) (Nat.le_refl _) _ _ _⟩
  obtain ⟨e0, e1, e2⟩ := (hbk1.put (.int .i64 (off : Int)) (.slice a1 x.length cap1) (.bool false)).cells
  unfold put3 at e0 e1 e2
  simp [results, Try.results32, go_sem, lnv, e0, e1, e2]

/-- What stands behind off is a line and the rest. -/
theorem at_any (l : List UInt8) (b o cap off : Nat) (w : World) (hl : l.length ≤ 1000000000000) (hcap : l.length ≤ cap) (hoff : off < l.length)
    (hbb : b < w.heap.size) (hc : ∀ i (h : i < l.length), w.cell? ⟨b, o + i, none⟩ = some (.int .u8 (l[i].toNat : Int))) :
    ∃ x : Ln, Calls Try.prog 32 #[.slice (some ⟨b, o, none⟩) l.length cap, .int .i64 (off : Int)] w (GivesLine w x) ∧ x.off = off ∧ off + x.text.length ≤ l.length ∧
      goes off [] (l.drop off) = x :: goes (off + x.text.length + 1) [] (l.drop (off + x.text.length + 1)) := by
  have h0 : l.drop off ≠ [] := by intro e; have := congrArg List.length e; simp at this; omega
  have hge := Lib.indexByte_ge (l.drop off) 10
  by_cases hn : Lib.indexByte (l.drop off) 10 = -1
  · refine ⟨⟨off, l.drop off, false⟩, at_none l (l.drop off) b o cap off (l.length - off) w hl hcap hoff hbb hc hn rfl ?_ (Nat.le_refl _), rfl, ?_, ?_⟩
    · rw [List.take_of_length_le (by simp)]
    · simp; omega
    · rw [goes_none off _ hn h0]
      have e : l.drop (off + (l.drop off).length + 1) = [] := List.drop_of_length_le (by simp; omega)
      show _ = _ :: goes _ _ (l.drop (off + (l.drop off).length + 1))
      rw [e, goes_end]
  · obtain ⟨k, hk⟩ : ∃ k : Nat, Lib.indexByte (l.drop off) 10 = (k : Int) := ⟨(Lib.indexByte (l.drop off) 10).toNat, by omega⟩
    obtain ⟨hlt, hg⟩ := goes_found off k _ hk
    have hlt' : k < l.length - off := by simpa using hlt
    have hxl : ((l.drop off).take k).length = k := by simp; omega
    refine ⟨⟨off, (l.drop off).take k, true⟩, at_found l _ b o cap off k w hl hcap hoff hbb hc hk rfl (by omega), rfl, ?_, ?_⟩
    · show off + ((l.drop off).take k).length ≤ _
      rw [hxl]; omega
    · show _ = _ :: goes (off + ((l.drop off).take k).length + 1) [] (l.drop (off + ((l.drop off).take k).length + 1))
      rw [hxl, hg, List.drop_drop]
      rfl

/-- A call that hands out an iterator: a box with a text of the call's own. -/
def GivesAll (w : World) (l : List UInt8) (e : Ending) (w' : World) : Prop :=
  ∃ g a cap, e = .returned (.func (.func 31) #[] #[.pointer (some ⟨g, 0, none⟩)]) ∧ w.heap.size ≤ g ∧ w'.heap[g]? = some (.cells #[.slice a l.length cap] 22 (0, 0)) ∧
    Txt w' w.heap.size a l ∧ l.length ≤ cap ∧ Below w.heap.size w w'
set_option maxHeartbeats 2000000 in
theorem all_any (l : List UInt8) (a : Option Addr) (cap : Nat) (w : World) (hl : l.length ≤ 1000000000000) (hb : Bs w w.heap.size a l) :
    Calls Try.prog 28 #[.slice a l.length cap] w (GivesAll w l) := by
  go_enter Try.func28, Try.ntmps28
  go_wp2_with fail
  refine (clone_any l a cap _ hl hb).mono ?_
  rintro e w1 ⟨a1, cap1, rfl, ht1, hlc1, hnc1, hb1⟩
  go_wp2
  go_ret
  refine ⟨w1.heap.size, a1, cap1, rfl, hb1.size, heap_alloc_new w1 _, ht1.keep ((Below.refl _ _).alloc (Nat.le_refl _) _), hlc1, hb1.alloc hb1.size _⟩
end Go.Proofs.Yteggdhfchamffaa
