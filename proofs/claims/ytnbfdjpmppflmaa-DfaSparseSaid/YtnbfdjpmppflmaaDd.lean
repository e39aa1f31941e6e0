/- The contract of fill. -/
import Derived.Test.YtnbfdjpmppflmaaDc
namespace Go.Proofs.Ytnbfdjpmppflmaa.Dfa
open Go.RowKit Go.Maps Go.Proofs.Ytnbfdjpmppflmaa.Tri Go.Proofs.Ytnbfdjpmppflmaa.Lnk Go.Proofs.Ytnbfdjpmppflmaa.Reg
set_option maxRecDepth 100000

/-- A call that hands out numbers in a row of its own. -/
def GivesOwn (w : World) (l : List Int) (e : Ending) (w' : World) : Prop := ∃ v, e = .returned v ∧ w'.ownsRow w.heap.size 3 1 v l.length (Lnk.ivals l) ∧ Below w.heap.size w w'
set_option maxHeartbeats 2000000 in
theorem iclone_own (l : List Int) (ad : Addr) (cap : Nat) (w : World) (hl : l.length ≤ 1000000) (hb : Is w w.heap.size (some ad) l) :
    Calls Try.prog 64 #[.slice (some ad) l.length cap] w (GivesOwn w l) := by
  have q32 := Lnk.eql_nil32
  have HB := Lib.hid (hb.keep ((Below.refl _ w).alloc (Nat.le_refl _) (.cells #[] 3)))
  clear hb
  go_enter Try.func64, Try.ntmps64
  go_wp2_with (at_builtin; refine app_isl rfl _ _ rfl w.heap.size _ 0 [] rfl (World.ownsRow_made w #[] 0 (Nat.le_refl _) (Nat.zero_le _) rfl) (some ad) l cap w.heap.size rfl HB.out (fun e => by cases e) (by omega) (by simp) ?_; intro v' w1 hown hgrow)
  rw [List.nil_append, Nat.zero_add] at hown
  go_ret
  exact ⟨_, rfl, hown, ((Below.refl _ w).alloc (Nat.le_refl _) _).grown hgrow (by simp) (fun k hk => own_ge (World.ownsRow_made (base := w.heap.size) (e := 3) (size := 1) w #[] 0 (Nat.le_refl _) (Nat.zero_le _) rfl) hk)⟩
set_option maxHeartbeats 1000000 in
theorem order_own (w : World) (s t : Nat) (ps l : List Tx) (h : Li w s t ps l) : Calls Try.prog 59 #[.pointer (some ⟨t, 0, none⟩)] w (GivesOwn w (ordN ps)) := by
  obtain ⟨hw, hl, hn, h0, g, cap, vo, h1, h2, h3⟩ := h
  obtain ⟨a, c, rfl, hi, hnil⟩ := own_is h3
  have hpos : 0 < (ordN ps).length := by rw [ordN_len hw]; exact hw.pos
  have HN := Lib.hid hpos
  obtain ⟨b, off, rfl, _⟩ := hi hpos
  have HC := Lib.hid (iclone_own (ordN ps) _ c w (by rw [ordN_len hw]; omega) hi)
  obtain ⟨c0, c1⟩ := h1.cells
  have ht := h1.lt
  have e : ((ord ps).map (place ps)).length = (ordN ps).length := rfl
  rw [e] at c1
  generalize ordN ps = o at *
  clear h1 h2 h3 hw hl e hi hpos
  go_enter Try.func59, Try.ntmps59
  go_wp2_with (go_at_call 64; (with_reducible refine HC.out.mono ?_); rintro e w1 ⟨v1, rfl, ho1, hb1⟩)
  go_ret
  exact ⟨_, rfl, ho1, hb1⟩
/-- All blocks but one stay. -/
def Km (g : Nat) (w w' : World) : Prop := w.heap.size ≤ w'.heap.size ∧ ∀ b, b < w.heap.size → b ≠ g → w'.heap[b]? = w.heap[b]?
theorem Km.refl (g : Nat) (w : World) : Km g w w := ⟨Nat.le_refl _, fun _ _ _ => rfl⟩
theorem Km.trans {g : Nat} {a b c : World} (h : Km g a b) (k : Km g b c) : Km g a c :=
  ⟨Nat.le_trans h.1 k.1, fun i hi hg => (k.2 i (Nat.lt_of_lt_of_le hi h.1) hg).trans (h.2 i hi hg)⟩
theorem Km.of_below {g : Nat} {w w' : World} (h : Below w.heap.size w w') : Km g w w' := ⟨h.size, fun b hb _ => h.block b hb⟩
theorem Km.set (w : World) (g i : Nat) (v : Value) : Km g w (w.setCell ⟨g, i, none⟩ v) := ⟨by simp, fun b _ hb => Below.heap_setCell w ⟨g, i, none⟩ v b hb⟩
theorem Km.row (w : World) (g : Nat) (cs : Array Value) : Km g w (w.setRow g cs) := ⟨by simp, fun b _ hb => setRow_other w g b cs hb⟩
theorem Km.own {g : Nat} {w w' : World} (h : Km g w w') {base e size n : Nat} {v : Value} {xs : List Value} (ho : w.ownsRow base e size v n xs) (hg : g < base) : w'.ownsRow base e size v n xs :=
  own_far_block ho fun k hk => by
    obtain ⟨h1, h2, _⟩ := own_block_lt ho hk
    exact h.2 k h2 (by omega)
theorem Km.txt {g : Nat} {w w' : World} (h : Km g w w') {cs : Array Value} (hg : w.heap[g]? = some (.cells cs 3 (0, 0))) {s : Nat} {a : Option Addr} {l : List UInt8} (ht : Txt w s a l) : Txt w' s a l := fun h0 => by
  obtain ⟨b, cs', e, hs, hh, hc⟩ := ht h0
  refine ⟨b, cs', e, hs, (h.2 b (txt_lt hh) fun q => ?_).trans hh, hc⟩
  subst q
  rw [hg] at hh
  simp at hh
/-- The table while it is filled. -/
def Fl (w0 : World) (t g : Nat) (a b : Option Addr) (cs : Array Value) (n wd : Nat) (F : Nat → Nat → Int) (w : World) : Prop :=
  Below w0.heap.size w0 w ∧ w0.heap.size ≤ g ∧ Bd w t a b cs (wd : Int) (.slice (some ⟨g, 0, none⟩) (n * wd) (n * wd)) ∧ w.heap[g]? = some (.cells (Cls.icells (tabF F n wd)) 3 (0, 0))
theorem Fl.keep {w0 w w' : World} {t g : Nat} {a b : Option Addr} {cs : Array Value} {n wd : Nat} {F : Nat → Nat → Int} (h : Fl w0 t g a b cs n wd F w) (hb : Below w.heap.size w w') : Fl w0 t g a b cs n wd F w' :=
  ⟨h.1.trans (hb.mono h.1.size), h.2.1, h.2.2.1.keep hb, (hb.block g (txt_lt h.2.2.2)).trans h.2.2.2⟩
theorem Fl.cell {w0 w : World} {t g : Nat} {a b : Option Addr} {cs : Array Value} {n wd : Nat} {F : Nat → Nat → Int} (h : Fl w0 t g a b cs n wd F w) {i k : Nat} (hi : i < n) (hk : k < wd) : w.cell? ⟨g, i * wd + k, none⟩ = some (.int .i64 (F i k)) := by
  rw [cell_of_row w g _ _ _ _ h.2.2.2]
  have e := tabF_at F hi hk
  obtain ⟨h1, h2⟩ := List.getElem?_eq_some_iff.1 e
  rw [Cls.icells_at _ _ h1, h2]
theorem Fl.ne {w0 w : World} {t g : Nat} {a b : Option Addr} {cs : Array Value} {n wd : Nat} {F : Nat → Nat → Int} (h : Fl w0 t g a b cs n wd F w) : t ≠ g := fun e => by
  subst e
  obtain ⟨cells, h1, _⟩ := h.2.2.1
  rw [h.2.2.2] at h1
  simp at h1
theorem Fl.free {w0 w : World} {t g : Nat} {a b : Option Addr} {cs : Array Value} {n wd : Nat} {F : Nat → Nat → Int} (h : Fl w0 t g a b cs n wd F w) (i : Nat) : w.frozen? ⟨g, i, none⟩ = false := frozen_of_row w g i _ 3 h.2.2.2
theorem Fl.set {w0 w : World} {t g : Nat} {a b : Option Addr} {cs : Array Value} {n wd : Nat} {F : Nat → Nat → Int} {i : Nat} {R : Nat → Int} (h : Fl w0 t g a b cs n wd (putRow F i R) w) {k : Nat} (hk : k < wd) (x : Int) : Fl w0 t g a b cs n wd (putRow F i fun k' => if k' = k then x else R k') (w.setCell ⟨g, i * wd + k, none⟩ (.int .i64 x)) := by
  refine ⟨h.1.setCell (p := ⟨g, i * wd + k, none⟩) h.2.1 _, h.2.1, h.2.2.1.same (Below.heap_setCell w ⟨g, i * wd + k, none⟩ _ t h.ne), ?_⟩
  rw [heap_setCell_same w g (i * wd + k) _ 3 _ h.2.2.2, Cls.icells_set, tabF_set F R x hk]
theorem Fl.copy {w0 w : World} {t g : Nat} {a b : Option Addr} {cs : Array Value} {n wd : Nat} {F : Nat → Nat → Int} (h : Fl w0 t g a b cs n wd F w) {i : Nat} (hi : i < n) (R : Nat → Int) : Fl w0 t g a b cs n wd (putRow F i R) (w.setRow g ((Cls.icells (tabF F n wd)).toList.take (i * wd) ++ (Cls.ivals ((List.range wd).map R) ++ (Cls.icells (tabF F n wd)).toList.drop (i * wd + wd))).toArray) := by
  refine ⟨below_setRow h.1 h.2.1 _, h.2.1, h.2.2.1.same (setRow_other w g t _ h.ne), ?_⟩
  rw [setRow_heap w g _ _ 3 _ h.2.2.2, ← tabF_splice F R hi]
  simp [Cls.icells, Cls.ivals, List.map_append, List.map_take, List.map_drop]
theorem Fl.congr {w0 w : World} {t g : Nat} {a b : Option Addr} {cs : Array Value} {n wd : Nat} {F G : Nat → Nat → Int} (h : Fl w0 t g a b cs n wd F w) (e : tabF F n wd = tabF G n wd) : Fl w0 t g a b cs n wd G w :=
  ⟨h.1, h.2.1, h.2.2.1, by rw [← e]; exact h.2.2.2⟩
/-- 'kids[1:]': where it begins plays no part behind its end. -/
theorem size5 : ∀ w, (Go.sizeOf 5).run Try.prog w = .ok 1 w := fun w => by
  have hsz : (Try.prog.info? 5).map (·.size) = some 1 := by kernel_rfl
  cases hq : Try.prog.info? 5 with
  | none => rw [hq] at hsz; cases hsz
  | some i =>
    rw [hq] at hsz
    have hz : i.size = 1 := Option.some.inj hsz
    simp [Go.sizeOf, typeInfo, hq, hz]
theorem run_cut1 (b o n c : Nat) (h : 1 ≤ n) (hc : n ≤ c) : ∃ A, (∀ W, (Instr.slice 23 (.slice (some ⟨b, o, none⟩) n c) (some (.int .i64 1)) none none).run Try.prog W = .ok (.slice (some A) (n - 1) (c - 1)) W) ∧ (1 < n → A = ⟨b, o + 1, none⟩) := by
  have ht : Try.prog.underlying 23 = some (.slice 5) := by kernel_rfl
  have ht' : Try.prog.underlying 23 = some (.slice (Try.prog.elem 23)) := by simp [Program.elem, ht]
  have he : Try.prog.elem 23 = 5 := by simp [Program.elem, ht]
  refine ⟨if c = 1 then ⟨b, o, none⟩ else ⟨b, o + 1, none⟩, fun W => ?_, fun h1 => if_neg (by omega)⟩
  rw [run_slice_l W 23 _ _ _ ht' .i64 _ (by omega) (by omega), he, size5]
  by_cases h0 : c = 1
  · subst h0
    simp [Result.andThen, sliced]
  · simp [Result.andThen, sliced, Addr.add, h0]
/-- What is left of the kids. -/
def Cut (b m j : Nat) (v : Value) : Prop := ∃ A c, v = .slice A (m - j) c ∧ m - j ≤ c ∧ (j < m → A = some ⟨b, j, none⟩)
end Go.Proofs.Ytnbfdjpmppflmaa.Dfa
