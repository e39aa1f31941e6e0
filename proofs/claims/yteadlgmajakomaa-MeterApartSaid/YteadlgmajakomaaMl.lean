/- At and Read, whether there is such a byte or not; two meters side by side. -/
import Derived.Test.YteadlgmajakomaaMi
namespace Go.Proofs.Yteadlgmajakomaa
open Go.RowKit Go.Maps

/-- Is there such a byte? -/
def inb (l : List UInt8) (i : Int) : Bool := decide (0 ≤ i ∧ i < (l.length : Int))
def cnt (l : List UInt8) (i : Int) : Int := if inb l i = true then 1 else 0
theorem cnt_bd (l : List UInt8) (i : Int) : 0 ≤ cnt l i ∧ cnt l i ≤ 1 := by unfold cnt; split <;> omega
/-- A byte as a number, or -1; or 0. -/
def atv (l : List UInt8) (i : Int) : Int := if inb l i = true then ((l.getD i.toNat 0).toNat : Int) else -1
def rdv (l : List UInt8) (i : Int) : Int := if inb l i = true then ((l.getD i.toNat 0).toNat : Int) else 0
theorem at_any (w : World) (s t : Nat) (p : Option Addr) (l : List UInt8) (h : Tx w s t p l) (i : Int) (hl : l.length ≤ 1000000000000) (a b c d : Int) (hM : Mt w p a b c d) (ha : 0 ≤ a ∧ a ≤ 1000000000000) (hb : 0 ≤ b ∧ b ≤ 1000000000000) (hc : 0 ≤ c ∧ c ≤ 1000000000000) (hd : 0 ≤ d ∧ d ≤ 1000000000000) :
    Calls Try.prog 11 #[.pointer (some ⟨t, 0, none⟩), .int .i64 i] w (Adds w p (a + cnt l i) b c d (.int .i64 (atv l i))) := by
  by_cases hi : 0 ≤ i ∧ i < (l.length : Int)
  · obtain ⟨n, rfl⟩ : ∃ n : Nat, i = n := ⟨i.toNat, by omega⟩
    have hn : n < l.length := by omega
    have e1 : inb l n = true := decide_eq_true hi
    have e2 : cnt l n = 1 := by simp [cnt, e1]
    have e3 : atv l n = (l[n].toNat : Int) := by simp [atv, e1, hn]
    rw [e2, e3]
    exact at_in w s t p l h n hn hl a b c d hM ha hb hc hd
  · have e1 : inb l i = false := decide_eq_false hi
    have e2 : cnt l i = 0 := by simp [cnt, e1]
    have e3 : atv l i = -1 := by simp [atv, e1]
    rw [e2, e3, Int.add_zero]
    refine (at_out w s t p l h i (by omega)).mono ?_
    rintro e w' ⟨rfl, rfl⟩
    exact ⟨rfl, hM, World.grownBy.refl w _⟩
theorem read_any (w : World) (p : Option Addr) (l : List UInt8) (A : Option Addr) (cap : Nat) (hB : Bs w w.heap.size A l) (i : Int) (hl : l.length ≤ 1000000000000) (a b c d : Int) (hM : Mt w p a b c d) (ha : 0 ≤ a ∧ a ≤ 1000000000000) (hb : 0 ≤ b ∧ b ≤ 1000000000000) (hc : 0 ≤ c ∧ c ≤ 1000000000000) (hd : 0 ≤ d ∧ d ≤ 1000000000000) :
    Calls Try.prog 19 #[.pointer p, .slice A l.length cap, .int .i64 i] w (Adds w p a b (c + cnt l i) d (.tuple #[.int .u8 (rdv l i), .bool (inb l i)])) := by
  by_cases hi : 0 ≤ i ∧ i < (l.length : Int)
  · obtain ⟨n, rfl⟩ : ∃ n : Nat, i = n := ⟨i.toNat, by omega⟩
    have hn : n < l.length := by omega
    have e1 : inb l n = true := decide_eq_true hi
    have e2 : cnt l n = 1 := by simp [cnt, e1]
    have e3 : rdv l n = (l[n].toNat : Int) := by simp [rdv, e1, hn]
    rw [e1, e2, e3]
    exact read_in w p l A cap hB n hn hl a b c d hM ha hb hc hd
  · have e1 : inb l i = false := decide_eq_false hi
    have e2 : cnt l i = 0 := by simp [cnt, e1]
    have e3 : rdv l i = 0 := by simp [rdv, e1]
    rw [e1, e2, e3, Int.add_zero]
    refine (read_out w p l A cap i (by omega)).mono ?_
    rintro e w' ⟨rfl, rfl⟩
    exact ⟨rfl, hM, World.grownBy.refl w _⟩
theorem below_none {w w' : World} (h : w.grownBy w' (blk none)) : Below w.heap.size w w' := ⟨h.os, h.tape, h.output, h.size, fun k hk => h.block k hk (by intro e; cases e)⟩
theorem none_mt (w : World) : Mt w none 0 0 0 0 := Or.inl rfl
abbrev ptr (g : Nat) : Option Addr := some ⟨g, 0, none⟩
/-- Two meters, and what was there before. -/
def St (W : World) (M O : Nat) (w : World) (s l h m : Int) (s' : Int) : Prop := Below W.heap.size W w ∧ Mt w (ptr M) s l h m ∧ Mt w (ptr O) s' 0 0 0
theorem St.keep {W : World} {M O : Nat} {w w' : World} {s l h m s' : Int} (H : St W M O w s l h m s') (hb : Below w.heap.size w w') : St W M O w' s l h m s' :=
  ⟨H.1.trans (hb.mono H.1.size), H.2.1.keep hb, H.2.2.keep hb⟩
theorem St.drew {W : World} {M O : Nat} {w : World} {s l h m s' : Int} (H : St W M O w s l h m s') : St W M O w.drew s l h m s' := ⟨H.1.drew, H.2.1, H.2.2⟩
theorem St.addM {W : World} {M O : Nat} {w w' : World} {s l h m s' s2 l2 h2 m2 : Int} (H : St W M O w s l h m s') (hM : Mt w' (ptr M) s2 l2 h2 m2) (hg : w.grownBy w' (blk (ptr M))) (hne : M ≠ O) (hW : W.heap.size ≤ M) : St W M O w' s2 l2 h2 m2 s' :=
  ⟨below_adds H.1 hg hW (Nat.le_refl _), hM, H.2.2.same fun k hk => hg.block k (H.2.2.lt hk) (fun e => by
    have e1 : some k = some O := hk
    have e2 : some k = some M := e
    rw [e1] at e2
    injection e2 with e2
    exact hne e2.symm)⟩
theorem St.addO {W : World} {M O : Nat} {w w' : World} {s l h m s' s2 : Int} (H : St W M O w s l h m s') (hM : Mt w' (ptr O) s2 0 0 0) (hg : w.grownBy w' (blk (ptr O))) (hne : M ≠ O) (hW : W.heap.size ≤ O) : St W M O w' s l h m s2 :=
  ⟨below_adds H.1 hg hW (Nat.le_refl _), H.2.1.same (fun k hk => hg.block k (H.2.1.lt hk) (fun e => by
    have e1 : some k = some M := hk
    have e2 : some k = some O := e
    rw [e1] at e2
    injection e2 with e2
    exact hne e2)), hM⟩
theorem Mt.bytes {w w' : World} {p : Option Addr} {s l h m : Int} (hM : Mt w p s l h m) {r : Option Nat} (hr : ∀ k, r = some k → ∃ cs fr, w.heap[k]? = some (.cells cs 5 fr)) (hg : w.grownBy w' r) : Mt w' p s l h m :=
  hM.same fun k hk => hg.block k (hM.lt hk) (fun e => by obtain ⟨cs, fr, hh⟩ := hr k e.symm; exact hM.not hh (by decide) hk)
theorem St.bytes {W : World} {M O base : Nat} {w w' : World} {s l h m s' : Int} (H : St W M O w s l h m s') {r : Option Nat} (hr : ∀ k, r = some k → base ≤ k ∧ ∃ cs fr, w.heap[k]? = some (.cells cs 5 fr)) (hg : w.grownBy w' r) (hW : W.heap.size ≤ base) : St W M O w' s l h m s' :=
  ⟨H.1.grown hg H.1.size (fun k hk => Nat.le_trans hW (hr k hk).1), H.2.1.bytes (fun k hk => (hr k hk).2) hg, H.2.2.bytes (fun k hk => (hr k hk).2) hg⟩
end Go.Proofs.Yteadlgmajakomaa
