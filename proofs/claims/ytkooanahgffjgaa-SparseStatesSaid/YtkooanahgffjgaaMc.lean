/- The contracts of Read and Copy. -/
import Derived.Test.YtkooanahgffjgaaMb
import Derived.Laws.CopyOwn
namespace Go.Proofs.Ytkooanahgffjgaa.Met
open Go.RowKit
set_option maxRecDepth 100000

/-- The meter's block holds no byte. -/
theorem Mt.byte {w : World} {p : Option Addr} {s l h m : Int} (hM : Mt w p s l h m) {k o : Nat} {x : Int} (hk : w.cell? ⟨k, o, none⟩ = some (.int .u8 x)) : some k ≠ blk p := by
  rcases hM with rfl | ⟨g, rfl, hM⟩
  · intro e; cases e
  · intro e
    cases e
    unfold Cnt Blk4 at hM
    rw [cell_of_row w g _ _ 56 (0, 0) hM] at hk
    match o, hk with
    | 0, hk => simp at hk
    | 1, hk => simp at hk
    | 2, hk => simp at hk
    | 3, hk => simp at hk
    | n + 4, hk => simp at hk
theorem Bs.adds {w w' : World} {B : Nat} {a : Option Addr} {l : List UInt8} {p : Option Addr} {s t h m : Int} (hb : Bs w B a l) (hg : w.grownBy w' (blk p)) (hM : Mt w p s t h m) : Bs w' B a l := fun h0 => by
  obtain ⟨b, off, e, hlt, hc⟩ := hb h0
  exact ⟨b, off, e, hlt, fun i hi => hg.cell (hc i hi) (hM.byte (hc i hi))⟩
/-- Bytes copied onto others. -/
def over (l t : List UInt8) : List UInt8 := l.take t.length ++ t.drop l.length
theorem over_length (l t : List UInt8) : (over l t).length = t.length := by simp [over]; omega
/-- Copy, at the operation: into a text of the call's own. -/
theorem copy_txt {w : World} {ops : Array Oper} {rest : List Oper} {o : Oper} {a : Act} {Q : Exit → Act → World → Prop} (hgd : o.guard = none) (d s : Operand)
    (ho : o.op = .call { callee := .builtin .copy, args := #[d, s], argTypes := #[23, 23] }) (A : Option Addr) (t : List UInt8) (cap base : Nat) (hd : a.eval d = .slice A t.length cap) (hT : Txt w base A t)
    (B : Option Addr) (l : List UInt8) (c N : Nat) (hs : a.eval s = .slice B l.length c) (hB : Bs w N B l)
    (h : ∀ w' r, Txt w' base A (over l t) → (∀ k, r = some k → base ≤ k ∧ ∃ cs fr, w.heap[k]? = some (.cells cs 5 fr)) → w.grownBy w' r → wpList Try.prog ops Q rest (a.put o.dst (.int .i64 ((min l.length t.length : Nat) : Int))) w') : wpList Try.prog ops Q (o :: rest) a w := by
  have hsz : (Try.prog.info? 5).map (·.size) = some 1 := by kernel_rfl
  by_cases h0 : min l.length t.length = 0
  · refine wpList_copy_nothing hgd d s 23 23 ho 5 und22 hsz A B t.length cap l.length c hd hs h0 ?_
    have e : over l t = t := by
      unfold over
      rcases Nat.eq_zero_or_pos l.length with e | e
      · rw [List.eq_nil_of_length_eq_zero e]; simp
      · rw [List.eq_nil_of_length_eq_zero (by omega : t.length = 0)]; simp
    have := h w none (by rw [e]; exact hT) (fun k hk => by cases hk) (World.grownBy.refl w _)
    rw [h0] at this
    exact this
  · obtain ⟨g, cs, rfl, hg, hh, hcs⟩ := hT (by omega)
    obtain ⟨b, off, rfl, _, hbs⟩ := hB (by omega)
    have hszc : t.length ≤ cs.size := by
      have := hcs (t.length - 1) (by omega)
      have := (Array.getElem?_eq_some_iff.1 this).1
      omega
    have hvl : (vals (l.take t.length)).length = min l.length t.length := by simp [vals]; omega
    refine wpList_copy_own hgd d s 23 23 ho 5 und22 hsz g 0 t.length cap ⟨b, off, none⟩ l.length c hd hs cs 5 hh (vals (l.take t.length)) hvl ?_ (by rw [hvl]; omega) (vals_one _) ?_
    · intro j v hj
      have hjl : j < min l.length t.length := by rw [← hvl]; exact (List.getElem?_eq_some_iff.1 hj).1
      have e2 : (⟨b, off, none⟩ : Addr).add j = ⟨b, off + j, none⟩ := by unfold Addr.add; split <;> simp_all
      rw [e2, hbs j (by omega)]
      have hj' : j < t.length := by omega
      have hj2 : j < l.length := by omega
      simpa [vals, hj', hj2] using hj
    · rw [hvl]
      refine h _ (some g) (fun _ => ?_) (fun k hk => by cases hk; exact ⟨hg, cs, _, hh⟩) ⟨rfl, rfl, rfl, by simp [World.setRow], fun k _ hk => setRow_other w g k _ (fun e => hk (by rw [e]))⟩
      refine ⟨g, _, rfl, hg, setRow_heap w g _ _ 5 _ hh, fun i hi => ?_⟩
      rw [over_length] at hi
      simp only [List.getElem?_toArray, List.take_zero, List.nil_append, Nat.zero_add]
      by_cases hil : i < l.length
      · rw [List.getElem?_append_left (by rw [hvl]; omega)]
        have hlt : i < (l.take t.length).length := by simp; omega
        simp only [over, List.getElem_append_left hlt]
        simp [vals, hi, hil]
      · rw [List.getElem?_append_right (by rw [hvl]; omega), hvl]
        rw [List.getElem?_drop, Array.getElem?_toList]
        have e3 : min l.length t.length + (i - min l.length t.length) = i := by omega
        rw [e3, hcs i hi]
        have hlt : ¬ i < (l.take t.length).length := by simp; omega
        simp only [over, List.getElem_append_right (by omega : (l.take t.length).length ≤ i), List.getElem_drop]
        have e4 : (l.take t.length).length = l.length := by rw [List.length_take]; omega
        have e5 : l.length + (i - (l.take t.length).length) = i := by omega
        simp only [e5]
/-- So many bytes are copied, and counted. -/
def Copies (w : World) (p A : Option Addr) (base : Nat) (l t : List UInt8) (a b c d : Int) (e : Ending) (w' : World) : Prop :=
  e = .returned (.int .i64 ((min l.length t.length : Nat) : Int)) ∧ Txt w' base A (over l t) ∧ Mt w' p a b c (d + ((min l.length t.length : Nat) : Int)) ∧
    ∃ w1 r, (∀ k, r = some k → base ≤ k ∧ ∃ cs fr, w.heap[k]? = some (.cells cs 5 fr)) ∧ w.grownBy w1 r ∧ w1.grownBy w' (blk p)
end Go.Proofs.Ytkooanahgffjgaa.Met
