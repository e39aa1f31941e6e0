/- The contracts of Read and Copy. -/
import Derived.Test.YteadlgmajakomaaMb
import Derived.Laws.CopyOwn
namespace Go.Proofs.Yteadlgmajakomaa
open Go.RowKit

/-- The meter's block holds no byte. -/
theorem Mt.byte {w : World} {p : Option Addr} {s l h m : Int} (hM : Mt w p s l h m) {k o : Nat} {x : Int} (hk : w.cell? ⟨k, o, none⟩ = some (.int .u8 x)) : some k ≠ blk p := by
  rcases hM with rfl | ⟨g, rfl, hM⟩
  · intro e; cases e
  · intro e
    cases e
    unfold Cnt Blk4 at hM
    rw [cell_of_row w g _ _ 58 (0, 0) hM] at hk
    match o, hk with
    | 0, hk => simp at hk
    | 1, hk => simp at hk
    | 2, hk => simp at hk
    | 3, hk => simp at hk
    | n + 4, hk => simp at hk
theorem Bs.adds {w w' : World} {B : Nat} {a : Option Addr} {l : List UInt8} {p : Option Addr} {s t h m : Int} (hb : Bs w B a l) (hg : w.grownBy w' (blk p)) (hM : Mt w p s t h m) : Bs w' B a l := fun h0 => by
  obtain ⟨b, off, e, hlt, hc⟩ := hb h0
  exact ⟨b, off, e, hlt, fun i hi => hg.cell (hc i hi) (hM.byte (hc i hi))⟩
theorem read_out (w : World) (p : Option Addr) (l : List UInt8) (a : Option Addr) (cap : Nat) (i : Int) (hi : i < 0 ∨ (l.length : Int) ≤ i) :
    Calls Try.prog 19 #[.pointer p, .slice a l.length cap, .int .i64 i] w fun e w' => e = .returned (.tuple #[.int .u8 0, .bool false]) ∧ w = w' := by
  by_cases hn : i < 0
  · go_enter Try.func19, Try.ntmps19
    go_wp2
    go_ret2
    exact ⟨rfl, rfl⟩
  · have hi' : (l.length : Int) ≤ i := by omega
    go_enter Try.func19, Try.ntmps19
    go_wp2
    go_ret2
    exact ⟨rfl, rfl⟩
set_option maxHeartbeats 1000000 in
theorem read_in (w : World) (p : Option Addr) (l : List UInt8) (A : Option Addr) (cap : Nat) (hB : Bs w w.heap.size A l) (i : Nat) (hi : i < l.length) (hl : l.length ≤ 1000000000000) (a b c d : Int) (hM : Mt w p a b c d) (ha : 0 ≤ a ∧ a ≤ 1000000000000) (hb : 0 ≤ b ∧ b ≤ 1000000000000) (hc : 0 ≤ c ∧ c ≤ 1000000000000) (hd : 0 ≤ d ∧ d ≤ 1000000000000) :
    Calls Try.prog 19 #[.pointer p, .slice A l.length cap, .int .i64 (i : Int)] w (Adds w p a b (c + 1) d (.tuple #[.int .u8 (l[i].toNat : Int), .bool true])) := by
  have C := Lib.hid (add_hunt w p a b c d hM ha hb hc hd)
  obtain ⟨bb, off, rfl, _, hcs⟩ := hB (by omega)
  have HC := Lib.hid (hcs i hi)
  have HN := Lib.hid (hM.byte HC.out)
  have hi0 : (i : Int) < (l.length : Int) := by omega
  clear hM hB hcs
  go_enter Try.func19, Try.ntmps19
  go_wp2_with (go_at_call 22; (with_reducible refine C.out.mono ?_); rintro e w1 ⟨rfl, hM1, hg1⟩; have e2 := hg1.cell HC.out HN.out; have HM1 := Lib.hid hM1; have HG1 := Lib.hid hg1; clear hM1 hg1)
  go_ret2
  exact ⟨rfl, HM1.out, HG1.out⟩
/-- Bytes copied onto others. -/
def over (l t : List UInt8) : List UInt8 := l.take t.length ++ t.drop l.length
theorem over_length (l t : List UInt8) : (over l t).length = t.length := by simp [over]; omega
/-- Copy, at the operation: into a text of the call's own. -/
theorem copy_txt {w : World} {ops : Array Oper} {rest : List Oper} {o : Oper} {a : Act} {Q : Exit → Act → World → Prop} (hgd : o.guard = none) (d s : Operand)
    (ho : o.op = .call { callee := .builtin .copy, args := #[d, s], argTypes := #[22, 22] }) (A : Option Addr) (t : List UInt8) (cap base : Nat) (hd : a.eval d = .slice A t.length cap) (hT : Txt w base A t)
    (B : Option Addr) (l : List UInt8) (c N : Nat) (hs : a.eval s = .slice B l.length c) (hB : Bs w N B l)
    (h : ∀ w' r, Txt w' base A (over l t) → (∀ k, r = some k → base ≤ k ∧ ∃ cs fr, w.heap[k]? = some (.cells cs 5 fr)) → w.grownBy w' r → wpList Try.prog ops Q rest (a.put o.dst (.int .i64 ((min l.length t.length : Nat) : Int))) w') : wpList Try.prog ops Q (o :: rest) a w := by
  have hsz : (Try.prog.info? 5).map (·.size) = some 1 := by kernel_rfl
  by_cases h0 : min l.length t.length = 0
  · refine wpList_copy_nothing hgd d s 22 22 ho 5 und22 hsz A B t.length cap l.length c hd hs h0 ?_
    have e : over l t = t := by
      unfold over
      rcases Nat.eq_zero_or_pos l.length with e | e
      · rw [List.eq_nil_of_length_eq_zero e]; simp
      · rw [List.eq_nil_of_length_eq_zero (by omega : t.length = 0)]; simp
    have := h w none (by rw [e]; exact hT) (fun k hk => by cases hk) (World.grownBy.refl w _)
    rw [h0] at this
    exact this
  · obtain ⟨g, cs, rfl, hg, hh, hcs⟩ := hT (by omega)
    obtain ⟨b, off, rfl, _, hbs⟩ := hB (by omega)
    have hszc : t.length ≤ cs.size := by
      have := hcs (t.length - 1) (by omega)
      have := (Array.getElem?_eq_some_iff.1 this).1
      omega
    have hvl : (vals (l.take t.length)).length = min l.length t.length := by simp [vals]; omega
    refine wpList_copy_own hgd d s 22 22 ho 5 und22 hsz g 0 t.length cap ⟨b, off, none⟩ l.length c hd hs cs 5 hh (vals (l.take t.length)) hvl ?_ (by rw [hvl]; omega) (vals_one _) ?_
    · intro j v hj
      have hjl : j < min l.length t.length := by rw [← hvl]; exact (List.getElem?_eq_some_iff.1 hj).1
      have e2 : (⟨b, off, none⟩ : Addr).add j = ⟨b, off + j, none⟩ := by unfold Addr.add; split <;> simp_all
      rw [e2, hbs j (by omega)]
      have hj' : j < t.length := by omega
      have hj2 : j < l.length := by omega
      simpa [vals, hj', hj2] using hj
    · rw [hvl]
      refine h _ (some g) (fun _ => ?_) (fun k hk => by cases hk; exact ⟨hg, cs, _, hh⟩) ⟨rfl, rfl, rfl, by simp [World.setRow], fun k _ hk => setRow_other w g k _ (fun e => hk (by rw [e]))⟩
      refine ⟨g, _, rfl, hg, setRow_heap w g _ _ 5 _ hh, fun i hi => ?_⟩
      rw [over_length] at hi
      simp only [List.getElem?_toArray, List.take_zero, List.nil_append, Nat.zero_add]
      by_cases hil : i < l.length
      · rw [List.getElem?_append_left (by rw [hvl]; omega)]
        have hlt : i < (l.take t.length).length := by simp; omega
        simp only [over, List.getElem_append_left hlt]
        simp [vals, hi, hil]
      · rw [List.getElem?_append_right (by rw [hvl]; omega), hvl]
        rw [List.getElem?_drop, Array.getElem?_toList]
        have e3 : min l.length t.length + (i - min l.length t.length) = i := by omega
        rw [e3, hcs i hi]
        have hlt : ¬ i < (l.take t.length).length := by simp; omega
        simp only [over, List.getElem_append_right (by omega : (l.take t.length).length ≤ i), List.getElem_drop]
        have e4 : (l.take t.length).length = l.length := by rw [List.length_take]; omega
        have e5 : l.length + (i - (l.take t.length).length) = i := by omega
        simp only [e5]
/-- So many bytes are copied, and counted. -/
def Copies (w : World) (p A : Option Addr) (base : Nat) (l t : List UInt8) (a b c d : Int) (e : Ending) (w' : World) : Prop :=
  e = .returned (.int .i64 ((min l.length t.length : Nat) : Int)) ∧ Txt w' base A (over l t) ∧ Mt w' p a b c (d + ((min l.length t.length : Nat) : Int)) ∧
    ∃ w1 r, (∀ k, r = some k → base ≤ k ∧ ∃ cs fr, w.heap[k]? = some (.cells cs 5 fr)) ∧ w.grownBy w1 r ∧ w1.grownBy w' (blk p)
set_option maxHeartbeats 1000000 in
theorem copy_any (w : World) (p : Option Addr) (A : Option Addr) (t : List UInt8) (cap base : Nat) (hT : Txt w base A t) (B : Option Addr) (l : List UInt8) (cb N : Nat) (hB : Bs w N B l) (hl : l.length ≤ 1000000000000) (a b c d : Int) (hM : Mt w p a b c d) (ha : 0 ≤ a ∧ a ≤ 1000000000000) (hb : 0 ≤ b ∧ b ≤ 1000000000000) (hc : 0 ≤ c ∧ c ≤ 1000000000000) (hd : 0 ≤ d ∧ d ≤ 1000000000000) :
    Calls Try.prog 20 #[.pointer p, .slice A t.length cap, .slice B l.length cb] w (Copies w p A base l t a b c d) := by
  have HT := Lib.hid hT
  have HB := Lib.hid hB
  have HM := Lib.hid hM
  clear hT hB hM
  go_enter Try.func20, Try.ntmps20
  go_wp2_with (first
    | ((with_reducible refine copy_txt rfl (.tmp 8) (.tmp 9) rfl A t cap base rfl HT.out B l cb N rfl HB.out ?_); intro w1 r ht1 hr1 hg1; have HM1 := Lib.hid (HM.out.same fun k hk => hg1.block k (HM.out.lt hk) (fun e => by obtain ⟨_, cs, fr, hh⟩ := hr1 k e.symm; exact HM.out.not hh (by decide) hk)); have HT1 := Lib.hid ht1; have HR1 := Lib.hid hr1; have HG1 := Lib.hid hg1; clear ht1 hr1 hg1)
    | (go_at_call 22; (with_reducible refine (add_move w1 p a b c d _ HM1.out ha hb hc hd (by omega)).mono ?_); rintro e w2 ⟨rfl, hM2, hg2⟩; have HM2 := Lib.hid hM2; have HG2 := Lib.hid hg2; clear hM2 hg2))
  go_ret
  exact ⟨rfl, txt_grown HT1.out HG2.out (fun k cs fr e hh => HM1.out.not hh (by decide) e.symm), HM2.out, w1, r, HR1.out, HG1.out, HG2.out⟩
end Go.Proofs.Yteadlgmajakomaa
