/- The contract of lines.Join; the reference's Split. -/
import Derived.Test.YtcieikibfmelkaaWg
import Derived.Laws.AppendOwnNone
namespace Go.Proofs.Ytcieikibfmelkaa
open Go.RowKit

theorem joined_snoc (ls : List (List UInt8)) (k : Nat) (h : k < ls.length) : joined (ls.take (k + 1)) = joined (ls.take k) ++ ls[k] ++ [10] := by
  unfold joined
  rw [List.take_succ_eq_append_getElem h, List.flatMap_append]
  simp

/-- A text in memory: its bytes, where they lie. -/
structure TxV where
  text : List UInt8
  a : Option Addr
  cap : Nat
  nil0 : a = none → cap = 0
/-- A slice of texts that reads as xs. -/
def Ts (W : World) (a : Option Addr) (xs : List TxV) : Prop :=
  (0 < xs.length → ∃ b off, a = some ⟨b, off, none⟩ ∧ b < W.heap.size ∧ ∀ i (h : i < xs.length), W.cell? ⟨b, off + i, none⟩ = some (.slice xs[i].a xs[i].text.length xs[i].cap)) ∧ ∀ x ∈ xs, Bs W W.heap.size x.a x.text
theorem Ts.keep {W W' : World} {a : Option Addr} {xs : List TxV} (h : Ts W a xs) (hb : Below W.heap.size W W') : Ts W' a xs := by
  refine ⟨fun h0 => ?_, fun x hx => ((h.2 x hx).keep hb).more hb.size⟩
  obtain ⟨b, off, e, hlt, hc⟩ := h.1 h0
  exact ⟨b, off, e, Nat.lt_of_lt_of_le hlt hb.size, fun i hi => (hb.cell (p := ⟨b, _, none⟩) hlt).trans (hc i hi)⟩

theorem joined_len (ls : List (List UInt8)) (k : Nat) (B : Nat) (h : (joined ls).length ≤ B) : (joined (ls.take k)).length ≤ B := by
  unfold joined at *
  have e : ls.flatMap (fun l => l ++ [10]) = (ls.take k).flatMap (fun l => l ++ [10]) ++ (ls.drop k).flatMap (fun l => l ++ [10]) := by
    rw [← List.flatMap_append, List.take_append_drop]
  rw [e, List.length_append] at h
  omega

theorem vals_one (l : List UInt8) : ∀ v ∈ vals l, v.oneCell' = true := by
  intro v hv
  simp only [vals, List.mem_map] at hv
  obtain ⟨c, _, rfl⟩ := hv
  rfl
/-- A slice that reads as l, appended to a row of the call's own. -/
theorem app_bs {w : World} {ops : Array Oper} {rest : List Oper} {o : Oper} {a : Act} {Q : Exit → Act → World → Prop} (hgd : o.guard = none) (s x : Operand)
    (ho : o.op = .call { callee := .builtin .append, args := #[s, x], argTypes := #[22, 22] })
    (base : Nat) (v : Value) (n : Nat) (xs : List Value) (hs : a.eval s = v) (hown : w.ownsRow base 5 1 v n xs)
    (A : Option Addr) (l : List UInt8) (c B : Nat) (hx : a.eval x = .slice A l.length c) (hb : Bs w B A l) (hnil : A = none → c = 0)
    (hn : n + l.length ≤ 1000000) (hbase : base ≤ w.heap.size)
    (h : ∀ v' w', w'.ownsRow base 5 1 v' (n + l.length) (xs ++ vals l) → w.grownBy w' v.ownBlock → wpList Try.prog ops Q rest (a.put o.dst v') w') : wpList Try.prog ops Q (o :: rest) a w := by
  obtain ⟨i0, hi, hz0, hz1, hz2⟩ := info_parts info5
  cases A with
  | none =>
    have hl : l = [] := by
      rcases Nat.eq_zero_or_pos l.length with h0 | h0
      · exact List.eq_nil_of_length_eq_zero h0
      · obtain ⟨_, _, e, _⟩ := hb h0; cases e
    subst hl
    rw [hnil rfl] at hx
    refine wpList_append_own_none hgd s x 22 ho base 5 i0 1 Try.underlying22 hi v n xs hs hown hx (h v w ?_ (World.grownBy.refl w _))
    simpa [vals] using hown
  | some ad =>
    refine wpList_append_own w hgd s x 22 ho base 5 i0 (.int .u8 0) 1 1 Try.underlying22 hi hz0 hz1 hz2 rfl (by decide) v n xs hs hown ad l.length c (vals l) hx (by simp [vals]) ?_ (vals_one l) (by unfold maxLen; omega) (by omega) hbase (fun v' w' h1 h2 _ => h v' w' h1 h2)
    intro j u hj
    have hjl : j < l.length := by
      have := (List.getElem?_eq_some_iff.1 hj).1
      simpa [vals] using this
    obtain ⟨b, off, e, _, hc⟩ := hb (by omega)
    injection e with e
    subst e
    have e2 : (⟨b, off, none⟩ : Addr).add j = ⟨b, off + j, none⟩ := by unfold Addr.add; split <;> simp_all
    rw [e2, hc j hjl]
    simpa [vals, hjl] using hj
theorem own_ge {w : World} {base e size n : Nat} {v : Value} {xs : List Value} (h : w.ownsRow base e size v n xs) {g : Nat} (hg : v.ownBlock = some g) : base ≤ g := (own_block_lt h hg).1
/-- A literal's bytes. -/
theorem bs_lit (w : World) (l : List UInt8) (fr : Nat × Nat) (cs : Array Value) (hcs : cs = (l.map fun c => Value.int .u8 (c.toNat : Int)).toArray) :
    Bs (w.alloc (.cells cs 5 fr)) (w.alloc (.cells cs 5 fr)).heap.size (some ⟨w.heap.size, 0, none⟩) l := fun _ => by
  refine ⟨w.heap.size, 0, rfl, by simp, fun i hi => ?_⟩
  rw [cell_of_row _ w.heap.size _ _ 5 fr (heap_alloc_new w _), hcs]
  simp [hi]
/-- A row of the call's own, appended to: what lay below its base is as it was. -/
theorem app_below {B base n : Nat} {w0 w w' : World} {v : Value} {xs : List Value} (h : Below B w0 w) (hown : w.ownsRow base 5 1 v n xs) (hg : w.grownBy w' v.ownBlock) (hB : B ≤ w.heap.size) (hbase : B ≤ base) : Below B w0 w' :=
  h.grown hg hB (fun k hk => by have := own_ge hown hk; omega)

def textsOf (xs : List TxV) : List (List UInt8) := xs.map TxV.text

set_option maxRecDepth 100000 in
set_option maxHeartbeats 4000000 in
theorem join_any (xs : List TxV) (a : Option Addr) (cap : Nat) (w : World) (hx : Ts w a xs) (hbd : (joined (textsOf xs)).length ≤ 900000) (hl : xs.length ≤ 900000) :
    Calls Try.prog 17 #[.slice a xs.length cap] w (GivesText w (joined (textsOf xs))) := by
  go_enter Try.func17, Try.ntmps17
  go_wp2
  go_loopw [3, 8] (fun v i wr => ∃ k : Nat, k ≤ xs.length ∧ i = .int .i64 k ∧ wr.ownsRow w.heap.size 5 1 v (joined ((textsOf xs).take k)).length (vals (joined ((textsOf xs).take k))) ∧ Below w.heap.size w wr)
    (fun _ i _ => xs.length - (intOf i).toNat)
  case atStart => exact ⟨0, Nat.zero_le _, rfl, World.ownsRow_nil _ _ _ _, Below.refl _ _⟩
  case round =>
    obtain ⟨k, hk, rfl, hown, hbel⟩ := hrel
    by_cases hlt : k < xs.length
    · obtain ⟨b, off, rfl, hbl, hc⟩ := (hx.keep hbel).1 (by omega)
      have hck := hc k hlt
      have hlt' : k < (textsOf xs).length := by simpa [textsOf] using hlt
      have htk : (textsOf xs)[k] = xs[k].text := by simp [textsOf]
      have HS : Hid (joined ((textsOf xs).take (k + 1)) = joined ((textsOf xs).take k) ++ xs[k].text ++ [10]) := Lib.hid (by rw [joined_snoc _ _ hlt', htk])
      have hle : (joined ((textsOf xs).take (k + 1))).length ≤ 900000 := joined_len _ _ _ hbd
      rw [HS.out] at hle
      simp only [List.length_append, List.length_cons, List.length_nil] at hle
      have htx := (hx.keep hbel).2 xs[k] (List.getElem_mem hlt)
      have hn0 := xs[k].nil0
      have hkl : (k : Int) < (xs.length : Int) := by omega
      generalize xs[k].text = T at *
      generalize xs[k].a = A at *
      generalize xs[k].cap = C at *
      generalize joined ((textsOf xs).take k) = J at *
      have hsz := hbel.size
      clear hc htk hlt'
      go_wp2_with (first
        | (at_builtin; refine app_bs rfl (.tmp 12) (.tmp 13) rfl w.heap.size _ J.length (vals J) rfl hown A T C wr.heap.size rfl htx hn0 (by omega) (by omega) ?_; intro v2 w2 hown2 hg2; have hb2 := app_below hbel hown hg2 hsz (Nat.le_refl _); have hs2 := hb2.size)
        | (at_builtin; refine app_bs rfl (.tmp 15) (.tmp 16) rfl w.heap.size _ (J.length + T.length) _ rfl (hown2.alloc _) (some ⟨w2.heap.size, 0, none⟩) [10] 1 _ rfl (bs_lit w2 [10] (0, 0) _ rfl) (fun e => by cases e) (by simp; omega) (by simp; omega) ?_; intro v3 w3 hown3 hg3; have hb3 := app_below (hb2.alloc hs2 _) (hown2.alloc _) hg3 (by simp; omega) (Nat.le_refl _)))
      go_roundw
      case rel =>
        refine ⟨k + 1, by omega, by go_num, ?_, hb3⟩
        rw [HS.out]
        have e1 : vals (J ++ T ++ [10]) = vals J ++ vals T ++ vals [10] := by simp [vals]
        have e2 : (J ++ T ++ [10]).length = J.length + T.length + [(10 : UInt8)].length := by simp; omega
        rw [e1, e2]
        exact hown3
      case measure => simp [intOf]; omega
    · go_wp2
      go_ret
      have e : (textsOf xs).take k = textsOf xs := List.take_of_length_le (by simp [textsOf]; omega)
      rw [e] at hown
      obtain ⟨a2, cap2, rfl, h1, h2, h3⟩ := own_txt hown
      exact ⟨a2, cap2, rfl, h1, h2, h3, hbel⟩
end Go.Proofs.Ytcieikibfmelkaa
