/- Package by package: QFb QMath QBase Qa Qb Qc Qd Qe Qf Qg Qh Qi Qj Qn. -/
import Derived.Test.YtlmncljnnpnjmaaGB
import Derived.Test.YtlmncljnnpnjmaaGW
import Derived.Deep.AppendLies
import Derived.Deep.DrawnRows
import Derived.Deep.RegionHeld3
import Derived.Deep.RegionLaw
import Derived.Lib.ConvBytes
import Derived.Maps.AppendAt
import Derived.Maps.OwnSet
import Derived.StillTailTactics
/- Bytes without case: the contracts of fold.Byte, fold.Bytes and of the reference's. -/
namespace Go.Proofs.Ytlmncljnnpnjmaa.Pat
open Go.RowKit
set_option maxRecDepth 100000

/-- A byte without case. -/
def low (c : UInt8) : UInt8 := if 65 ≤ c.toNat ∧ c.toNat ≤ 90 then UInt8.ofNat (c.toNat + 32) else c
theorem low_nat (c : UInt8) : (low c).toNat = if 65 ≤ c.toNat ∧ c.toNat ≤ 90 then c.toNat + 32 else c.toNat := by
  unfold low
  split
  · rw [UInt8.toNat_ofNat']; omega
  · rfl
def lows (l : List UInt8) : List UInt8 := l.map low
/-- A block of bytes whose first k cells are those of l. -/
def RowTo (w : World) (g n k : Nat) (l : List UInt8) : Prop :=
  ∃ cs : Array Value, w.heap[g]? = some (.cells cs 5 (0, 0)) ∧ cs.size = n ∧ ∀ i, i < k → ∀ h : i < l.length, cs[i]? = some (.int .u8 (l[i].toNat : Int))
theorem RowTo.at_ {w : World} {g n k i : Nat} {l : List UInt8} (h : RowTo w g n k l) (hi : i < n) : (∃ v, w.cell? ⟨g, i, none⟩ = some v) ∧ w.frozen? ⟨g, i, none⟩ = false := by
  obtain ⟨cs, hh, hs, _⟩ := h
  refine ⟨⟨cs[i]'(by omega), ?_⟩, ?_⟩
  · rw [cell_of_row w g _ _ 5 (0, 0) hh]
    exact Array.getElem?_eq_getElem _
  · simp [World.frozen?, hh]
theorem RowTo.put {w : World} {g n k : Nat} {l : List UInt8} (h : RowTo w g n k l) (hk : k < l.length) (hn : k < n) : RowTo (w.setCell ⟨g, k, none⟩ (.int .u8 (l[k].toNat : Int))) g n (k + 1) l := by
  obtain ⟨cs, hh, hs, hc⟩ := h
  refine ⟨_, heap_set_same hh, by simpa using hs, fun i hi hl => ?_⟩
  by_cases e : i = k
  · subst e; rw [Array.getElem?_setIfInBounds_self_of_lt (by omega)]
  · rw [Array.getElem?_setIfInBounds_ne (by omega)]; exact hc i (by omega) hl
theorem RowTo.keep {w w' : World} {B g n k : Nat} {l : List UInt8} (h : RowTo w g n k l) (hb : Below B w w') (hg : g < B) : RowTo w' g n k l := by
  obtain ⟨cs, hh, hs, hc⟩ := h
  exact ⟨cs, (hb.block g hg).trans hh, hs, hc⟩
theorem RowTo.lt {w : World} {g n k : Nat} {l : List UInt8} (h : RowTo w g n k l) : g < w.heap.size := by
  obtain ⟨cs, hh, _⟩ := h
  rcases Nat.lt_or_ge g w.heap.size with hlt | hge
  · exact hlt
  · rw [Array.getElem?_eq_none hge] at hh; cases hh
theorem RowTo.txt {w : World} {s g n : Nat} {l : List UInt8} (h : RowTo w g n l.length l) (hs : s ≤ g) : Txt w s (some ⟨g, 0, none⟩) l := fun _ => by
  obtain ⟨cs, hh, _, hc⟩ := h
  exact ⟨g, cs, rfl, hs, hh, fun i hi => hc i hi hi⟩

theorem str_list (l : List UInt8) : (str l).toList = l := by rw [ByteArray.toList_eq]; rfl
theorem str_add (a b : List UInt8) : str a ++ str b = str (a ++ b) := by
  apply ByteArray.ext
  simp [str]
theorem lows_snoc (l : List UInt8) (k : Nat) (h : k < l.length) : lows (l.take (k + 1)) = lows (l.take k) ++ [low l[k]] := by
  unfold lows
  rw [take_snoc l k h, List.map_append]
  rfl

end Go.Proofs.Ytlmncljnnpnjmaa.Pat
/- Sets of texts, as plain mathematics: the texts that aren't empty, each once, in the order in which they came first. -/
namespace Go.Proofs.Ytlmncljnnpnjmaa.Pat
set_option maxRecDepth 100000

/-- One text more. -/
def add (s : List (List UInt8)) (x : List UInt8) : List (List UInt8) := if x = [] ∨ x ∈ s then s else s ++ [x]
/-- The texts that aren't empty, each once, in the order in which they came first. -/
def pats (l : List (List UInt8)) : List (List UInt8) := l.foldl add []
theorem pats_nil : pats [] = [] := rfl
theorem pats_snoc (l : List (List UInt8)) (x : List UInt8) : pats (l ++ [x]) = add (pats l) x := by simp [pats]
theorem mem_add (s : List (List UInt8)) (x y : List UInt8) : y ∈ add s x ↔ y ∈ s ∨ (y = x ∧ x ≠ []) := by
  unfold add
  split
  · rename_i h
    constructor
    · exact .inl
    · rintro (h1 | ⟨rfl, h2⟩)
      · exact h1
      · exact h.resolve_left h2
  · rename_i h
    rw [List.mem_append, List.mem_singleton]
    constructor
    · rintro (h1 | rfl)
      · exact .inl h1
      · exact .inr ⟨rfl, fun e => h (.inl e)⟩
    · rintro (h1 | ⟨h1, _⟩)
      · exact .inl h1
      · exact .inr h1
theorem mem_foldl_add (l : List (List UInt8)) : ∀ (s : List (List UInt8)) (y : List UInt8), y ∈ l.foldl add s ↔ y ∈ s ∨ (y ∈ l ∧ y ≠ []) := by
  induction l with
  | nil => intro s y; simp
  | cons x l ih =>
    intro s y
    rw [List.foldl_cons, ih, mem_add, List.mem_cons]
    constructor
    · rintro ((h | ⟨rfl, h⟩) | ⟨h1, h2⟩)
      · exact .inl h
      · exact .inr ⟨.inl rfl, h⟩
      · exact .inr ⟨.inr h1, h2⟩
    · rintro (h | ⟨rfl | h1, h2⟩)
      · exact .inl (.inl h)
      · exact .inl (.inr ⟨rfl, h2⟩)
      · exact .inr ⟨h1, h2⟩
theorem mem_pats (l : List (List UInt8)) (y : List UInt8) : y ∈ pats l ↔ y ∈ l ∧ y ≠ [] := by
  unfold pats; rw [mem_foldl_add]; simp
theorem add_in (l : List (List UInt8)) (x : List UInt8) (h : x ∈ l) : add (pats l) x = pats l := by
  unfold add
  by_cases hx : x = []
  · rw [if_pos (.inl hx)]
  · rw [if_pos (.inr ((mem_pats l x).2 ⟨h, hx⟩))]
theorem add_nil (s : List (List UInt8)) : add s [] = s := by unfold add; rw [if_pos (.inl rfl)]
theorem add_new (l : List (List UInt8)) (x : List UInt8) (h : x ∉ l) (hx : x ≠ []) : add (pats l) x = pats l ++ [x] := by
  unfold add
  rw [if_neg]
  rintro (e | e)
  · exact hx e
  · exact h ((mem_pats l x).1 e).1
theorem add_new' (s : List (List UInt8)) (x : List UInt8) (h : x ∉ s) (hx : x ≠ []) : add s x = s ++ [x] := by
  unfold add
  rw [if_neg]
  rintro (e | e)
  · exact hx e
  · exact h e
theorem add_old (s : List (List UInt8)) (x : List UInt8) (h : x ∈ s) : add s x = s := by unfold add; rw [if_pos (.inr h)]
theorem takes_snoc {α : Type} (l : List α) (k : Nat) (h : k < l.length) : l.take (k + 1) = l.take k ++ [l[k]] := List.take_succ_eq_append_getElem h
theorem pats_take (l : List (List UInt8)) (k : Nat) (h : k < l.length) : pats (l.take (k + 1)) = add (pats (l.take k)) l[k] := by rw [takes_snoc l k h, pats_snoc]
theorem foldl_add_len (l : List (List UInt8)) : ∀ s, (l.foldl add s).length ≤ s.length + l.length := by
  induction l with
  | nil => intro s; simp
  | cons x l ih =>
    intro s
    rw [List.foldl_cons]
    have h1 := ih (add s x)
    have h2 : (add s x).length ≤ s.length + 1 := by unfold add; split <;> simp
    rw [List.length_cons]; omega
theorem pats_len (l : List (List UInt8)) : (pats l).length ≤ l.length := by
  have := foldl_add_len l []
  simpa [pats] using this
/-- How many bytes texts have together. -/
def bytesIn (l : List (List UInt8)) : Nat := (l.map List.length).sum
theorem bytesIn_snoc (l : List (List UInt8)) (k : Nat) (h : k < l.length) : bytesIn (l.take (k + 1)) = bytesIn (l.take k) + l[k].length := by
  unfold bytesIn; rw [takes_snoc l k h, List.map_append, List.sum_append]; simp
theorem bytesIn_le (l : List (List UInt8)) (B : Nat) (h : ∀ x ∈ l, x.length ≤ B) : bytesIn l ≤ l.length * B := by
  induction l with
  | nil => simp [bytesIn]
  | cons x l ih =>
    have h1 := h x (by simp)
    have h2 := ih (fun y hy => h y (by simp [hy]))
    unfold bytesIn at h2 ⊢
    rw [List.map_cons, List.sum_cons, List.length_cons, Nat.add_mul]
    omega
/-- The least of the lengths; 0: there is none. -/
def leastTo (l : List (List UInt8)) : Nat → Nat
  | 0 => 0
  | k + 1 => if k = 0 ∨ (l.getD k []).length < leastTo l k then (l.getD k []).length else leastTo l k
def leastLen (l : List (List UInt8)) : Nat := leastTo l l.length
theorem leastTo_yes (l : List (List UInt8)) (k : Nat) (h : k < l.length) (hc : k = 0 ∨ l[k].length < leastTo l k) : leastTo l (k + 1) = l[k].length := by
  have e : l.getD k [] = l[k] := by simp [List.getD, h]
  rw [leastTo, e, if_pos hc]
theorem leastTo_no (l : List (List UInt8)) (k : Nat) (h : k < l.length) (h0 : k ≠ 0) (hc : ¬ l[k].length < leastTo l k) : leastTo l (k + 1) = leastTo l k := by
  have e : l.getD k [] = l[k] := by simp [List.getD, h]
  rw [leastTo, e, if_neg (by rintro (x | x) <;> contradiction)]
end Go.Proofs.Ytlmncljnnpnjmaa.Pat
/- Texts as strings, a map of texts, and sets, in memory. -/
namespace Go.Proofs.Ytlmncljnnpnjmaa.Pat
open Go.RowKit Go.Maps
set_option maxRecDepth 100000

theorem und4 : Try.prog.underlying 4 = some .bool := by kernel_rfl
theorem keyed : Keyed Try.prog 9 := string_keyed und9
theorem zero4 (w : World) : (zeroValue 4).run Try.prog w = .ok (.bool false) w := by kernel_rfl
theorem info9 : (Try.prog.info? 9).map (fun i => (i.zero, i.size, i.bytes)) = some (some (.string ByteArray.empty), 1, 16) := by kernel_rfl
theorem info22 : (Try.prog.info? 33).map (fun i => (i.zero, i.size, i.bytes)) = some (some (.slice none 0 0), 1, 24) := by kernel_rfl

theorem plainElem_bool_inv {H : Type} {v : Value} {z : DataW H × List MemPlace} (h : plainElem Try.prog 4 v = some z) : ∃ x, v = .bool x ∧ z = (.lit (.bool x), []) := by
  unfold plainElem at h
  rw [und4] at h
  cases v <;> simp at h
  exact ⟨_, rfl, h.symm⟩

/-- Block g is a map of at most n entries that tells of S's texts alone that they came. -/
def MapOf (w : World) (g n : Nat) (S : List (List UInt8)) : Prop :=
  ∃ D : DataW Unit, w.ownsMap Try.prog 9 (plainElem Try.prog 4) g n D ∧ IsMap D ∧ ∀ l, D.atKey (.string l) (.lit (.bool false)) = .lit (.bool (decide (l ∈ S)))
theorem MapOf.lt {w : World} {g n : Nat} {S : List (List UInt8)} (h : MapOf w g n S) : g < w.heap.size := by
  obtain ⟨D, h1, _⟩ := h; exact h1.lt
theorem MapOf.same {w w' : World} {g n : Nat} {S : List (List UInt8)} (h : MapOf w g n S) (e : w'.heap[g]? = w.heap[g]?) : MapOf w' g n S := by
  obtain ⟨D, ⟨es, clock, hb, F, hs, hD⟩, h2⟩ := h
  exact ⟨D, ⟨es, clock, e.trans hb, F, hs, hD⟩, h2⟩
theorem MapOf.keep {w w' : World} {g n : Nat} {S : List (List UInt8)} (h : MapOf w g n S) (hb : Below w.heap.size w w') : MapOf w' g n S := h.same (hb.block g h.lt)
theorem MapOf.grown {w w' : World} {row : Option Nat} {g n : Nat} {S : List (List UInt8)} (h : MapOf w g n S) (hg : w.grownBy w' row) (hne : some g ≠ row) : MapOf w' g n S := h.same (hg.block g h.lt hne)
theorem MapOf.alloc {w : World} {g n : Nat} {S : List (List UInt8)} (h : MapOf w g n S) (o : Obj) : MapOf (w.alloc o) g n S := h.same (Below.heap_alloc w o g h.lt)
theorem MapOf.set {w : World} {g n b i : Nat} {S : List (List UInt8)} (h : MapOf w g n S) (hne : g ≠ b) (v : Value) : MapOf (w.setCell ⟨b, i, none⟩ v) g n S := h.same (Below.heap_setCell w ⟨b, i, none⟩ v g hne)
theorem MapOf.cong {w : World} {g n : Nat} {S T : List (List UInt8)} (h : MapOf w g n S) (e : ∀ x, x ∈ S ↔ x ∈ T) : MapOf w g n T := by
  obtain ⟨D, h1, h2, h3⟩ := h
  refine ⟨D, h1, h2, fun l => ?_⟩
  rw [h3 l, decide_eq_decide.2 (e l)]
theorem MapOf.more {w : World} {g n m : Nat} {S : List (List UInt8)} (h : MapOf w g n S) (hm : n ≤ m) : MapOf w g m S := by
  obtain ⟨D, h1, h2⟩ := h; exact ⟨D, h1.mono hm, h2⟩
theorem map_made (w : World) : MapOf (w.alloc (.map #[] 0)) w.heap.size 0 [] :=
  ⟨.map [], World.ownsMap_made w _ _ _, isMap_empty, fun l => by simp [DataW.atKey]⟩
theorem map_not {w : World} {g n : Nat} {S : List (List UInt8)} (h : MapOf w g n S) {cs : Array Value} {t : TypeId} {fr : Nat × Nat} : w.heap[g]? ≠ some (.cells cs t fr) := by
  obtain ⟨D, ⟨es, clock, hb, _⟩, _⟩ := h
  intro e; rw [hb] at e; cases e
theorem data_str (l : List UInt8) : (str l).data.toList = l := rfl
theorem key_str (l : List UInt8) (hl : l.length ≤ maxLen) : keyOf Try.prog 9 (.string (str l)) = some (.string l) := Go.WideMaps.keyOf_string_mk und9 (s := str l) (by rw [str_size]; exact hl)

/-- A slice of strings that reads as xs. -/
def Ss (W : World) (a : Option Addr) (xs : List (List UInt8)) : Prop :=
  0 < xs.length → ∃ b off, a = some ⟨b, off, none⟩ ∧ b < W.heap.size ∧ ∀ i (h : i < xs.length), W.cell? ⟨b, off + i, none⟩ = some (.string (str xs[i]))
theorem ss_nil (w : World) (a : Option Addr) : Ss w a [] := fun h => absurd h (by simp)
theorem Ss.keep {W W' : World} {a : Option Addr} {xs : List (List UInt8)} (h : Ss W a xs) (hb : Below W.heap.size W W') : Ss W' a xs := fun h0 => by
  obtain ⟨b, off, e, hlt, hc⟩ := h h0
  exact ⟨b, off, e, Nat.lt_of_lt_of_le hlt hb.size, fun i hi => (hb.cell (p := ⟨b, _, none⟩) hlt).trans (hc i hi)⟩
/-- Strings, one behind the other. -/
def svals (xs : List (List UInt8)) : List Value := xs.map fun x => Value.string (str x)
theorem svals_snoc (xs : List (List UInt8)) (x : List UInt8) : svals (xs ++ [x]) = svals xs ++ [.string (str x)] := by simp [svals]
theorem svals_one (xs : List (List UInt8)) : ∀ v ∈ svals xs, v.oneCell' = true := by
  intro v hv
  simp only [svals, List.mem_map] at hv
  obtain ⟨c, _, rfl⟩ := hv
  rfl
theorem own_ss {w : World} {base n : Nat} {v : Value} {xs : List (List UInt8)} (h : w.ownsRow base 9 1 v n (svals xs)) : ∃ a cap, v = .slice a xs.length cap ∧ Ss w a xs ∧ xs.length ≤ cap ∧ (a = none → cap = 0) := by
  have hn : xs.length = n := by have := h.1; simpa [svals] using this
  rcases h.2 with ⟨rfl, h0⟩ | ⟨g, cap, cur, rfl, hg, hh, hnc, _, hs, ht⟩
  · exact ⟨none, 0, by rw [hn, h0], (fun h1 => by omega), by omega, fun _ => rfl⟩
  · refine ⟨some ⟨g, 0, none⟩, cap, by rw [hn], fun _ => ⟨g, 0, rfl, txt_lt hh, fun i hi => ?_⟩, by omega, fun e => by cases e⟩
    have e : (cur.toList.take (n * 1))[i]? = (svals xs)[i]? := by rw [ht]
    rw [List.getElem?_take_of_lt (by omega), Array.getElem?_toList] at e
    rw [Nat.zero_add, cell_of_row w g _ _ 9 (0, 0) hh, e]
    simp [svals, hi]
theorem cell_new1 (w : World) (u : Value) (t : TypeId) : ∀ j x, [u][j]? = some x → (w.alloc (.cells #[u] t)).cell? ((⟨w.heap.size, 0, none⟩ : Addr).add j) = some x := by
  intro j x h
  have ea : (⟨w.heap.size, 0, none⟩ : Addr).add j = ⟨w.heap.size, j, none⟩ := by unfold Addr.add; split <;> simp_all
  rw [ea, cell_of_row _ w.heap.size _ _ t (0, 0) (heap_alloc_new w _)]
  simpa using h
/-- Slices of bytes, one behind the other. -/
def tvals (xs : List TxV) : List Value := xs.map fun x => Value.slice x.a x.text.length x.cap
theorem tvals_snoc (xs : List TxV) (x : TxV) : tvals (xs ++ [x]) = tvals xs ++ [.slice x.a x.text.length x.cap] := by simp [tvals]
theorem own_ts {w : World} {base n : Nat} {v : Value} {xs : List TxV} (h : w.ownsRow base 33 1 v n (tvals xs)) (ht : ∀ x ∈ xs, Bs w w.heap.size x.a x.text) : ∃ a cap, v = .slice a xs.length cap ∧ Ts w a xs ∧ xs.length ≤ cap ∧ (a = none → cap = 0) := by
  have hn : xs.length = n := by have := h.1; simpa [tvals] using this
  rcases h.2 with ⟨rfl, h0⟩ | ⟨g, cap, cur, rfl, hg, hh, hnc, _, hs, htk⟩
  · exact ⟨none, 0, by rw [hn, h0], ⟨(fun h1 => by omega), ht⟩, by omega, fun _ => rfl⟩
  · refine ⟨some ⟨g, 0, none⟩, cap, by rw [hn], ⟨fun _ => ⟨g, 0, rfl, txt_lt hh, fun i hi => ?_⟩, ht⟩, by omega, fun e => by cases e⟩
    have e : (cur.toList.take (n * 1))[i]? = (tvals xs)[i]? := by rw [htk]
    rw [List.getElem?_take_of_lt (by omega), Array.getElem?_toList] at e
    rw [Nat.zero_add, cell_of_row w g _ _ 33 (0, 0) hh, e]
    simp [tvals, hi]
/-- A call that hands out texts, each in a block of its own, and leaves what was there as it was. -/
def GivesTexts (w : World) (ts : List (List UInt8)) (e : Ending) (w' : World) : Prop :=
  ∃ (a : Option Addr) (cap : Nat) (xs : List TxV), e = .returned (.slice a ts.length cap) ∧ xs.map TxV.text = ts ∧ Ts w' a xs ∧ Below w.heap.size w w'

/-- A text that lies in a block of its own, whatever of it is frozen. -/
def Txf (w : World) (s : Nat) (a : Option Addr) (l : List UInt8) : Prop :=
  0 < l.length → ∃ b cs fr, a = some ⟨b, 0, none⟩ ∧ s ≤ b ∧ w.heap[b]? = some (.cells cs 5 fr) ∧ ∀ i (h : i < l.length), cs[i]? = some (.int .u8 (l[i].toNat : Int))
theorem Txt.txf {w : World} {s : Nat} {a : Option Addr} {l : List UInt8} (h : Txt w s a l) : Txf w s a l := fun h0 => by
  obtain ⟨b, cs, e, hs, hh, hc⟩ := h h0
  exact ⟨b, cs, _, e, hs, hh, hc⟩
theorem Txf.bs {w : World} {s : Nat} {a : Option Addr} {l : List UInt8} (h : Txf w s a l) : Bs w w.heap.size a l := fun h0 => by
  obtain ⟨b, cs, fr, rfl, _, hh, hc⟩ := h h0
  refine ⟨b, 0, rfl, txt_lt hh, fun i hi => ?_⟩
  rw [Nat.zero_add, cell_of_row w b _ _ 5 fr hh]
  exact hc i hi
theorem Txf.less {w : World} {s s' : Nat} {a : Option Addr} {l : List UInt8} (h : Txf w s a l) (hs : s' ≤ s) : Txf w s' a l := fun h0 => by
  obtain ⟨b, cs, fr, e, hb, hh, hc⟩ := h h0
  exact ⟨b, cs, fr, e, by omega, hh, hc⟩
theorem Txf.keep {w w' : World} {s : Nat} {a : Option Addr} {l : List UInt8} (h : Txf w s a l) (hb : Below w.heap.size w w') : Txf w' s a l := fun h0 => by
  obtain ⟨b, cs, fr, e, hs, hh, hc⟩ := h h0
  exact ⟨b, cs, fr, e, hs, (hb.block b (txt_lt hh)).trans hh, hc⟩
theorem txf_grown {X Y : World} {row : Option Nat} {s : Nat} {a : Option Addr} {l : List UInt8} (h : Txf X s a l) (hg : X.grownBy Y row) (hr : ∀ r cs fr, row = some r → X.heap[r]? ≠ some (.cells cs 5 fr)) : Txf Y s a l := fun h0 => by
  obtain ⟨b, cs, fr, e, hs, hh, hc⟩ := h h0
  exact ⟨b, cs, fr, e, hs, (hg.block b (txt_lt hh) (fun e' => hr b cs _ e'.symm hh)).trans hh, hc⟩
/-- A string's bytes. -/
theorem conv_text_c (w : World) (l : List UInt8) : ∃ cap w', (convert 9 33 (.string (str l))).run Try.prog w = .ok (.slice (some ⟨w.heap.size, 0, none⟩) l.length cap) w' ∧ Txf w' w.heap.size (some ⟨w.heap.size, 0, none⟩) l ∧ Below w.heap.size w w' ∧ l.length ≤ cap := by
  refine ⟨grownCap w (str l).size 0 5, Lib.bytesWorld w 5 (str l), ?_, ?_, ?_, by rw [str_size]; exact grownCap_ge _ _ _ _⟩
  · rw [Lib.run_convert_string_bytes w 9 33 5 (str l) und9 und22 und5, str_size]
  · intro _
    refine ⟨_, _, _, rfl, Nat.le_refl _, Lib.bytesWorld_at_new w 5 (str l), fun i hi => ?_⟩
    unfold Lib.bytesCells
    rw [Array.getElem?_append_left (by simp [str, hi])]
    simp [str, hi]
  · refine ⟨rfl, rfl, rfl, by rw [Lib.bytesWorld_size]; omega, fun k hk => Lib.bytesWorld_at_old w 5 (str l) k hk⟩
theorem conv_text (w : World) (l : List UInt8) : ∃ cap w', (convert 9 33 (.string (str l))).run Try.prog w = .ok (.slice (some ⟨w.heap.size, 0, none⟩) l.length cap) w' ∧ Txf w' w.heap.size (some ⟨w.heap.size, 0, none⟩) l ∧ Below w.heap.size w w' := by
  obtain ⟨c, w', h1, h2, h3, _⟩ := conv_text_c w l
  exact ⟨c, w', h1, h2, h3⟩
/-- A block of two cells that is known whole. -/
def Blk2 (w : World) (g : Nat) (t : TypeId) (u0 u1 : Value) : Prop := w.heap[g]? = some (.cells #[u0, u1] t (0, 0))
theorem Blk2.lt {w : World} {g : Nat} {t : TypeId} {u0 u1 : Value} (h : Blk2 w g t u0 u1) : g < w.heap.size := txt_lt h
theorem Blk2.new (w : World) (t : TypeId) (u0 u1 : Value) : Blk2 (w.alloc (.cells #[u0, u1] t)) w.heap.size t u0 u1 := heap_alloc_new w _
theorem Blk2.same {w w' : World} {g : Nat} {t : TypeId} {u0 u1 : Value} (h : Blk2 w g t u0 u1) (e : w'.heap[g]? = w.heap[g]?) : Blk2 w' g t u0 u1 := e.trans h
theorem Blk2.keep {w w' : World} {B g : Nat} {t : TypeId} {u0 u1 : Value} (h : Blk2 w g t u0 u1) (hb : Below B w w') (hg : g < B) : Blk2 w' g t u0 u1 := (hb.block g hg).trans h
theorem Blk2.alloc {w : World} {g : Nat} {t : TypeId} {u0 u1 : Value} (h : Blk2 w g t u0 u1) (o : Obj) : Blk2 (w.alloc o) g t u0 u1 := h.same (Below.heap_alloc w o g h.lt)
theorem Blk2.grown {w w' : World} {row : Option Nat} {g : Nat} {t : TypeId} {u0 u1 : Value} (h : Blk2 w g t u0 u1) (hg : w.grownBy w' row) (hne : some g ≠ row) : Blk2 w' g t u0 u1 := h.same (hg.block g h.lt hne)
theorem Blk2.cells {w : World} {g : Nat} {t : TypeId} {u0 u1 : Value} (h : Blk2 w g t u0 u1) : w.cell? ⟨g, 0, none⟩ = some u0 ∧ w.cell? ⟨g, 1, none⟩ = some u1 := by
  unfold Blk2 at h
  refine ⟨?_, ?_⟩ <;> (rw [cell_of_row w g _ _ t (0, 0) h]; rfl)
theorem Blk2.free {w : World} {g : Nat} {t : TypeId} {u0 u1 : Value} (h : Blk2 w g t u0 u1) : w.frozen? ⟨g, 0, none⟩ = false ∧ w.frozen? ⟨g, 1, none⟩ = false := by
  unfold Blk2 at h
  refine ⟨?_, ?_⟩ <;> simp [World.frozen?, h]
theorem Blk2.put0 {w : World} {g : Nat} {t : TypeId} {u0 u1 : Value} (h : Blk2 w g t u0 u1) (v : Value) : Blk2 (w.setCell ⟨g, 0, none⟩ v) g t v u1 := by
  unfold Blk2 at h ⊢; rw [heap_set_same h]; rfl
theorem Blk2.put1 {w : World} {g : Nat} {t : TypeId} {u0 u1 : Value} (h : Blk2 w g t u0 u1) (v : Value) : Blk2 (w.setCell ⟨g, 1, none⟩ v) g t u0 v := by
  unfold Blk2 at h ⊢; rw [heap_set_same h]; rfl
theorem Blk2.far {w : World} {g b i : Nat} {t : TypeId} {u0 u1 : Value} (h : Blk2 w g t u0 u1) (hne : g ≠ b) (v : Value) : Blk2 (w.setCell ⟨b, i, none⟩ v) g t u0 u1 := h.same (Below.heap_setCell w ⟨b, i, none⟩ v g hne)

theorem grown_set (W : World) (b i : Nat) (v : Value) : W.grownBy (W.setCell ⟨b, i, none⟩ v) (some b) :=
  ⟨rfl, rfl, rfl, by simp, fun k _ hk => Below.heap_setCell W ⟨b, i, none⟩ v k (fun e => hk (by rw [e]))⟩
theorem own_succ {W : World} {base : Nat} {e : TypeId} {size : Nat} {v : Value} {k : Nat} {xs : List Value} (h : W.ownsRow base e size v (k + 1) xs) : ∃ g cap, v = .slice (some ⟨g, 0, none⟩) (k + 1) cap := by
  rcases h.2 with ⟨_, h0⟩ | ⟨g, cap, cur, rfl, _⟩
  · omega
  · exact ⟨g, cap, rfl⟩
theorem own_not_map {w : World} {base n g m : Nat} {v : Value} {xs : List Value} {S : List (List UInt8)} (h : w.ownsRow base 9 1 v n xs) (hm : MapOf w g m S) : some g ≠ v.ownBlock := fun e => by
  obtain ⟨_, _, cs, hh⟩ := own_block_lt h e.symm
  exact map_not hm hh
theorem own_far {w : World} {base e size n : Nat} {v : Value} {xs : List Value} (h : w.ownsRow base e size v n xs) (g : Nat) (hg : g < base) : some g ≠ v.ownBlock := fun q => by
  have := own_ge h q.symm
  omega
/-- What a set's fields tell: the texts that came, and those that aren't empty, in their order. -/
def IsSet (W : World) (m : Option Nat) (a : Option Addr) (came : List (List UInt8)) : Prop :=
  (m = none ∧ came = [] ∨ ∃ g n, m = some g ∧ MapOf W g n came) ∧ Ss W a (pats came)
theorem IsSet.keep {W W' : World} {m : Option Nat} {a : Option Addr} {came : List (List UInt8)} (h : IsSet W m a came) (hb : Below W.heap.size W W') : IsSet W' m a came := by
  refine ⟨h.1.imp id ?_, h.2.keep hb⟩
  rintro ⟨g, n, e, hm⟩
  exact ⟨g, n, e, hm.keep hb⟩
theorem isSet_zero (W : World) : IsSet W none none [] := ⟨.inl ⟨rfl, rfl⟩, ss_nil _ _⟩
theorem cell_same {W W' : World} {b o : Nat} (e : W'.heap[b]? = W.heap[b]?) : W'.cell? ⟨b, o, none⟩ = W.cell? ⟨b, o, none⟩ := by
  unfold World.cell?
  rw [e]
theorem Ss.far {W : World} {a : Option Addr} {xs : List (List UInt8)} {g j : Nat} {t : TypeId} {u0 u1 : Value} (h : Ss W a xs) (hk : Blk2 W g t u0 u1) (n0 : ∀ s, u0 ≠ .string s) (n1 : ∀ s, u1 ≠ .string s) (v : Value) : Ss (W.setCell ⟨g, j, none⟩ v) a xs := fun h0 => by
  obtain ⟨b, off, e, hlt, hc⟩ := h h0
  have hne : b ≠ g := by
    rintro rfl
    have h1 := hc 0 h0
    rw [cell_of_row W b _ _ t (0, 0) hk] at h1
    rcases off with _ | _ | off
    · exact n0 _ (by simpa using h1)
    · exact n1 _ (by simpa using h1)
    · simp at h1
  exact ⟨b, off, e, by simpa using hlt, fun i hi => (cell_same (Below.heap_setCell W ⟨g, j, none⟩ v b hne)).trans (hc i hi)⟩
theorem IsSet.far {W : World} {m : Option Nat} {a : Option Addr} {came : List (List UInt8)} {g j : Nat} {t : TypeId} {u0 u1 : Value} (h : IsSet W m a came) (hk : Blk2 W g t u0 u1) (n0 : ∀ s, u0 ≠ .string s) (n1 : ∀ s, u1 ≠ .string s) (v : Value) : IsSet (W.setCell ⟨g, j, none⟩ v) m a came := by
  refine ⟨h.1.imp id ?_, h.2.far hk n0 n1 v⟩
  rintro ⟨b, n, e, hm⟩
  exact ⟨b, n, e, hm.set (fun e => map_not hm (e ▸ hk)) v⟩
/-- A call that hands out a set, and leaves what was there as it was. -/
def GivesSet (w : World) (came : List (List UInt8)) (e : Ending) (w' : World) : Prop :=
  ∃ m a cap, e = .returned (.agg #[.map m, .slice a (pats came).length cap]) ∧ IsSet w' m a came ∧ Below w.heap.size w w'
/-- A set's memory lies from block s on. -/
def From (s : Nat) (m : Option Nat) (a : Option Addr) : Prop := (∀ g, m = some g → s ≤ g) ∧ ∀ ad : Addr, a = some ad → s ≤ ad.block
theorem From.less {s s' : Nat} {m : Option Nat} {a : Option Addr} (h : From s m a) (hs : s' ≤ s) : From s' m a := ⟨fun g e => Nat.le_trans hs (h.1 g e), fun ad e => Nat.le_trans hs (h.2 ad e)⟩
theorem own_from {w : World} {base e size n k c : Nat} {a : Option Addr} {xs : List Value} (h : w.ownsRow base e size (.slice a n c) k xs) : ∀ ad : Addr, a = some ad → base ≤ ad.block := by
  rintro ad rfl
  rcases h.2 with ⟨e, _⟩ | ⟨g, cap, cur, e, hg, _⟩
  · cases e
  · cases e; exact hg
theorem IsSet.grown {W W' : World} {row : Option Nat} {s : Nat} {m : Option Nat} {a : Option Addr} {came : List (List UInt8)} (h : IsSet W m a came) (hf : From s m a) (hg : W.grownBy W' row) (hr : ∀ r, row = some r → r < s) : IsSet W' m a came := by
  refine ⟨h.1.imp id ?_, fun h0 => ?_⟩
  · rintro ⟨g, n, rfl, hm⟩
    refine ⟨g, n, rfl, hm.grown hg fun e => ?_⟩
    have h1 := hr g e.symm
    have h2 := hf.1 g rfl
    omega
  · obtain ⟨b, off, rfl, hlt, hc⟩ := h.2 h0
    refine ⟨b, off, rfl, Nat.lt_of_lt_of_le hlt hg.size, fun i hi => (cell_same (hg.block b hlt fun e => ?_)).trans (hc i hi)⟩
    have h1 := hr b e.symm
    have h2 := hf.2 _ rfl
    simp only at h2
    omega
/-- A call that hands out a set in new memory. -/
def GivesSetF (w : World) (came : List (List UInt8)) (e : Ending) (w' : World) : Prop :=
  ∃ m a cap, e = .returned (.agg #[.map m, .slice a (pats came).length cap]) ∧ IsSet w' m a came ∧ Below w.heap.size w w' ∧ From w.heap.size m a
end Go.Proofs.Ytlmncljnnpnjmaa.Pat
/- Contracts of what a set tells. -/
namespace Go.Proofs.Ytlmncljnnpnjmaa.Pat
open Go.RowKit
set_option maxRecDepth 100000

end Go.Proofs.Ytlmncljnnpnjmaa.Pat
/- Contracts of patset.Of and Patterns. -/
namespace Go.Proofs.Ytlmncljnnpnjmaa.Pat
open Go.RowKit
set_option maxRecDepth 100000

theorem str_none (l : List UInt8) : (str l).toList.isEmpty = decide (l = []) := by
  rw [ByteArray.toList_eq]; show l.isEmpty = _; cases l <;> simp
theorem map_at (xs : List TxV) (k : Nat) (h : k < xs.length) : (xs.map TxV.text)[k]'(by simpa using h) = xs[k].text := by simp

/-- Texts, each with room. -/
def GivesTextsC (w : World) (ts : List (List UInt8)) (e : Ending) (w' : World) : Prop :=
  ∃ (a : Option Addr) (cap : Nat) (xs : List TxV), e = .returned (.slice a ts.length cap) ∧ xs.map TxV.text = ts ∧ Ts w' a xs ∧ (∀ x ∈ xs, x.text.length ≤ x.cap) ∧ Below w.heap.size w w'
end Go.Proofs.Ytlmncljnnpnjmaa.Pat
/- The contract of patset's texts: a file's lines, without case if that is asked for. -/
namespace Go.Proofs.Ytlmncljnnpnjmaa.Pat
open Go.RowKit Go.Shelf
set_option maxRecDepth 100000
attribute [local go_sem] Oper.semAt_some

/-- A text, without case if that is asked for. -/
def cased (f : Bool) (l : List UInt8) : List UInt8 := if f then lows l else l
/-- The texts of a file's lines. -/
def textsOf (f : Bool) (t : List UInt8) : List (List UInt8) := (linesOf t).map fun x => cased f x.text
theorem cased_len (f : Bool) (l : List UInt8) : (cased f l).length = l.length := by cases f <;> simp [cased, lows]

end Go.Proofs.Ytlmncljnnpnjmaa.Pat
/- The contract of patset.Load. -/
namespace Go.Proofs.Ytlmncljnnpnjmaa.Pat
open Go.RowKit
set_option maxRecDepth 100000

/-- The texts that come of a file. -/
def loaded (f : Bool) (t : List UInt8) : List (List UInt8) := if 1024 < t.length then [] else textsOf f t
/-- The error. -/
def code (t : List UInt8) : Nat := if 1024 < t.length then 12 else 0
theorem texts_len (f : Bool) (t : List UInt8) : (textsOf f t).length ≤ t.length := by unfold textsOf; rw [List.length_map]; exact lines_le t
theorem texts_mem (f : Bool) (t x : List UInt8) (h : x ∈ textsOf f t) : x.length ≤ t.length := by
  obtain ⟨y, hy, rfl⟩ := List.mem_map.1 h
  have := (lines_bound t y hy).1
  rw [cased_len]; omega
theorem loaded_mem (f : Bool) (t x : List UInt8) (h : x ∈ loaded f t) : x.length ≤ 1024 := by
  unfold loaded at h
  split at h
  · cases h
  · have := texts_mem f t x h; omega
theorem loaded_len (f : Bool) (t : List UInt8) : (loaded f t).length ≤ 1024 := by
  unfold loaded
  split
  · simp
  · have := texts_len f t; omega
def GivesLoad (w : World) (f : Bool) (t : List UInt8) (e : Ending) (w' : World) : Prop :=
  ∃ m a cap, e = .returned (.tuple #[.agg #[.map m, .slice a (pats (loaded f t)).length cap], .int .i64 (code t : Int)]) ∧ IsSet w' m a (loaded f t) ∧ Below w.heap.size w w'

/-- .. in new memory. -/
def GivesLoadF (w : World) (f : Bool) (t : List UInt8) (e : Ending) (w' : World) : Prop :=
  ∃ m a cap, e = .returned (.tuple #[.agg #[.map m, .slice a (pats (loaded f t)).length cap], .int .i64 (code t : Int)]) ∧ IsSet w' m a (loaded f t) ∧ Below w.heap.size w w' ∧ From w.heap.size m a

end Go.Proofs.Ytlmncljnnpnjmaa.Pat
/- Contracts of the reference's In, Size, Least. -/
namespace Go.Proofs.Ytlmncljnnpnjmaa.Pat
open Go.RowKit
set_option maxRecDepth 100000

theorem str_toList (l : List UInt8) : (str l).toList = l := by rw [ByteArray.toList_eq]; rfl
theorem str_beq (x y : List UInt8) : ((str x).toList == (str y).toList) = decide (x = y) := by
  rw [str_toList, str_toList]
  by_cases h : x = y <;> simp [h]

end Go.Proofs.Ytlmncljnnpnjmaa.Pat
/- Contracts of the reference's Of, Load; of the statements' own 'texts'. -/
namespace Go.Proofs.Ytlmncljnnpnjmaa.Pat
open Go.RowKit
set_option maxRecDepth 100000

/-- A call that hands out the reference's set, and leaves what was there as it was. -/
def GivesRSet (w : World) (came : List (List UInt8)) (e : Ending) (w' : World) : Prop :=
  ∃ a cap, e = .returned (.agg #[.slice a (pats came).length cap, .bool (decide ([] ∈ came))]) ∧ Ss w' a (pats came) ∧ Below w.heap.size w w'

theorem block_app {W W' : World} {g base e size n : Nat} {v : Value} {xs : List Value} {O : Obj} (hg : (W.alloc O).drew.grownBy W' v.ownBlock) (hown : W.ownsRow base e size v n xs) (hlt : g < base) (hW : g < W.heap.size) : W'.heap[g]? = W.heap[g]? :=
  (hg.block g (by show g < (W.alloc O).heap.size; simp; omega) (own_far hown g hlt)).trans (Below.heap_alloc W O g hW)
theorem keep_app {W W' : World} {g o base e size n : Nat} {v u : Value} {xs : List Value} {O : Obj} (hc : W.cell? ⟨g, o, none⟩ = some u) (hg : (W.alloc O).drew.grownBy W' v.ownBlock) (hown : W.ownsRow base e size v n xs) (hlt : g < base) (hW : g < W.heap.size) : W'.cell? ⟨g, o, none⟩ = some u :=
  (cell_same (block_app hg hown hlt hW)).trans hc
end Go.Proofs.Ytlmncljnnpnjmaa.Pat
/- Contracts of the reference's Load; of the statements' own 'texts'. -/
namespace Go.Proofs.Ytlmncljnnpnjmaa.Pat
open Go.RowKit
set_option maxRecDepth 100000

/-- A slice of the reference's lines that reads as ls. -/
def Rs (W : World) (a : Option Addr) (ls : List Ln) : Prop :=
  0 < ls.length → ∃ b off, a = some ⟨b, off, none⟩ ∧ b < W.heap.size ∧ ∀ i (h : i < ls.length), W.cell? ⟨b, off + i * 3, none⟩ = some (.int .i64 (ls[i].off : Int)) ∧
    W.cell? ⟨b, off + i * 3 + 1, none⟩ = some (.string (str ls[i].text)) ∧ W.cell? ⟨b, off + i * 3 + 2, none⟩ = some (.bool ls[i].ends)
theorem Rs.keep {W W' : World} {a : Option Addr} {ls : List Ln} (h : Rs W a ls) (hb : Below W.heap.size W W') : Rs W' a ls := fun h0 => by
  obtain ⟨b, off, e, hlt, hc⟩ := h h0
  refine ⟨b, off, e, Nat.lt_of_lt_of_le hlt hb.size, fun i hi => ?_⟩
  obtain ⟨h1, h2, h3⟩ := hc i hi
  exact ⟨(hb.cell (p := ⟨b, _, none⟩) hlt).trans h1, (hb.cell (p := ⟨b, _, none⟩) hlt).trans h2, (hb.cell (p := ⟨b, _, none⟩) hlt).trans h3⟩
theorem rflat_at : ∀ (xs : List Ln) (i j : Nat), j < 3 → (h : i < xs.length) → (xs.flatMap rcells)[i * 3 + j]? = (rcells xs[i])[j]?
  | [], i, j, _, h => absurd h (by simp)
  | x :: xs, 0, j, hj, _ => by
    rw [List.flatMap_cons, List.getElem?_append_left (by simp [rcells]; omega)]
    simp
  | x :: xs, i + 1, j, hj, h => by
    have h' : i < xs.length := by simpa using h
    rw [List.flatMap_cons, List.getElem?_append_right (by simp [rcells]; omega)]
    have e : (i + 1) * 3 + j - (rcells x).length = i * 3 + j := by simp [rcells]; omega
    rw [e, rflat_at xs i j hj h']
    rfl
/-- The reference's set of a file, and the error. -/
def GivesRLoad (w : World) (f : Bool) (t : List UInt8) (e : Ending) (w' : World) : Prop :=
  ∃ a cap, e = .returned (.tuple #[.agg #[.slice a (pats (loaded f t)).length cap, .bool (decide ([] ∈ loaded f t))], .int .i64 (code t : Int)]) ∧ Ss w' a (pats (loaded f t)) ∧ Below w.heap.size w w'

end Go.Proofs.Ytlmncljnnpnjmaa.Pat
/- The contract of the statements' own 'texts'. -/
namespace Go.Proofs.Ytlmncljnnpnjmaa.Pat
open Go.RowKit
set_option maxRecDepth 100000

def GivesL (w : World) (xs : List TxV) (e : Ending) (w' : World) : Prop :=
  Below w.heap.size w w' ∧ ((¬ ∀ x ∈ xs, x.text.length ≤ 300) ∧ e = .returned (.tuple #[.slice none 0 0, .bool false]) ∨
    (∀ x ∈ xs, x.text.length ≤ 300) ∧ ∃ a' cap', e = .returned (.tuple #[.slice a' xs.length cap', .bool (decide (xs.length ≤ 60))]) ∧ Ss w' a' (xs.map TxV.text))

end Go.Proofs.Ytlmncljnnpnjmaa.Pat
/- The contract of the statements' own 'same'. -/
namespace Go.Proofs.Ytlmncljnnpnjmaa.Pat
open Go.RowKit
set_option maxRecDepth 100000
attribute [local go_sem ↓] Go.wp_at_zero Go.wp_at_succ

theorem IsSet.ss {W : World} {m : Option Nat} {a : Option Addr} {came : List (List UInt8)} (h : IsSet W m a came) : Ss W a (pats came) := h.2
theorem sameS {w w2 X Y : World} {m : Option Nat} {a a2 : Option Addr} {n cap cap2 : Nat} {e : Bool} (hb : Below X.heap.size X Y) (h : X.cell? ⟨w.heap.size, 0, none⟩ = some (.map m) ∧ X.cell? ⟨w.heap.size, 1, none⟩ = some (.slice a n cap) ∧ X.cell? ⟨w.heap.size + 1, 0, none⟩ = some (.slice a2 n cap2) ∧ X.cell? ⟨w.heap.size + 1, 1, none⟩ = some (.bool e) ∧ Below w2.heap.size w2 X) : Y.cell? ⟨w.heap.size, 0, none⟩ = some (.map m) ∧ Y.cell? ⟨w.heap.size, 1, none⟩ = some (.slice a n cap) ∧ Y.cell? ⟨w.heap.size + 1, 0, none⟩ = some (.slice a2 n cap2) ∧ Y.cell? ⟨w.heap.size + 1, 1, none⟩ = some (.bool e) ∧ Below w2.heap.size w2 Y := by
  obtain ⟨x0, x1, y0, y1, bel⟩ := h
  have k : ∀ (g j : Nat) (v : Value), X.cell? ⟨g, j, none⟩ = some v → Y.cell? ⟨g, j, none⟩ = some v := fun g j v hv => (hb.cell (p := ⟨g, j, none⟩) (World.block_lt_of_cell? X _ hv)).trans hv
  exact ⟨k _ _ _ x0, k _ _ _ x1, k _ _ _ y0, k _ _ _ y1, bel.trans (hb.mono bel.size)⟩

theorem belS {w w2 X : World} {m : Option Nat} {a a2 : Option Addr} {n cap cap2 : Nat} {e : Bool} (h : X.cell? ⟨w.heap.size, 0, none⟩ = some (.map m) ∧ X.cell? ⟨w.heap.size, 1, none⟩ = some (.slice a n cap) ∧ X.cell? ⟨w.heap.size + 1, 0, none⟩ = some (.slice a2 n cap2) ∧ X.cell? ⟨w.heap.size + 1, 1, none⟩ = some (.bool e) ∧ Below w2.heap.size w2 X) : Below w2.heap.size w2 X := h.2.2.2.2
end Go.Proofs.Ytlmncljnnpnjmaa.Pat
/- The document's examples, and the contract of awake. -/
namespace Go.Proofs.Ytlmncljnnpnjmaa.Pat
open Go.RowKit
set_option maxRecDepth 100000

def A1 : List (List UInt8) := [[97, 98], [97], [97, 98]]
def A2 : List (List UInt8) := [[97], []]
def A3 : List (List UInt8) := [[97, 98], [97, 98]]
theorem ex1 : loaded false [97, 98, 10, 97, 10, 97, 98] = A1 := by decide +kernel
theorem ex2 : loaded false [97, 10, 10] = A2 := by decide +kernel
theorem ex3 : loaded true [65, 98, 10, 97, 66] = A3 := by decide +kernel
theorem pt1 : pats A1 = [[97, 98], [97]] := by decide +kernel
theorem pt2 : pats A2 = [[97]] := by decide +kernel
theorem pt3 : pats A3 = [[97, 98]] := by decide +kernel

theorem isSet_app {W : World} {m : Option Nat} {a : Option Addr} {A : List (List UInt8)} (h : IsSet W m a A) (o : Obj) : IsSet (W.alloc o) m a A := h.keep ((Below.refl _ _).alloc (Nat.le_refl _) _)

theorem const_at (w : World) (g : Nat) (hg : g = w.heap.size) (C : Array Value) (n c : Nat) :
    (convert 33 33 (.slice (some ⟨g, 0, none⟩) n c)).run Try.prog (w.alloc (.cells C 5)) = .ok (.slice (some ⟨g, 0, none⟩) n c) (w.alloc (.cells C 5 (C.size, C.size + 1))) := by
  subst hg
  exact Lib.run_convert_bytes_const w 33 5 C n c und22 und5
theorem bs_lit_at (w : World) (g : Nat) (l : List UInt8) (fr : Nat × Nat) (cs : Array Value) (hg : g = w.heap.size) (hcs : cs = (l.map fun c => Value.int .u8 (c.toNat : Int)).toArray) :
    Bs (w.alloc (.cells cs 5 fr)) (w.alloc (.cells cs 5 fr)).heap.size (some ⟨g, 0, none⟩) l := by
  subst hg; exact bs_lit w l fr cs hcs
theorem below_new (w : World) (x : Obj) : Below w.heap.size w (w.alloc x) := (Below.refl _ _).alloc (Nat.le_refl _) _
end Go.Proofs.Ytlmncljnnpnjmaa.Pat
/- What the statements on sets of texts come to, as plain mathematics. -/
namespace Go.Proofs.Ytlmncljnnpnjmaa.Pat
set_option maxRecDepth 100000

/-- Did a text come? By the patterns and the empty one. -/
theorem came_iff (l : List (List UInt8)) (b : List UInt8) : (decide (b ∈ pats l) || (decide (b = []) && decide ([] ∈ l))) = decide (b ∈ l) := by
  by_cases hb : b = []
  · subst hb
    have : ([] : List UInt8) ∉ pats l := fun h => ((mem_pats l []).1 h).2 rfl
    simp [this]
  · have : (b ∈ pats l) = (b ∈ l) := propext ⟨fun h => ((mem_pats l b).1 h).1, fun h => (mem_pats l b).2 ⟨h, hb⟩⟩
    simp [this, hb]

/-- Texts that came already change nothing. -/
theorem foldl_add_in (m : List (List UInt8)) : ∀ s : List (List UInt8), (∀ x ∈ m, x = [] ∨ x ∈ s) → m.foldl add s = s := by
  induction m with
  | nil => intro s _; rfl
  | cons x m ih =>
    intro s h
    have e : add s x = s := by unfold add; rw [if_pos (h x (by simp))]
    rw [List.foldl_cons, e]
    exact ih s (fun y hy => h y (by simp [hy]))
theorem pats_append_in (l m : List (List UInt8)) (h : ∀ x ∈ m, x = [] ∨ x ∈ l) : pats (l ++ m) = pats l := by
  unfold pats
  rw [List.foldl_append]
  refine foldl_add_in m _ fun x hx => ?_
  by_cases e : x = []
  · exact .inl e
  · exact .inr ((mem_pats l x).2 ⟨(h x hx).resolve_left e, e⟩)

/-- The first place of a text; the length, if it isn't there. -/
def idx (l : List (List UInt8)) (x : List UInt8) : Nat := l.findIdx (· == x)
theorem idx_le (l : List (List UInt8)) (x : List UInt8) : idx l x ≤ l.length := List.findIdx_le_length
theorem idx_lt (l : List (List UInt8)) (x : List UInt8) (h : x ∈ l) : idx l x < l.length := List.findIdx_lt_length_of_exists ⟨x, h, by simp⟩
theorem idx_at (l : List (List UInt8)) (x : List UInt8) (h : idx l x < l.length) : l[idx l x] = x := by
  have := List.findIdx_getElem (w := h)
  exact beq_iff_eq.1 this
theorem idx_not (l : List (List UInt8)) (x : List UInt8) (k : Nat) (h : k < idx l x) : l[k]'(Nat.lt_of_lt_of_le h (idx_le l x)) ≠ x := by
  have := List.not_of_lt_findIdx h
  simpa using this
theorem idx_append_in (l m : List (List UInt8)) (x : List UInt8) (h : x ∈ l) : idx (l ++ m) x = idx l x := by
  unfold idx
  rw [List.findIdx_append]; exact if_pos (idx_lt l x h)
theorem idx_append_out (l : List (List UInt8)) (x : List UInt8) (h : x ∉ l) : idx (l ++ [x]) x = l.length := by
  unfold idx
  have hn : ¬ l.findIdx (· == x) < l.length := fun hlt => by
    have := List.findIdx_getElem (w := hlt)
    exact h (by have e := beq_iff_eq.1 this; exact e ▸ List.getElem_mem hlt)
  rw [List.findIdx_append, if_neg hn]
  simp
theorem pats_rise : ∀ (n : Nat) (l : List (List UInt8)), l.length = n → (pats l).Pairwise (fun x y => idx l x < idx l y) := by
  intro n
  induction n with
  | zero =>
    intro l h
    rw [List.eq_nil_of_length_eq_zero h]
    exact List.Pairwise.nil
  | succ n ih =>
    intro l h
    obtain ⟨m, x, rfl⟩ : ∃ m x, l = m ++ [x] := by
      rcases List.eq_nil_or_concat l with rfl | ⟨m, x, e⟩
      · simp at h
      · exact ⟨m, x, by simpa using e⟩
    have hm : m.length = n := by simpa using h
    have hp := ih m hm
    have hp2 : (pats m).Pairwise (fun a b => idx (m ++ [x]) a < idx (m ++ [x]) b) := by
      refine hp.imp_of_mem fun {a b} ha hb hab => ?_
      rw [idx_append_in _ _ _ ((mem_pats m a).1 ha).1, idx_append_in _ _ _ ((mem_pats m b).1 hb).1]
      exact hab
    rw [pats_snoc]
    by_cases hx : x ∈ m
    · rw [add_in m x hx]; exact hp2
    · by_cases hn : x = []
      · rw [hn, add_nil]; rw [hn] at hp2; exact hp2
      · rw [add_new m x hx hn]
        refine List.pairwise_append.2 ⟨hp2, List.pairwise_singleton _ _, fun a ha b hb => ?_⟩
        rw [List.mem_singleton] at hb
        subst hb
        have h1 := ((mem_pats m a).1 ha).1
        rw [idx_append_in _ _ _ h1, idx_append_out _ _ hx]
        exact idx_lt m a h1
theorem pats_next (l : List (List UInt8)) (i j : Nat) (hij : i < j) (hj : j < (pats l).length) : idx l ((pats l)[i]'(by omega)) < idx l (pats l)[j] :=
  List.pairwise_iff_getElem.1 (pats_rise _ l rfl) i j (by omega) hj hij

/-- Without case. -/
theorem low_low (c : UInt8) : low (low c) = low c := by
  apply UInt8.toNat_inj.1
  rw [low_nat (low c), low_nat c]
  by_cases h : 65 ≤ c.toNat ∧ c.toNat ≤ 90
  · simp only [if_pos h]
    exact if_neg (by omega)
  · simp only [if_neg h]
theorem lows_lows (l : List UInt8) : lows (lows l) = lows l := by
  unfold lows
  rw [List.map_map]
  exact List.map_congr_left fun c _ => low_low c
theorem low_ten (c : UInt8) : low c = 10 ↔ c = 10 := by
  constructor
  · intro h
    have := congrArg UInt8.toNat h
    rw [low_nat] at this
    have hlt := c.toNat_lt
    apply UInt8.toNat_inj.1
    have h10 : (10 : UInt8).toNat = 10 := rfl
    rw [h10] at this ⊢
    split at this <;> omega
  · rintro rfl; rfl
theorem goes_lows : ∀ (t : List UInt8) (off : Nat) (cur : List UInt8), (goes off (lows cur) (lows t)).map Ln.text = (goes off cur t).map (fun x => lows x.text)
  | [], off, cur => by
    show (goes off (lows cur) []).map _ = _
    rw [goes_nil, goes_nil]
    by_cases h : cur = []
    · subst h; rfl
    · have h2 : lows cur ≠ [] := by simpa [lows] using h
      rw [if_neg h, if_neg h2]; rfl
  | c :: t, off, cur => by
    by_cases hc : c = 10
    · subst hc
      have e : lows (10 :: t) = 10 :: lows t := rfl
      rw [e, goes_newline, goes_newline, List.map_cons, List.map_cons]
      have := goes_lows t (off + (lows cur).length + 1) []
      have e2 : (lows cur).length = cur.length := by simp [lows]
      rw [e2] at this ⊢
      show lows cur :: _ = lows cur :: _
      rw [← this]; rfl
    · have e : lows (c :: t) = low c :: lows t := rfl
      have hc2 : low c ≠ 10 := fun h => hc ((low_ten c).1 h)
      rw [e, goes_byte _ _ _ _ hc2, goes_byte _ _ _ _ hc]
      have := goes_lows t off (cur ++ [c])
      have e2 : lows (cur ++ [c]) = lows cur ++ [low c] := by simp [lows]
      rw [e2] at this
      exact this
theorem texts_lows (t : List UInt8) : textsOf true t = textsOf false (lows t) := by
  have := goes_lows t 0 []
  unfold textsOf linesOf
  rw [show (lows [] : List UInt8) = [] from rfl] at this
  have e1 : (fun x : Ln => cased true x.text) = fun x => lows x.text := rfl
  have e2 : (fun x : Ln => cased false x.text) = Ln.text := rfl
  rw [e1, e2, this]
theorem loaded_lows (t : List UInt8) : loaded true t = loaded false (lows t) := by
  have e : (lows t).length = t.length := by simp [lows]
  unfold loaded
  rw [e, texts_lows]
theorem loaded_fixed (t x : List UInt8) (h : x ∈ loaded true t) : lows x = x := by
  unfold loaded at h
  split at h
  · cases h
  · obtain ⟨y, _, rfl⟩ := List.mem_map.1 h
    exact lows_lows y.text

/-- A file twice, with a newline between. -/
def twice (t : List UInt8) : List UInt8 := t ++ [10] ++ t
theorem texts_twice (f : Bool) (t : List UInt8) : ∃ m, textsOf f (twice t) = textsOf f t ++ m ∧ (∀ x ∈ m, x = [] ∨ x ∈ textsOf f t) ∧ (([] : List UInt8) ∈ m ↔ openB t = false ∨ ([] : List UInt8) ∈ textsOf f t) := by
  unfold twice
  have hp := lines_parts t t
  have hsh : ((linesOf t).map (Ln.shift (t ++ [10]).length)).map (fun x => cased f x.text) = textsOf f t := by
    unfold textsOf
    rw [List.map_map]; rfl
  cases ho : openB t
  · refine ⟨[] :: textsOf f t, ?_, ?_, ?_⟩
    · unfold textsOf
      rw [hp, List.map_append, lines_shut t ho, List.map_append]
      have e : cased f [] = [] := by cases f <;> rfl
      have := hsh
      unfold textsOf at this
      rw [this]
      simp [e]
    · intro x hx
      rcases List.mem_cons.1 hx with rfl | hx
      · exact .inl rfl
      · exact .inr hx
    · simp
  · obtain ⟨ls, o, c, h1, h2⟩ := lines_open t ho
    refine ⟨textsOf f t, ?_, fun x hx => .inr hx, by simp⟩
    have e : textsOf f (t ++ [10]) = textsOf f t := by
      unfold textsOf; rw [h1, h2]; simp
    have := hsh
    unfold textsOf at this e ⊢
    rw [hp, List.map_append, this, e]
theorem loaded_twice (f : Bool) (t : List UInt8) (h : t.length ≤ 500) : pats (loaded f (twice t)) = pats (loaded f t) ∧ (([] : List UInt8) ∈ loaded f (twice t) ↔ ([] : List UInt8) ∈ loaded f t ∨ openB t = false) := by
  have h1 : (twice t).length ≤ 1001 := by simp [twice]; omega
  have e1 : loaded f (twice t) = textsOf f (twice t) := by unfold loaded; rw [if_neg (by omega)]
  have e2 : loaded f t = textsOf f t := by unfold loaded; rw [if_neg (by omega)]
  obtain ⟨m, hm, hin, hnil⟩ := texts_twice f t
  rw [e1, e2, hm]
  refine ⟨pats_append_in _ _ hin, ?_⟩
  rw [List.mem_append, hnil]
  constructor
  · rintro (h | h | h)
    · exact .inl h
    · exact .inr h
    · exact .inl h
  · rintro (h | h)
    · exact .inl h
    · exact .inr (.inl h)

/-- The shortest pattern has a byte, if there is a pattern. -/
theorem leastTo_pos (l : List (List UInt8)) (h : ∀ x ∈ l, x ≠ []) : ∀ k, 0 < k → k ≤ l.length → 0 < leastTo l k := by
  intro k
  induction k with
  | zero => intro h0; omega
  | succ k ih =>
    intro _ hk
    have hx : 0 < l[k].length := List.length_pos_iff.2 (h _ (List.getElem_mem (by omega)))
    by_cases hc : k = 0 ∨ l[k].length < leastTo l k
    · rw [leastTo_yes l k (by omega) hc]; exact hx
    · rw [leastTo_no l k (by omega) (fun e => hc (.inl e)) (fun e => hc (.inr e))]
      exact ih (by omega) (by omega)
theorem cap_math (l : List (List UInt8)) : decide ((0 : Int) < (((pats l).length : Nat) : Int) + ((bytesIn (pats l) : Nat) : Int)) = decide ((0 : Int) < ((leastLen (pats l) : Nat) : Int)) := by
  apply decide_eq_decide.2
  by_cases h : (pats l).length = 0
  · have e : pats l = [] := List.eq_nil_of_length_eq_zero h
    rw [e]; simp [bytesIn, leastLen, leastTo]
  · have h1 := leastTo_pos (pats l) (fun x hx => ((mem_pats l x).1 hx).2) (pats l).length (by omega) (Nat.le_refl _)
    unfold leastLen
    omega
end Go.Proofs.Ytlmncljnnpnjmaa.Pat
