/- What is told at windows of a line, and a Walter in memory. -/
import Derived.Test.YtmbglghpnloggaaGH
namespace Go.Proofs.Ytmbglghpnloggaa.Wal
open Go.Proofs.Ytmbglghpnloggaa.Tri Go.Proofs.Ytmbglghpnloggaa.Lnk Go.Proofs.Ytmbglghpnloggaa.Prs Go.Proofs.Ytmbglghpnloggaa.Spa Go.Proofs.Ytmbglghpnloggaa.Cwl Go.Proofs.Ytmbglghpnloggaa.Bck Go.Proofs.Ytmbglghpnloggaa.Shf Go.Proofs.Ytmbglghpnloggaa.Reg Go.RowKit Go.Maps
set_option maxRecDepth 100000
set_option linter.unusedVariables false

/-- One byte more fits, just where fewer than fit have been gone through. -/
theorem fits_next {p : List Tx} {line : Tx} {e n : Nat} (hn : n < e) (hf : n ≤ fits p line e) : backN line e (n + 1) ∈ p ↔ n < fits p line e := by
  constructor
  · intro h
    rcases Nat.lt_or_ge n (fits p line e) with h1 | h1
    · exact h1
    · have e1 : n = fits p line e := by omega
      have := fits_stop p line e (by omega)
      rw [← e1] at this
      exact absurd h this
  · intro h
    exact fits_in p line e (n + 1) (by omega) (by omega)
theorem backN_zero (line : Tx) (e : Nat) : backN line e 0 = [] := by
  unfold backN
  rw [Nat.sub_zero, List.drop_of_length_le (by rw [List.length_take]; omega)]
  rfl
theorem windows_go {l : List Tx} {line : Tx} {f e : Nat} (he : e ≤ line.length) (hf : line.length < e + f) : windows l line f e = e :: windows l line (f - 1) (e + moveOf l line e) := by
  obtain ⟨g, rfl⟩ : ∃ g, f = g + 1 := ⟨f - 1, by omega⟩
  rw [windows, if_pos he, Nat.add_sub_cancel]
theorem windows_end {l : List Tx} {line : Tx} {f e : Nat} (he : line.length < e) : windows l line f e = [] := by
  cases f with
  | zero => rfl
  | succ f => rw [windows, if_neg (by omega)]
theorem move_is (l : List Tx) (line : Tx) (e : Nat) (he : e ≤ line.length) : moveOf l line e = (if fits (paths (turned l)) line e < e then farOf (turned l) (paths (turned l)) (backN line e (fits (paths (turned l)) line e)) (line.getD (e - 1 - fits (paths (turned l)) line e) 0) else secondOf (turned l) (backN line e (fits (paths (turned l)) line e))) := by
  have hfe := fits_le (paths (turned l)) line e
  have hnl : (backN line e (fits (paths (turned l)) line e)).length = fits (paths (turned l)) line e := backN_len he hfe
  unfold moveOf
  simp only [hnl]
  by_cases h : fits (paths (turned l)) line e < e
  · rw [if_pos h, List.getD_eq_getElem?_getD, List.getElem?_eq_getElem (by omega)]
    exact if_pos h
  · rw [if_neg h]
    split
    · exact if_neg h
    · rfl
theorem winds_len (l : List Tx) (line : Tx) : ∀ f e, (windows l line f e).length ≤ f
  | 0, e => Nat.le_refl _
  | f + 1, e => by
    rw [windows]
    split
    · have := winds_len l line f (e + moveOf l line e)
      simp; omega
    · simp
/-- Where texts begin that end at a window, behind n bytes that were gone back through. -/
def startsTo (l : List Tx) (line : Tx) (e : Nat) : Nat → List Int
  | 0 => []
  | n + 1 => startsTo l line e n ++ if backN line e (n + 1) ∈ turned l then [((e - (n + 1) : Nat) : Int)] else []
theorem starts_len (l : List Tx) (line : Tx) (e : Nat) : ∀ n, (startsTo l line e n).length ≤ n
  | 0 => Nat.le_refl _
  | n + 1 => by
    have := starts_len l line e n
    rw [startsTo, List.length_append]
    split <;> simp <;> omega
theorem starts_hit {l : List Tx} {line : Tx} {e n : Nat} (h : backN line e (n + 1) ∈ turned l) : startsTo l line e (n + 1) = startsTo l line e n ++ [((e - (n + 1) : Nat) : Int)] := by rw [startsTo, if_pos h]
theorem starts_skip {l : List Tx} {line : Tx} {e n : Nat} (h : backN line e (n + 1) ∉ turned l) : startsTo l line e (n + 1) = startsTo l line e n := by rw [startsTo, if_neg h, List.append_nil]
/-- .. behind all that fit. -/
def startsOf (l : List Tx) (line : Tx) (e : Nat) : List Int := startsTo l line e (fits (paths (turned l)) line e)
/-- What is told of a window, as pairs. -/
def pairsAt (l : List Tx) (line : Tx) (e : Nat) : List Pr := (startsOf l line e).map fun s => ⟨s, (e : Int)⟩
theorem found_to (l : List Tx) (line : Tx) (e : Nat) : ∀ n, n ≤ e → ((List.range (n + 1)).flatMap fun n => if backN line e n ∈ turned l then [(⟨(e : Int) - n, (e : Int)⟩ : Pr)] else []) = (startsTo l line e n).map fun s => ⟨s, (e : Int)⟩
  | 0, _ => by
    have : ([] : Tx) ∉ turned l := fun h => by have := turned_ne h; simp at this
    simp [startsTo, backN_zero, this]
  | n + 1, h => by
    rw [List.range_succ, List.flatMap_append, found_to l line e n (by omega), startsTo, List.map_append]
    congr 1
    simp only [List.flatMap_cons, List.flatMap_nil, List.append_nil]
    split
    · simp; omega
    · rfl
theorem found_starts (l : List Tx) (line : Tx) (e : Nat) : foundAt l line e = pairsAt l line e := found_to l line e _ (fits_le _ _ _)
theorem pairs_len {l : List Tx} {line : Tx} {e : Nat} (he : e ≤ line.length) (hl : line.length ≤ 1000) : (pairsAt l line e).length ≤ 1000 := by
  rw [pairsAt, List.length_map]
  have h1 := starts_len l line e (fits (paths (turned l)) line e)
  have h2 := fits_le (paths (turned l)) line e
  exact Nat.le_trans h1 (by omega)
theorem flat_len {α : Type} (f : Nat → List α) (B : Nat) : ∀ d : List Nat, (∀ e ∈ d, (f e).length ≤ B) → (d.flatMap f).length ≤ d.length * B
  | [], _ => by simp
  | e :: d, h => by
    have h1 := h e (by simp)
    have h2 := flat_len f B d fun x hx => h x (by simp [hx])
    rw [List.flatMap_cons, List.length_append, List.length_cons, Nat.succ_mul]; omega
/-- The windows of a line. -/
def windsN (l : List Tx) (line : Tx) : List Nat := if turned l = [] then [] else windows l line (line.length + 1) (Cwl.leastOf (turned l))
/-- All that is found. -/
theorem found_winds (l : List Tx) (line : Tx) : norm ((windsN l line).flatMap (pairsAt l line)) = scanOf l line := by
  unfold windsN
  split
  · rename_i h
    have : scanOf l line = [] := by
      refine List.eq_nil_iff_forall_not_mem.2 fun r hr => ?_
      obtain ⟨a, b, hab, hb, hm, _⟩ := (mem_scan l line r).1 hr
      have h2 : ((line.take b).drop a).reverse ∈ turned l := by
        rw [mem_turned]
        refine ⟨fun h => ?_, by simpa using hm⟩
        have := congrArg List.length h
        rw [List.length_reverse, List.length_drop, List.length_take] at this
        simp at this; omega
      rw [h] at h2
      cases h2
    rw [this]; rfl
  · rename_i h
    rw [← found_all h]
    congr 1
    exact flat_congr _ fun e _ => (found_starts l line e).symm
/-- A Walter of some texts; nil is that of no texts. -/
def Cw (w : World) (p : Option Addr) (l : List Tx) : Prop :=
  (p = none → turned l = []) ∧ ∀ a, p = some a → ∃ b x ps, a = ⟨b, 0, none⟩ ∧ w.heap[b]? = some (.cells #[.pointer (some ⟨x, 0, none⟩), .pointer ps, .int .i64 (Cwl.leastOf (turned l) : Int)] 57 (0, 0)) ∧ (∃ s, Bk w s x l) ∧ Sh w ps l
theorem Cw.keep {w w' : World} {p : Option Addr} {l : List Tx} (h : Cw w p l) (hb : Below w.heap.size w w') : Cw w' p l :=
  ⟨h.1, fun a ha => by
    obtain ⟨b, x, ps, e, h1, ⟨s, h2⟩, h3⟩ := h.2 a ha
    exact ⟨b, x, ps, e, (hb.block _ (txt_lt h1)).trans h1, ⟨s, h2.keep hb⟩, h3.keep hb⟩⟩
theorem cw_none (w : World) : Cw w none [] := ⟨fun _ => rfl, fun a h => by cases h⟩
def GivesCw (w : World) (l : List Tx) (e : Ending) (w' : World) : Prop := ∃ p, e = .returned (.pointer p) ∧ Cw w' p l ∧ Below w.heap.size w w'
/-- What is told of each window, and what holds behind some. -/
structure Tell (l : List Tx) (line : Tx) (fn : FuncId) (caps : Array Value) (I : List Nat → World → Prop) : Prop where
  call : ∀ (args : Array Value) (w : World), (callFunc fn args).run Try.prog w = .ok (.enter fn args) w
  keep : ∀ d W W', I d W → Below W.heap.size W W' → I d W'
  hit : ∀ d e W s A n c, I d W → e ≤ line.length → d.length ≤ 1001 → W.ownsRow s 3 1 (.slice A n c) n (ivals (startsOf l line e)) →
    Calls Try.prog fn (#[.int .i64 (e : Int), .slice A n c] ++ caps) W fun x W' => x = .returned (.tuple #[]) ∧ I (d ++ [e]) W'
end Go.Proofs.Ytmbglghpnloggaa.Wal
