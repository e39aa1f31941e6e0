/- What package cuts answers: Places; a piece. -/
import Derived.OwnWalk
import Derived.Test.YtlpjghhmacobdaaGL
import Derived.Test.YtlpjghhmacobdaaGM
import Derived.Test.YtlpjghhmacobdaaCutMath
namespace Go.Proofs.Ytlpjghhmacobdaa.Cts
open Go.Proofs.Ytlpjghhmacobdaa.Tri Go.Proofs.Ytlpjghhmacobdaa.Lnk Go.Proofs.Ytlpjghhmacobdaa.Reg Go.RowKit Go.Maps
set_option maxRecDepth 100000
set_option linter.unusedVariables false

def ints (l : List Nat) : List Int := l.map fun (n : Nat) => (n : Int)
theorem ints_len (l : List Nat) : (ints l).length = l.length := by simp [ints]
theorem ints_snoc (l : List Nat) (n : Nat) : ints (l ++ [n]) = ints l ++ [(n : Int)] := by simp [ints]
/-- A call that hands out numbers in a row that is new. -/
def GivesRow (w : World) (l : List Int) (e : Ending) (w' : World) : Prop := ∃ v, e = .returned v ∧ w'.ownsRow w.heap.size 3 1 v l.length (ivals l) ∧ Below w.heap.size w w'
theorem GivesRow.ints {w : World} {l : List Int} {e : Ending} {w' : World} (h : GivesRow w l e w') : GivesInts w l e w' := by
  obtain ⟨v, rfl, ho, hb⟩ := h
  obtain ⟨a, c, rfl, hi, hn⟩ := own_is ho
  exact ⟨a, c, rfl, hi, hn, hb⟩
set_option maxHeartbeats 4000000 in
theorem places_own (w : World) (n : Int) (hn : (Lit.int .i64 n).wf = true) (l : List Int) (hw : ∀ i ∈ l, (Lit.int .i64 i).wf = true) (a : Option Addr) (c : Nat) (h : Is w w.heap.size a l) (hl : l.length ≤ 1000000000) :
    Calls Try.prog 12 #[.int .i64 n, .slice a l.length c] w (GivesRow w (ints (places n.toNat l))) := by
  have HI := Lib.hid h
  have HW := Lib.hid hw
  clear h hw
  obtain ⟨i0, hi, hz0, hz1, hz2⟩ := info_parts info3
  obtain ⟨M, hM⟩ : ∃ M, M = n.toNat := ⟨_, rfl⟩
  have hmx : max n 0 = (M : Int) := by omega
  rw [← hM]
  clear hM
  go_enter Try.func12, Try.ntmps12
  go_wp2_with (at_make; refine wpList_make_own _ rfl _ _ 23 rfl w.heap.size 3 i0 (.int .i64 0) 1 und32 hi hz0 hz1 .i64 .i64 _ l.length rfl rfl rfl (by rw [hz2]; omega) (by unfold maxLen; omega) (Nat.le_refl _) ?_)
  intro w1 hown1 hg1
  have HO1 := Lib.hid hown1
  have HB1 := Lib.hid ((Below.refl w.heap.size w).grown hg1 (Nat.le_refl _) (fun k hk => by cases hk))
  clear hown1 hg1
  go_wp2_with fail
  go_loopw [5, 6, 16] (fun v la i wr => ∃ k : Nat, k ≤ l.length ∧ i = .int .i64 (k : Int) ∧ la = .int .i64 ((lastOf M 0 (l.take k) : Nat) : Int) ∧ wr.ownsRow w.heap.size 3 1 v k (ivals (ints (places M (l.take k)))) ∧ Below w.heap.size w wr) (fun _ _ i _ => l.length - (intOf i).toNat)
  case atStart => exact ⟨0, Nat.zero_le _, rfl, rfl, HO1.out, HB1.out⟩
  case round =>
    obtain ⟨k, hk, rfl, rfl, hown, hbel⟩ := hrel
    have HO := Lib.hid hown
    have HB := Lib.hid hbel
    have hsz := hbel.size
    clear hown hbel HO1 HB1 hmx
    by_cases hlt : k < l.length
    · have hkl : (k : Int) < (l.length : Int) := by omega
      obtain ⟨b, off, rfl, hbl, hc⟩ := HI.out (by omega)
      have c1 := (HB.out.cell (p := ⟨b, off + k, none⟩) hbl).trans (hc k hlt)
      have HT := Lib.hid (places_take M l k hlt)
      have HL := Lib.hid (lastOf_take M l k hlt)
      clear hc
      generalize l[k] = x at *
      generalize lastOf M 0 (l.take k) = la at *
      obtain ⟨p, hp⟩ : ∃ p, p = place1 M la x := ⟨_, rfl⟩
      have hst : min (max x (la : Int)) (M : Int) = (p : Int) := by rw [hp]; unfold place1; omega
      rw [← hp] at HT HL
      clear hp
      have SN : Hid (∀ (v2 : Value) (w2 : World), w2.ownsRow w.heap.size 3 1 v2 (k + 1) (ivals (ints (places M (l.take k)) ++ [(p : Int)])) → w2.ownsRow w.heap.size 3 1 v2 (k + 1) (ivals (ints (places M (l.take (k + 1)))))) := Lib.hid fun v2 w2 h => by rw [HT.out, ints_snoc]; exact h
      go_wp2_with (at_builtin; refine app_is rfl _ _ rfl w.heap.size _ _ (ints (places M (l.take k))) (p : Int) rfl (HO.out.alloc _) ⟨wr.heap.size, 0, none⟩ rfl (cell_new_at _ _ rfl) (by omega) (by simp; omega) ?_; intro v2 w2 hown2 hg2; have HO2 := Lib.hid (SN.out _ _ hown2); have HB2 := Lib.hid ((HB.out.alloc hsz _).grown hg2 (by simp; omega) (fun q hq => own_ge HO.out hq)); clear hown2 hg2)
      go_roundw
      case rel => exact ⟨k + 1, by omega, by go_num, by rw [HL.out], HO2.out, HB2.out⟩
      case measure => simp [intOf]; omega
    · obtain rfl : k = l.length := by omega
      rw [List.take_length] at HO
      go_wp2
      go_ret
      have hown := HO.out
      rw [← places_len M l, ← ints_len (places M l)] at hown
      exact ⟨_, rfl, hown, HB.out⟩
theorem places_any (w : World) (n : Int) (hn : (Lit.int .i64 n).wf = true) (l : List Int) (hw : ∀ i ∈ l, (Lit.int .i64 i).wf = true) (a : Option Addr) (c : Nat) (h : Is w w.heap.size a l) (hl : l.length ≤ 1000000000) :
    Calls Try.prog 12 #[.int .i64 n, .slice a l.length c] w (GivesInts w (ints (places n.toNat l))) :=
  (places_own w n hn l hw a c h hl).mono fun _ _ h => h.ints
/-- The place of a piece in the memory of its text. -/
def pieceA (a : Option Addr) (p q : Nat) : Option Addr := a.map fun ad => if q = p then ad else ad.add p
set_option maxHeartbeats 4000000 in
theorem piece_any (w : World) (t : Tx) (a : Option Addr) (c : Nat) (hc : t.length ≤ c) (hn : a = none → c = 0) (p q : Nat) (hpq : p ≤ q) (hq : q ≤ t.length) (htl : t.length ≤ 1000000) :
    Calls Try.prog 16 #[.slice a t.length c, .int .i64 (p : Int), .int .i64 (q : Int)] w fun e w' => e = .returned (.slice (pieceA a p q) (q - p) (q - p)) ∧ w' = w := by
  go_enter Try.func16, Try.ntmps16
  go_wp2_with fail
  · go_ret
    exact ⟨by simp [pieceA], rfl⟩
  · go_ret
    refine ⟨?_, rfl⟩
    unfold pieceA
    simp only [if_neg h]
    rfl
/-- A piece in memory. -/
theorem piece_bs {w : World} {s : Nat} {t : Tx} {a : Option Addr} {c : Nat} (h : Txt w s a t) (hn : a = none → c = 0) {p q : Nat} (hpq : p ≤ q) (hq : q ≤ t.length) :
    ∃ x : TxV, x.a = pieceA a p q ∧ x.text = (t.drop p).take (q - p) ∧ x.text.length = q - p ∧ x.cap = q - p ∧ Bs w w.heap.size x.a x.text ∧ (0 < x.text.length → ∀ ad : Addr, x.a = some ad → s ≤ ad.block) := by
  have hl : ((t.drop p).take (q - p)).length = q - p := by rw [List.length_take, List.length_drop]; omega
  have h0 : pieceA a p q = none → q - p = 0 := fun e => by
    rcases Nat.eq_zero_or_pos t.length with ht | ht
    · omega
    · obtain ⟨b, cs, rfl, _⟩ := h ht
      simp [pieceA] at e
  refine ⟨⟨(t.drop p).take (q - p), pieceA a p q, q - p, h0⟩, rfl, rfl, hl, rfl, ?_, ?_⟩
  · intro hp
    simp only [hl] at hp
    obtain ⟨b, off, e, hb, hc⟩ := h.bs (by omega)
    subst e
    refine ⟨b, off + p, ?_, hb, fun i hi => ?_⟩
    · unfold pieceA
      simp only [Option.map_some]
      rw [if_neg (by omega), add_at]
    · simp only [hl] at hi
      have := hc (p + i) (by omega)
      rw [Nat.add_assoc, this]
      simp
  · intro hp ad e
    simp only [hl] at hp
    obtain ⟨b, cs, ea, hs, _⟩ := h (by omega)
    subst ea
    unfold pieceA at e
    simp only [Option.map_some, Option.some.injEq] at e
    rw [if_neg (by omega), add_at] at e
    rw [← e]
    exact hs
end Go.Proofs.Ytlpjghhmacobdaa.Cts
