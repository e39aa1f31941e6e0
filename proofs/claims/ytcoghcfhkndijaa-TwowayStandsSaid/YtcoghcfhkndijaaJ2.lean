/- A Two in memory; New. -/
import Derived.Test.YtcoghcfhkndijaaJ1
import Derived.Test.YtcoghcfhkndijaaGX
import Derived.Test.YtcoghcfhkndijaaGI
import Derived.Test.YtcoghcfhkndijaaGP
namespace Go.Proofs.Ytcoghcfhkndijaa.Two
open Go.RowKit Go.Maps Go.Proofs.Ytcoghcfhkndijaa.Crt Go.Proofs.Ytcoghcfhkndijaa.Suf Go.Proofs.Ytcoghcfhkndijaa.Prs
set_option maxRecDepth 100000
set_option linter.unusedVariables false

/-- Which loop seeks a text. -/
def srch (b : Tx) : FuncId := if smallB b then 21 else 20
def twCells (b : Tx) (a : Option Addr) (c : Nat) : Array Value := #[.slice a b.length c, .int .i64 (cutAt b : Int), .int .i64 (movePer b : Int), .bool (smallB b), .func (.func (srch b)) #[] #[]]
/-- A Two of a text, at a block; all that is its own lies at s or above. -/
def Tw (w : World) (s t : Nat) (b : Tx) : Prop := s ≤ t ∧ ∃ a c, w.heap[t]? = some (.cells (twCells b a c) 51 (0, 0)) ∧ Txt w s a b ∧ b.length ≤ c
theorem Tw.keep {w w' : World} {s t : Nat} {b : Tx} (h : Tw w s t b) (hb : Below w.heap.size w w') : Tw w' s t b := by
  obtain ⟨hs, a, c, h1, h2, h3⟩ := h
  exact ⟨hs, a, c, (hb.block t (txt_lt h1)).trans h1, h2.keep hb, h3⟩
/-- What lies below plays no part. -/
theorem Tw.far {w w' : World} {s t : Nat} {b : Tx} (h : Tw w s t b) (hb : ∀ k, s ≤ k → w'.heap[k]? = w.heap[k]?) : Tw w' s t b := by
  obtain ⟨hs, a, c, h1, h2, h3⟩ := h
  refine ⟨hs, a, c, (hb t hs).trans h1, fun h0 => ?_, h3⟩
  obtain ⟨b', cs, e, hs', hh, hc⟩ := h2 h0
  exact ⟨b', cs, e, hs', (hb b' hs').trans hh, hc⟩
theorem Tw.set {w : World} {s t g i : Nat} {v : Value} {b : Tx} (h : Tw w s t b) (hg : g < s) : Tw (w.setCell ⟨g, i, none⟩ v) s t b :=
  h.far fun k hk => Below.heap_setCell w ⟨g, i, none⟩ v k (show k ≠ g by omega)
def GivesTw (w : World) (b : Tx) (e : Ending) (w' : World) : Prop := ∃ t, e = .returned (.tuple #[.pointer (some ⟨t, 0, none⟩), .int .i64 0]) ∧ Tw w' w.heap.size t b ∧ Below w.heap.size w w'
def GivesPcs (w : World) (l : List Pr) (e : Ending) (w' : World) : Prop := ∃ A c, e = .returned (.slice A l.length c) ∧ Ps w' w'.heap.size A l ∧ Below w.heap.size w w'
/-- A line as it is handed in. -/
def Ln (w : World) (al : Option Addr) (line : Tx) (cl : Nat) : Prop := Bs w w.heap.size al line ∧ line.length ≤ cl ∧ (al = none → cl = 0)
theorem Ln.keep {w w' : World} {al : Option Addr} {line : Tx} {cl : Nat} (h : Ln w al line cl) (hb : Below w.heap.size w w') : Ln w' al line cl := ⟨(h.1.keep hb).more hb.size, h.2⟩
theorem new_none (w : World) (a : Option Addr) (c : Nat) :
    Calls Try.prog 11 #[.slice a 0 c] w fun e w' => e = .returned (.tuple #[.pointer none, .int .i64 1]) ∧ Below w.heap.size w w' := by
  go_enter Try.func11, Try.ntmps11
  go_wp2
  go_ret2
  exact ⟨rfl, Below.refl _ _⟩
theorem new_some (w : World) (b : Tx) (a : Option Addr) (c : Nat) (hln : Ln w a b c) (h0 : b ≠ []) (hl : b.length ≤ 1000) :
    Calls Try.prog 11 #[.slice a b.length c] w (GivesTw w b) := by
  have hb := hln.1
  have hlp := List.length_pos_iff.2 h0
  have hbe : ((b.length : Int) == 0) = false := by simp; omega
  have HC := Lib.hid (sclone_any b a c w (by omega) hb)
  have HF := Lib.hid (fun X (hX : Below w.heap.size w X) => Cut.factor_any X b a c ((hb.keep hX).more hX.size) hl)
  have hfv : Cut.facV b = Value.agg #[.int .i64 (cutAt b : Int), .int .i64 (movePer b : Int), .bool (smallB b)] := by unfold Cut.facV; rw [if_neg h0]
  have HV := Lib.hid hfv
  clear hfv hb hln h0
  go_enter Try.func11, Try.ntmps11
  go_wp2_with fail
  refine HC.out.mono ?_
  rintro e w1 ⟨a1, c1, rfl, ht, hlc, hnc, hb1⟩
  have HT := Lib.hid ht
  have HB1 := Lib.hid hb1
  clear ht hb1
  go_wp2_with fail
  refine (HF.out w1 HB1.out).mono ?_
  rintro e w2 ⟨rfl, hb2⟩
  have hs1 := HB1.out.size
  have HS2 := Lib.hid hb2.size
  have HB2 := Lib.hid (HB1.out.trans (hb2.mono hs1))
  have HT2 := Lib.hid (HT.out.keep hb2)
  have HL := Lib.hid hlc
  clear hb2 hlc
  rw [HV.out]
  cases hsm : smallB b
  · have HSM := Lib.hid hsm
    clear hsm
    go_wp2
    go_ret2
    have hs3 := HB2.out.size
    refine ⟨w2.heap.size, rfl, ⟨hs3, a1, c1, ?_, HT2.out.keep ((Below.refl _ _).alloc (Nat.le_refl _) _), HL.out⟩, HB2.out.alloc hs3 _⟩
    rw [twCells, srch, HSM.out]
    exact heap_alloc_new w2 _
  · have HSM := Lib.hid hsm
    clear hsm
    go_wp2
    go_ret2
    have hs3 := HB2.out.size
    refine ⟨w2.heap.size, rfl, ⟨hs3, a1, c1, ?_, HT2.out.keep ((Below.refl _ _).alloc (Nat.le_refl _) _), HL.out⟩, HB2.out.alloc hs3 _⟩
    rw [twCells, srch, HSM.out]
    exact heap_alloc_new w2 _
end Go.Proofs.Ytcoghcfhkndijaa.Two
