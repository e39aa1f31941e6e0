/- Slices of lines, read; the contract of the statements' own 'same'. -/
import Derived.Test.YtcieikibfmelkaaWf
import Derived.Test.YtcieikibfmelkaaTexts
namespace Go.Proofs.Ytcieikibfmelkaa
open Go.RowKit

theorem str_of_bs {w : World} {B : Nat} {a : Option Addr} {l : List UInt8} (cap : Nat) (h : Bs w B a l) :
    (convert 22 9 (.slice a l.length cap)).run Try.prog w = .ok (.string (str l)) w := by
  unfold str
  rcases Nat.eq_zero_or_pos l.length with h0 | h0
  · obtain rfl : l = [] := List.eq_nil_of_length_eq_zero h0
    rw [run_convert_bytes_string w 22 9 5 _ _ cap und22 und5 und9]
    cases a <;> simp [Conv.bytesToString, loadCells]
    all_goals rfl
  · obtain ⟨b, off, rfl, _, hc⟩ := h h0
    refine run_convert_bytes_back w 22 9 5 ⟨b, off, none⟩ cap l und22 und5 und9 fun j hj => ?_
    have e : (⟨b, off, none⟩ : Addr).add j = ⟨b, off + j, none⟩ := by unfold Addr.add; split <;> simp_all
    rw [e]
    exact hc j hj

/-- A slice of lines that reads as xs. -/
def Ls (W : World) (a : Option Addr) (xs : List LnV) : Prop :=
  (0 < xs.length → ∃ b off, a = some ⟨b, off, none⟩ ∧ b < W.heap.size ∧ ∀ i (h : i < xs.length), W.cell? ⟨b, off + i * 3, none⟩ = some (.int .i64 (xs[i].ln.off : Int)) ∧
    W.cell? ⟨b, off + i * 3 + 1, none⟩ = some (.slice xs[i].a xs[i].ln.text.length xs[i].cap) ∧ W.cell? ⟨b, off + i * 3 + 2, none⟩ = some (.bool xs[i].ln.ends)) ∧ ∀ x ∈ xs, Bs W W.heap.size x.a x.ln.text
theorem Ls.keep {W W' : World} {a : Option Addr} {xs : List LnV} (h : Ls W a xs) (hb : Below W.heap.size W W') : Ls W' a xs := by
  refine ⟨fun h0 => ?_, fun x hx => ((h.2 x hx).keep hb).more hb.size⟩
  obtain ⟨b, off, e, hlt, hc⟩ := h.1 h0
  refine ⟨b, off, e, Nat.lt_of_lt_of_le hlt hb.size, fun i hi => ?_⟩
  obtain ⟨h1, h2, h3⟩ := hc i hi
  exact ⟨(hb.cell (p := ⟨b, _, none⟩) hlt).trans h1, (hb.cell (p := ⟨b, _, none⟩) hlt).trans h2, (hb.cell (p := ⟨b, _, none⟩) hlt).trans h3⟩
theorem flat_at : ∀ (xs : List LnV) (i j : Nat), j < 3 → (h : i < xs.length) → (xs.flatMap lcells)[i * 3 + j]? = (lcells xs[i])[j]?
  | [], i, j, _, h => absurd h (by simp)
  | x :: xs, 0, j, hj, _ => by
    rw [List.flatMap_cons, List.getElem?_append_left (by simp [lcells]; omega)]
    simp
  | x :: xs, i + 1, j, hj, h => by
    have h' : i < xs.length := by simpa using h
    rw [List.flatMap_cons, List.getElem?_append_right (by simp [lcells]; omega)]
    have e : (i + 1) * 3 + j - (lcells x).length = i * 3 + j := by simp [lcells]; omega
    rw [e, flat_at xs i j hj h']
    rfl
theorem own_ls {W : World} {base : Nat} {v : Value} {xs : List LnV} (h : W.ownsRow base 31 3 v xs.length (xs.flatMap lcells)) (ht : ∀ x ∈ xs, Txt W base x.a x.ln.text) :
    ∃ a cap, v = .slice a xs.length cap ∧ xs.length ≤ cap ∧ Ls W a xs := by
  rcases h.2 with ⟨rfl, h0⟩ | ⟨g, cap, cur, rfl, hg, hh, hnc, _, hs, htk⟩
  · exact ⟨none, 0, by rw [h0], by omega, fun h1 => by omega, fun x hx => (ht x hx).bs⟩
  · refine ⟨some ⟨g, 0, none⟩, cap, rfl, hnc, fun _ => ⟨g, 0, rfl, txt_lt hh, fun i hi => ?_⟩, fun x hx => (ht x hx).bs⟩
    have key : ∀ j, j < 3 → W.cell? ⟨g, 0 + i * 3 + j, none⟩ = (lcells xs[i])[j]? := fun j hj => by
      rw [cell_of_row W g _ _ 31 (0, 0) hh, Nat.zero_add, ← flat_at xs i j hj hi, ← htk, List.getElem?_take_of_lt (by omega), Array.getElem?_toList]
    exact ⟨key 0 (by omega), key 1 (by omega), key 2 (by omega)⟩

set_option maxRecDepth 100000 in
set_option maxHeartbeats 4000000 in
theorem same_quiet (xs ys : List LnV) (far : Nat) (a b : Option Addr) (ca cb : Nat) (w : World) (h : xs.map LnV.ln = (ys.map LnV.ln).map (Ln.shift far)) (hx : Ls w a xs) (hy : Ls w b ys)
    (hbd : ∀ x ∈ xs, x.ln.off ≤ 1000000000) (hl : xs.length ≤ 1000000000) :
    Calls Try.prog 16 #[.slice a xs.length ca, .slice b ys.length cb, .int .i64 (far : Int)] w fun e w' => e = .returned (.bool true) ∧ ∃ q, w' = w.drewN q := by
  have hlen : xs.length = ys.length := by have := congrArg List.length h; simpa using this
  have h1 : ((xs.length : Int) != (ys.length : Int)) = false := by rw [hlen]; simp
  have h1' : (xs.length != ys.length) = false := by rw [hlen]; simp
  have HLEN := Lib.hid hlen
  have HH := Lib.hid h
  clear hlen h
  go_enter Try.func16, Try.ntmps16
  go_wp2
  go_loopw [7] (fun i wr => ∃ k : Nat, k ≤ xs.length ∧ i = .int .i64 k ∧ Hid (∃ q, wr = w.drewN q)) (fun i _ => xs.length - (intOf i).toNat)
  case atStart => exact ⟨0, Nat.zero_le _, rfl, Lib.hid ⟨0, rfl⟩⟩
  case round =>
    obtain ⟨k, hk, rfl, HQ⟩ := hrel
    have hbel : Below w.heap.size w wr := by obtain ⟨q, e⟩ := HQ.out; rw [e]; exact below_drews (Below.refl _ _) _
    by_cases hlt : k < xs.length
    · have hlt2 : k < ys.length := by rw [← HLEN.out]; exact hlt
      obtain ⟨ba, oa, rfl, hba, hca⟩ := (hx.keep hbel).1 (by omega)
      obtain ⟨bb, ob, rfl, hbb, hcb⟩ := (hy.keep hbel).1 (by omega)
      have hln : xs[k].ln = ys[k].ln.shift far := by
        have e := congrArg (fun l => l[k]?) HH.out
        simpa [hlt, hlt2] using e
      have htx := (hx.keep hbel).2 xs[k] (List.getElem_mem hlt)
      have hty := (hy.keep hbel).2 ys[k] (List.getElem_mem hlt2)
      have hbk := hbd xs[k] (List.getElem_mem hlt)
      obtain ⟨ca0, ca1, ca2⟩ := hca k hlt
      obtain ⟨cb0, cb1, cb2⟩ := hcb k hlt2
      rw [hln] at ca0 ca1 ca2 htx hbk
      clear hca hcb hln
      generalize xs[k].a = A1 at *
      generalize xs[k].cap = C1 at *
      generalize ys[k].a = A2 at *
      generalize ys[k].cap = C2 at *
      generalize ys[k].ln = L at *
      obtain ⟨o, tx, en⟩ := L
      simp only [Ln.shift] at ca0 ca1 ca2 htx hbk
      have hk1 : ∀ n, (convert 22 9 (.slice A1 tx.length C1)).run Try.prog (wr.drewN n) = .ok (.string (str tx)) (wr.drewN n) := fun n => str_of_bs (w := wr.drewN n) C1 htx
      have hk2 : ∀ n, (convert 22 9 (.slice A2 tx.length C2)).run Try.prog (wr.drewN n) = .ok (.string (str tx)) (wr.drewN n) := fun n => str_of_bs (w := wr.drewN n) C2 hty
      have hkl : (k : Int) < (xs.length : Int) := by omega
      have hkl2 : (k : Int) < (ys.length : Int) := by omega
      have d6 : IntKind.i64.wrap ((o : Int) + (far : Int)) = ((o + far : Nat) : Int) := by rw [IntKind.wrap_i64]; omega
      have d1 : (((o + far : Nat) : Int) != ((o + far : Nat) : Int)) = false := by simp
      clear hx hy hbd HH HLEN
      go_wp2
      go_quiet (fail)
      go_wp2
      go_roundw
      case rel =>
        obtain ⟨q, e⟩ := HQ.out
        exact ⟨k + 1, by omega, by go_num, Lib.hid ⟨q + nq, by rw [e, World.drewN_drewN]⟩⟩
      case measure => simp [intOf]; omega
    · go_wp2
      go_ret
      exact ⟨rfl, HQ.out⟩
theorem same_true (xs ys : List LnV) (far : Nat) (a b : Option Addr) (ca cb : Nat) (w : World) (h : xs.map LnV.ln = (ys.map LnV.ln).map (Ln.shift far)) (hx : Ls w a xs) (hy : Ls w b ys)
    (hbd : ∀ x ∈ xs, x.ln.off ≤ 1000000000) (hl : xs.length ≤ 1000000000) :
    Calls Try.prog 16 #[.slice a xs.length ca, .slice b ys.length cb, .int .i64 (far : Int)] w fun e w' => e = .returned (.bool true) ∧ Below w.heap.size w w' :=
  (same_quiet xs ys far a b ca cb w h hx hy hbd hl).mono fun _ _ ⟨he, q, hw⟩ => ⟨he, by rw [hw]; exact below_drews (Below.refl _ _) _⟩
end Go.Proofs.Ytcieikibfmelkaa
