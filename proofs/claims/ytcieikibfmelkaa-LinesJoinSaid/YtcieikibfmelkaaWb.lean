/- Contracts of lines.Bare, the reference's Bare, bytes.IndexByte, bytes.Clone. -/
import Derived.Test.YtcieikibfmelkaaWa
namespace Go.Proofs.Ytcieikibfmelkaa
open Go.RowKit

theorem bare_any (l : List UInt8) (a : Option Addr) (cap : Nat) (w : World) (hl : l.length ≤ 1000000000000) (hb : Bs w w.heap.size a l) :
    Calls Try.prog 13 #[.slice a l.length cap] w fun e w' => e = .returned (.int .i64 ((l.length - nls l : Nat) : Int)) ∧ w = w' := by
  have hn := nls_le l
  go_enter Try.func13, Try.ntmps13
  go_wp2_with (go_at_call 18; refine (newlines_any l a cap _ hl hb).mono ?_; rintro e w' ⟨rfl, rfl⟩)
  go_ret
  exact ⟨ret_int (by omega), rfl⟩

/-- A text out of its bytes. -/
def str (l : List UInt8) : ByteArray := ⟨l.toArray⟩
theorem str_size (l : List UInt8) : (str l).size = l.length := by simp [str, ByteArray.size]
theorem str_at (l : List UInt8) (k : Nat) (h : k < l.length) : (str l)[k]'(by rw [str_size]; exact h) = l[k] := rfl
theorem str_inj {l m : List UInt8} (h : str l = str m) : l = m := by
  have := congrArg (fun s : ByteArray => s.data.toList) h
  simpa [str] using this

set_option maxHeartbeats 1000000 in
theorem rbare_any (l : List UInt8) (w : World) (hl : l.length ≤ 1000000000000) :
    Calls Try.prog 14 #[.string (str l)] w fun e w' => e = .returned (.int .i64 ((l.length - nls l : Nat) : Int)) ∧ w = w' := by
  have hz := str_size l
  go_enter Try.func14, Try.ntmps14
  go_wp2
  go_loop [3, 4] (fun n i => ∃ k : Nat, k ≤ l.length ∧ i = .int .i64 k ∧ n = .int .i64 ((k - nls (l.take k) : Nat) : Int)) (fun _ i => l.length - (intOf i).toNat)
  case atStart => exact ⟨0, Nat.zero_le _, rfl, rfl⟩
  case round =>
    obtain ⟨k, hk, rfl, rfl⟩ := hrel
    have hn : nls (l.take k) ≤ k := Nat.le_trans (nls_le _) (List.length_take_le _ _)
    by_cases hlt : k < l.length
    · have hix := str_at l k hlt
      have HS := Lib.hid (nls_snoc l k hlt)
      obtain ⟨m, hm⟩ : ∃ m, m = k - nls (l.take k) := ⟨_, rfl⟩
      have HM := Lib.hid hm
      rw [← hm]
      have hmk : m ≤ k := by omega
      clear hm
      by_cases h10 : l[k] = 10
      · have ht : ((l[k].toNat : Int) != 10) = false := by rw [u8_ne_ten]; simp [h10]
        have H10 := Lib.hid h10
        clear h10
        go_wp2
        go_round
        case rel => exact ⟨k + 1, by omega, by go_num, by rw [HS.out, if_pos H10.out, HM.out]; congr 2; omega⟩
        case measure => simp [intOf]; omega
      · have ht : ((l[k].toNat : Int) != 10) = true := by rw [u8_ne_ten]; simp [h10]
        have H10 := Lib.hid h10
        clear h10
        go_wp2
        go_round
        case rel =>
          have h1 := HM.out
          have h2 := HS.out
          rw [if_neg H10.out] at h2
          have e : ((k + 1 - (nls (l.take k) + 0) : Nat) : Int) = (m : Int) + 1 := by omega
          exact ⟨k + 1, by omega, by go_num, by rw [h2, e]⟩
        case measure => simp [intOf]; omega
    · go_wp2
      go_ret
      have e : k = l.length := by omega
      exact ⟨ret_int (by rw [List.take_of_length_le (by omega), e]), rfl⟩

theorem bytesOf_nums (l : List UInt8) : Lib.bytesOf (l.map fun c => (c.toNat : Int)) = l := by
  induction l with
  | nil => rfl
  | cons c l ih => simp [Lib.bytesOf] at ih ⊢; exact ih
theorem getD_nums (l : List UInt8) (i : Nat) (h : i < l.length) : (l.map fun c => (c.toNat : Int)).getD i 0 = (l[i].toNat : Int) := by
  simp [List.getD, h]

set_option maxHeartbeats 1000000 in
theorem index_any (l : List UInt8) (b off cap : Nat) (w : World) (hc : ∀ i (h : i < l.length), w.cell? ⟨b, off + i, none⟩ = some (.int .u8 (l[i].toNat : Int))) :
    Calls Try.prog 22 #[.slice (some ⟨b, off, none⟩) l.length cap, .int .u8 10] w fun e w' => e = .returned (.int .i64 (Lib.indexByte l 10)) ∧ w = w' := by
  have hr := Lib.run_indexByteSlice (P := Try.prog) w b off l.length cap (l.map fun c => (c.toNat : Int)) (by simp) (fun i hi => by rw [getD_nums l i hi]; exact hc i hi) 10
  rw [bytesOf_nums] at hr
  have HC := Lib.hid hc
  have HR := Lib.hid hr
  clear hc hr
  go_enter Try.func22, Try.ntmps22
  go_wp2
  rw [run_callFunc_extern Try.func23 (by kernel_rfl) (by kernel_rfl) (by kernel_rfl) (e := Extern.BytealgIndexByte.indexByte) (by kernel_rfl), HR.out]
  simp only [Result.andThen]
  rw [Oper.upon_value]
  go_wp2
  go_ret
  exact ⟨rfl, rfl⟩

/-- The cells of a text. -/
def vals (l : List UInt8) : List Value := l.map fun c => Value.int .u8 (c.toNat : Int)
theorem vals_length (l : List UInt8) : (vals l).length = l.length := by simp [vals]
theorem own_keep {w w' : World} {base e size n : Nat} {v : Value} {xs : List Value} (h : w.ownsRow base e size v n xs) (hb : Below w.heap.size w w') : w'.ownsRow base e size v n xs := by
  refine ⟨h.1, h.2.imp id ?_⟩
  rintro ⟨g, cap, cur, hv, hg, hh, r⟩
  refine ⟨g, cap, cur, hv, hg, (hb.block g ?_).trans hh, r⟩
  rcases Nat.lt_or_ge g w.heap.size with hlt | hge
  · exact hlt
  · rw [Array.getElem?_eq_none hge] at hh; cases hh

/-- A text that lies in a block of its own: a block of bytes, from its head on. -/
def Txt (w : World) (s : Nat) (a : Option Addr) (l : List UInt8) : Prop :=
  0 < l.length → ∃ b cs, a = some ⟨b, 0, none⟩ ∧ s ≤ b ∧ w.heap[b]? = some (.cells cs 5 (0, 0)) ∧ ∀ i (h : i < l.length), cs[i]? = some (.int .u8 (l[i].toNat : Int))
theorem txt_lt {w : World} {b : Nat} {o : Obj} (h : w.heap[b]? = some o) : b < w.heap.size := (Array.getElem?_eq_some_iff.1 h).1
theorem Txt.bs {w : World} {s : Nat} {a : Option Addr} {l : List UInt8} (h : Txt w s a l) : Bs w w.heap.size a l := fun h0 => by
  obtain ⟨b, cs, rfl, _, hh, hc⟩ := h h0
  refine ⟨b, 0, rfl, txt_lt hh, fun i hi => ?_⟩
  rw [Nat.zero_add, cell_of_row w b _ _ 5 (0, 0) hh]
  exact hc i hi
theorem Txt.keep {w w' : World} {s : Nat} {a : Option Addr} {l : List UInt8} (h : Txt w s a l) (hb : Below w.heap.size w w') : Txt w' s a l := fun h0 => by
  obtain ⟨b, cs, e, hs, hh, hc⟩ := h h0
  exact ⟨b, cs, e, hs, (hb.block b (txt_lt hh)).trans hh, hc⟩
theorem Txt.less {w : World} {s s' : Nat} {a : Option Addr} {l : List UInt8} (h : Txt w s a l) (hs : s' ≤ s) : Txt w s' a l := fun h0 => by
  obtain ⟨b, cs, e, hb, hh, hc⟩ := h h0
  exact ⟨b, cs, e, by omega, hh, hc⟩
theorem own_txt {w : World} {base n : Nat} {v : Value} {l : List UInt8} (h : w.ownsRow base 5 1 v n (vals l)) : ∃ a cap, v = .slice a l.length cap ∧ Txt w base a l ∧ l.length ≤ cap ∧ (a = none → cap = 0) := by
  have hn : l.length = n := by have := h.1; simpa [vals] using this
  rcases h.2 with ⟨rfl, h0⟩ | ⟨g, cap, cur, rfl, hg, hh, hnc, _, hs, ht⟩
  · exact ⟨none, 0, by rw [hn, h0], (fun h1 => by omega), by omega, fun _ => rfl⟩
  · refine ⟨some ⟨g, 0, none⟩, cap, by rw [hn], fun _ => ⟨g, cur, rfl, hg, hh, fun i hi => ?_⟩, by omega, fun e => by cases e⟩
    have e : (cur.toList.take (n * 1))[i]? = (vals l)[i]? := by rw [ht]
    rw [List.getElem?_take_of_lt (by omega)] at e
    rw [← Array.getElem?_toList, e]
    simp [vals, hi]

/-- A call that hands out a text in a block of its own, and leaves what was there as it was. -/
def GivesText (w : World) (l : List UInt8) (e : Ending) (w' : World) : Prop :=
  ∃ a cap, e = .returned (.slice a l.length cap) ∧ Txt w' w.heap.size a l ∧ l.length ≤ cap ∧ (a = none → cap = 0) ∧ Below w.heap.size w w'

theorem eql_nil22 : ∀ (w : World) (a : Option Addr) (n c n' c' : Nat), (binOp .eql 22 (.slice a n c) (.slice none n' c')).run Try.prog w = .ok (.bool a.isNone) w :=
  fun w a n c n' c' => Lib.run_eql_slice_nil w _ _ a n c n' c' und22
set_option maxHeartbeats 2000000 in
theorem clone_some (l : List UInt8) (ad : Addr) (cap : Nat) (w : World) (hl : l.length ≤ 1000000000000) (hb : Bs w w.heap.size (some ad) l) :
    Calls Try.prog 19 #[.slice (some ad) l.length cap] w (GivesText w l) := by
  obtain ⟨i0, hi, hz0, hz1, hz2⟩ := info_parts info5
  have q22 := eql_nil22
  have HB := Lib.hid hb
  clear hb
  go_enter Try.func19, Try.ntmps19
  go_wp2_with (at_builtin; refine wpList_append_own _ rfl _ _ 22 rfl w.heap.size 5 i0 (.int .u8 0) 1 1 und22 hi hz0 hz1 hz2 rfl (by decide) _ _ _ rfl (World.ownsRow_made w #[] 0 (Nat.le_refl _) (Nat.zero_le _) rfl) ad l.length cap (vals l) rfl ?qc1 ?qc2 ?qc3 ?qc4 ?qc5 ?qc6 ?_)
  case qc1 => simp [vals]
  case qc2 =>
    intro j u hj
    have hjn : j < l.length := by have := (List.getElem?_eq_some_iff.1 hj).1; simpa [vals] using this
    obtain ⟨b, off, e, hlt, hc⟩ := HB.out (by omega)
    cases e
    have ea : (⟨b, off, none⟩ : Addr).add j = ⟨b, off + j, none⟩ := by unfold Addr.add; split <;> simp_all
    rw [ea]
    have hcc := hc j hjn
    refine Lib.cell?_alloc_some _ ?_
    rw [hcc]
    simpa [vals, hjn] using hj
  case qc3 => intro u hu; obtain ⟨x, _, rfl⟩ := List.mem_map.1 hu; rfl
  case qc4 => unfold maxLen; omega
  case qc5 => omega
  case qc6 => simp
  intro v' w1 hown hgrow hnil
  go_wp2
  go_ret
  obtain ⟨a, c, rfl, ht, hlc, hnc⟩ := own_txt (l := l) (by simpa using hown)
  exact ⟨a, c, rfl, ht, hlc, hnc, ((Below.refl _ w).alloc (Nat.le_refl _) _).grown hgrow (by simp) (by intro k hk; simp [Value.ownBlock] at hk; omega)⟩
set_option maxHeartbeats 1000000 in
theorem clone_none (n cap : Nat) (w : World) : Calls Try.prog 19 #[.slice none n cap] w (GivesText w []) := by
  have q22 := eql_nil22
  go_enter Try.func19, Try.ntmps19
  go_wp2
  go_ret
  exact ⟨none, 0, rfl, (fun h => absurd h (by simp)), Nat.le_refl _, fun _ => rfl, Below.refl _ _⟩
theorem clone_any (l : List UInt8) (a : Option Addr) (cap : Nat) (w : World) (hl : l.length ≤ 1000000000000) (hb : Bs w w.heap.size a l) :
    Calls Try.prog 19 #[.slice a l.length cap] w (GivesText w l) := by
  cases a with
  | some ad => exact clone_some l ad cap w hl hb
  | none =>
    rcases Nat.eq_zero_or_pos l.length with h0 | h0
    · obtain rfl := List.eq_nil_of_length_eq_zero h0
      exact clone_none _ cap w
    · obtain ⟨b, off, e, _⟩ := hb h0
      cases e
end Go.Proofs.Ytcieikibfmelkaa
