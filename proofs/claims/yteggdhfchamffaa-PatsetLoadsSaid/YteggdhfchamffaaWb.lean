/- Contracts of bytes.IndexByte, bytes.Clone. -/
import Derived.Test.YteggdhfchamffaaBase
import Derived.Test.YteggdhfchamffaaText
namespace Go.Proofs.Yteggdhfchamffaa
open Go.RowKit

set_option maxHeartbeats 1000000 in
theorem index_any (l : List UInt8) (b off cap : Nat) (w : World) (hc : ∀ i (h : i < l.length), w.cell? ⟨b, off + i, none⟩ = some (.int .u8 (l[i].toNat : Int))) :
    Calls Try.prog 34 #[.slice (some ⟨b, off, none⟩) l.length cap, .int .u8 10] w fun e w' => e = .returned (.int .i64 (Lib.indexByte l 10)) ∧ w = w' := by
  have hr := Lib.run_indexByteSlice (P := Try.prog) w b off l.length cap (l.map fun c => (c.toNat : Int)) (by simp) (fun i hi => by rw [getD_nums l i hi]; exact hc i hi) 10
  rw [bytesOf_nums] at hr
  have HC := Lib.hid hc
  have HR := Lib.hid hr
  clear hc hr
  go_enter Try.func34, Try.ntmps34
  go_wp2
  rw [run_callFunc_extern Try.func35 (by kernel_rfl) (by kernel_rfl) (by kernel_rfl) (e := Extern.BytealgIndexByte.indexByte) (by kernel_rfl), HR.out]
  simp only [Result.andThen]
  rw [Oper.upon_value]
  go_wp2
  go_ret
  exact ⟨rfl, rfl⟩

theorem eql_nil22 : ∀ (w : World) (a : Option Addr) (n c n' c' : Nat), (binOp .eql 22 (.slice a n c) (.slice none n' c')).run Try.prog w = .ok (.bool a.isNone) w :=
  fun w a n c n' c' => Lib.run_eql_slice_nil w _ _ a n c n' c' und22
set_option maxHeartbeats 2000000 in
theorem clone_some (l : List UInt8) (ad : Addr) (cap : Nat) (w : World) (hl : l.length ≤ 1000000000000) (hb : Bs w w.heap.size (some ad) l) :
    Calls Try.prog 30 #[.slice (some ad) l.length cap] w (GivesText w l) := by
  obtain ⟨i0, hi, hz0, hz1, hz2⟩ := info_parts info5
  have q22 := eql_nil22
  have HB := Lib.hid hb
  clear hb
  go_enter Try.func30, Try.ntmps30
  go_wp2_with (at_builtin; refine wpList_append_own _ rfl _ _ 22 rfl w.heap.size 5 i0 (.int .u8 0) 1 1 und22 hi hz0 hz1 hz2 rfl (by decide) _ _ _ rfl (World.ownsRow_made w #[] 0 (Nat.le_refl _) (Nat.zero_le _) rfl) ad l.length cap (vals l) rfl ?qc1 ?qc2 ?qc3 ?qc4 ?qc5 ?qc6 ?_)
  case qc1 => simp [vals]
  case qc2 =>
    intro j u hj
    have hjn : j < l.length := by have := (List.getElem?_eq_some_iff.1 hj).1; simpa [vals] using this
    obtain ⟨b, off, e, hlt, hc⟩ := HB.out (by omega)
    cases e
    have ea : (⟨b, off, none⟩ : Addr).add j = ⟨b, off + j, none⟩ := by unfold Addr.add; split <;> simp_all
    rw [ea]
    have hcc := hc j hjn
    refine Lib.cell?_alloc_some _ ?_
    rw [hcc]
    simpa [vals, hjn] using hj
  case qc3 => intro u hu; obtain ⟨x, _, rfl⟩ := List.mem_map.1 hu; rfl
  case qc4 => unfold maxLen; omega
  case qc5 => omega
  case qc6 => simp
  intro v' w1 hown hgrow hnil
  go_wp2
  go_ret
  obtain ⟨a, c, rfl, ht, hlc, hnc⟩ := own_txt (l := l) (by simpa using hown)
  exact ⟨a, c, rfl, ht, hlc, hnc, ((Below.refl _ w).alloc (Nat.le_refl _) _).grown hgrow (by simp) (by intro k hk; simp [Value.ownBlock] at hk; omega)⟩
set_option maxHeartbeats 1000000 in
theorem clone_none (n cap : Nat) (w : World) : Calls Try.prog 30 #[.slice none n cap] w (GivesText w []) := by
  have q22 := eql_nil22
  go_enter Try.func30, Try.ntmps30
  go_wp2
  go_ret
  exact ⟨none, 0, rfl, (fun h => absurd h (by simp)), Nat.le_refl _, fun _ => rfl, Below.refl _ _⟩
theorem clone_any (l : List UInt8) (a : Option Addr) (cap : Nat) (w : World) (hl : l.length ≤ 1000000000000) (hb : Bs w w.heap.size a l) :
    Calls Try.prog 30 #[.slice a l.length cap] w (GivesText w l) := by
  cases a with
  | some ad => exact clone_some l ad cap w hl hb
  | none =>
    rcases Nat.eq_zero_or_pos l.length with h0 | h0
    · obtain rfl := List.eq_nil_of_length_eq_zero h0
      exact clone_none _ cap w
    · obtain ⟨b, off, e, _⟩ := hb h0
      cases e
end Go.Proofs.Yteggdhfchamffaa
