/- slices.Clone of bytes; bytes.Equal. -/
import Derived.Test.YtcoghcfhkndijaaGM
import Derived.Test.YtcoghcfhkndijaaGK
import Derived.Test.YtcoghcfhkndijaaGT
namespace Go.Proofs.Ytcoghcfhkndijaa.Two
open Go.RowKit Go.Maps Go.Proofs.Ytcoghcfhkndijaa.Crt
set_option maxRecDepth 100000
set_option linter.unusedVariables false

set_option maxHeartbeats 2000000 in
theorem sclone_some (l : Tx) (ad : Addr) (cap : Nat) (w : World) (hl : l.length ≤ 1000000000000) (hb : Bs w w.heap.size (some ad) l) :
    Calls Try.prog 18 #[.slice (some ad) l.length cap] w (GivesText w l) := by
  obtain ⟨i0, hi, hz0, hz1, hz2⟩ := info_parts info5
  have q22 := Met.eql_nil22
  have HB := Lib.hid hb
  clear hb
  go_enter Try.func18, Try.ntmps18
  go_wp2_with (at_builtin; refine wpList_append_own _ rfl _ _ 22 rfl w.heap.size 5 i0 (.int .u8 0) 1 1 und22 hi hz0 hz1 hz2 rfl (by decide) _ _ _ rfl (World.ownsRow_made w #[] 0 (Nat.le_refl _) (Nat.zero_le _) rfl) ad l.length cap (vals l) rfl ?qc1 ?qc2 ?qc3 ?qc4 ?qc5 ?qc6 ?_)
  case qc1 => simp [vals]
  case qc2 =>
    intro j u hj
    have hjn : j < l.length := by have := (List.getElem?_eq_some_iff.1 hj).1; simpa [vals] using this
    obtain ⟨b, off, e, hlt, hc⟩ := HB.out (by omega)
    cases e
    have ea : (⟨b, off, none⟩ : Addr).add j = ⟨b, off + j, none⟩ := by unfold Addr.add; split <;> simp_all
    rw [ea]
    have hcc := hc j hjn
    refine Lib.cell?_alloc_some _ ?_
    rw [hcc]
    simpa [vals, hjn] using hj
  case qc3 => intro u hu; obtain ⟨x, _, rfl⟩ := List.mem_map.1 hu; rfl
  case qc4 => unfold maxLen; omega
  case qc5 => omega
  case qc6 => simp
  intro v' w1 hown hgrow hnil
  go_wp2
  go_ret
  obtain ⟨a, c, rfl, ht, hlc, hnc⟩ := own_txt (l := l) (by simpa using hown)
  exact ⟨a, c, rfl, ht, hlc, hnc, ((Below.refl _ w).alloc (Nat.le_refl _) _).grown hgrow (by simp) (by intro k hk; simp [Value.ownBlock] at hk; omega)⟩
set_option maxHeartbeats 1000000 in
theorem sclone_none (n cap : Nat) (w : World) : Calls Try.prog 18 #[.slice none n cap] w (GivesText w []) := by
  have q22 := Met.eql_nil22
  go_enter Try.func18, Try.ntmps18
  go_wp2
  go_ret
  exact ⟨none, 0, rfl, (fun h => absurd h (by simp)), Nat.le_refl _, fun _ => rfl, Below.refl _ _⟩
theorem sclone_any (l : Tx) (a : Option Addr) (cap : Nat) (w : World) (hl : l.length ≤ 1000000000000) (hb : Bs w w.heap.size a l) :
    Calls Try.prog 18 #[.slice a l.length cap] w (GivesText w l) := by
  cases a with
  | some ad => exact sclone_some l ad cap w hl hb
  | none =>
    rcases Nat.eq_zero_or_pos l.length with h0 | h0
    · obtain rfl := List.eq_nil_of_length_eq_zero h0
      exact sclone_none _ cap w
    · obtain ⟨b, off, e, _⟩ := hb h0
      cases e
theorem equal_any (w : World) (l m : Tx) (a b : Option Addr) (ca cb : Nat) (ha : Bs w w.heap.size a l) (hb : Bs w w.heap.size b m) (hl : l.length ≤ 1000000) (hm : m.length ≤ 1000000) :
    Calls Try.prog 39 #[.slice a l.length ca, .slice b m.length cb] w fun e w' => e = .returned (.bool (decide (l = m))) ∧ w = w' := by
  have h1 := str_of_bs ca ha
  have h2 := str_of_bs cb hb
  go_enter Try.func39, Try.ntmps39
  go_wp2
  go_ret
  exact ⟨ret_bool (Tri.str_beq l m), rfl⟩
end Go.Proofs.Ytcoghcfhkndijaa.Two
