/- What End answers. -/
import Derived.Test.YtcekifknbljbiaaStrA5
namespace Go.Proofs.Ytcekifknbljbiaa.Str
open Go.Proofs.Ytcekifknbljbiaa.Stm Go.Proofs.Ytcekifknbljbiaa.Reg Go.RowKit Go.Maps
set_option maxRecDepth 100000
set_option linter.unusedVariables false

/-- What a call of End gives. -/
def GivesEnd (W0 w : World) (p : Nat) (mp : Option Addr) (g : Nat) (d : Option Nat) (s : St) (e : Ending) (w' : World) : Prop :=
  ∃ v xs d', e = .returned v ∧ xs.map SlV.sl = s.fin.2 ∧ Gave w w' p g d' mp v xs ∧ Nd w d d' ∧ Sm W0 w' p mp g d' s.fin.1 ∧ Ch w w' (Own p g d mp)
theorem send_none (w : World) : Calls Try.prog 17 #[.pointer none] w fun e w' => e = .returned (.slice none 0 0) ∧ w' = w := by
  go_enter Try.func17, Try.ntmps17
  go_wp2_with fail
  go_ret
  exact ⟨rfl, rfl⟩
theorem send_over (W0 w : World) (p : Nat) (mp : Option Addr) (g : Nat) (d : Option Nat) (s : St) (h : Sm W0 w p mp g d s) (ho : s.over = true) :
    Calls Try.prog 17 #[.pointer (some ⟨p, 0, none⟩)] w (GivesEnd W0 w p mp g d s) := by
  have c6 := h.sblk.cells.2.2.2.2.2.2
  rw [ho] at c6
  have hpl := h.sblk.lt
  have H := Lib.hid h
  have HO := Lib.hid ho
  clear h ho
  go_enter Try.func17, Try.ntmps17
  go_wp2_with fail
  go_ret
  have hf : s.fin = (s, []) := by rw [St.fin, if_pos HO.out]
  refine ⟨_, [], d, rfl, by rw [hf]; rfl, ⟨World.ownsRow_nil _ _ _ _, fun x hx => by cases hx⟩, .inl rfl, ?_, Ch.of_below (Below.refl _ _)⟩
  rw [hf]
  exact H.out
/-- A slice of one line, made of it. -/
theorem one_row (w : World) (x : SlV) : (w.alloc (.cells #[.int .i64 (x.sl.num : Int), .int .i64 (x.sl.off : Int), .slice x.a x.sl.text.length x.cap] 47)).ownsRow w.heap.size 47 3 (.slice (some ⟨w.heap.size, 0, none⟩) 1 1) 1 (scells x) := by
  refine ⟨rfl, .inr ⟨w.heap.size, 1, _, rfl, Nat.le_refl _, heap_alloc_new w _, Nat.le_refl _, by decide, rfl, rfl⟩⟩
set_option maxHeartbeats 2000000 in
theorem send_any (W0 w : World) (p : Nat) (mp : Option Addr) (g : Nat) (d : Option Nat) (s : St) (h : Sm W0 w p mp g d s) (ho : s.over = false) (hbad : s.bad = false) (n : Nat) (hv : Rv n s.w) (hn : n ≤ 100000) (hh : s.hunt ≤ 100000) (hnum : s.num ≤ 100000) (hoff : s.off ≤ 100000) :
    Calls Try.prog 17 #[.pointer (some ⟨p, 0, none⟩)] w (GivesEnd W0 w p mp g d s) := by
  have hsb := h.sblk.cells
  have hwp : wpOf g s = some ⟨g, 0, none⟩ := by unfold wpOf; rw [if_neg (by rw [hbad]; decide)]
  rw [hwp] at hsb
  obtain ⟨_, _, c2, _, _, _, c6⟩ := hsb
  rw [ho] at c6
  have f6 := h.sblk.free 6
  have hpl := h.sblk.lt
  have hc1 := ch_set w p 6 (.bool true)
  have h1 : Sm W0 (w.setCell ⟨p, 6, none⟩ (.bool true)) p mp g d { s with over := true } := by
    refine h.put hc1 ?_ (fun e => e) rfl rfl
    have hb := h.sblk
    unfold Sb at hb ⊢
    rw [heap_set_same hb]
    rfl
  have e2 := h1.sblk.cells.2.2.1
  rw [show wpOf g { s with over := true } = some ⟨g, 0, none⟩ from hwp] at e2
  have HO := Lib.hid ho
  have HV := Lib.hid hv
  clear h hv ho hwp
  by_cases he : s.w.held = []
  · have hz : ((s.w.held.length : Nat) : Int) = 0 := by rw [he]; rfl
    have hfin : s.fin = ({ s with over := true }, []) := by rw [St.fin, HO.out, he]; rfl
    have LE := Lib.hid (slen_any W0 _ p mp g d _ h1 hbad (by have := HV.out.rroom; simp only; omega))
    simp only at LE
    rw [hz] at LE
    have HF := Lib.hid hfin
    have H1 := Lib.hid h1
    have HC := Lib.hid hc1
    clear he hfin h1 hc1
    go_enter Try.func17, Try.ntmps17
    go_wp2_with (go_at_call 29; (with_reducible refine LE.out.mono ?_); rintro e w1 ⟨rfl, rfl⟩)
    go_ret
    refine ⟨_, [], d, rfl, by rw [HF.out]; rfl, ⟨World.ownsRow_nil _ _ _ _, fun x hx => by cases hx⟩, .inl rfl, ?_, HC.out.more (fun k e => .inl e)⟩
    rw [HF.out]
    exact H1.out
  · have hz : ¬ ((s.w.held.length : Nat) : Int) = 0 := by
      have := List.length_pos_iff.2 he
      omega
    have hfin : s.fin = (({ s with over := true } : St).line [], [s.told []]) := by rw [St.fin, HO.out]; simp [he]
    have LE := Lib.hid (slen_any W0 _ p mp g d _ h1 hbad (by have := HV.out.rroom; simp only; omega))
    simp only at LE
    have hbx : Bx (w.setCell ⟨p, 6, none⟩ (.bool true)) p g d mp none [] := ⟨bs_nil _ _ _, fun h0 => absurd h0 (Nat.lt_irrefl _)⟩
    have LN := Lib.hid (sline_any W0 _ p mp g d { s with over := true } h1 hbad n HV.out (by omega) (by simp only; omega) (by simp only; omega) (by simp only; omega) [] none 0 hbx (by decide))
    simp only [List.length_nil] at LN
    have HF := Lib.hid hfin
    have HC := Lib.hid hc1
    clear he hfin h1 hc1 hbx
    go_enter Try.func17, Try.ntmps17
    go_wp2_with (first
      | (go_at_call 29; (with_reducible refine LE.out.mono ?_); rintro e w1 ⟨rfl, rfl⟩)
      | (go_at_call 27; (with_reducible refine LN.out.mono ?_); rintro e w2 ⟨a2, c2', rfl, ht, d2, hd2, hs2, hc2, ha2⟩; have HT := Lib.hid ht; have HD := Lib.hid hd2; have HS := Lib.hid hs2; have HC2 := Lib.hid hc2; have HA := Lib.hid ha2; clear ht hd2 hs2 hc2 ha2))
    go_ret
    have hb3 := Met.below_new w2 (.cells #[.int .i64 (s.num : Int), .int .i64 (s.off : Int), .slice a2 (lineT { s with over := true } []).length c2'] 47)
    have hs1 := HC.out.csize
    have hs2 := HC2.out.csize
    refine ⟨_, [⟨s.told [], a2, c2'⟩], d2, rfl, by rw [HF.out]; rfl, ⟨own_base (one_row w2 ⟨s.told [], a2, c2'⟩) (by omega), fun x hx => ?_⟩, Nd.trans (w' := w.setCell ⟨p, 6, none⟩ (.bool true)) (.inl rfl) HD.out hs1, ?_, ((HC.out.more (fun k e => .inl e)).trans HC2.out (fun _ _ h => h)).trans (Ch.of_below (X := fun _ => False) hb3) (fun _ _ h => h.elim)⟩
    · rw [List.mem_singleton.1 hx]
      exact ⟨(HT.out.keep hb3).less hs1, HA.out⟩
    · rw [HF.out]
      exact HS.out.keep hb3
end Go.Proofs.Ytcekifknbljbiaa.Str
