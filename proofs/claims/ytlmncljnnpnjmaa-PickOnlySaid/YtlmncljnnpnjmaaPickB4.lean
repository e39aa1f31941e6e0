/- Stage 23: the reference's pieces that are told alone. -/
import Derived.Test.YtlmncljnnpnjmaaPickB3
namespace Go.Proofs.Ytlmncljnnpnjmaa.Pck
open Go.RowKit Go.Proofs.Ytlmncljnnpnjmaa.Prs Adm Reg
set_option maxRecDepth 100000
def fP (l : List Pr) (f : Int) : Pr := (fstB l f).getD ⟨0, 0⟩
def fB (l : List Pr) (f : Int) : Bool := (fstB l f).isSome
theorem longTo_len (l : List Pr) : ∀ n f, (longTo l n f).length ≤ n
  | 0, f => by simp [longTo]
  | n + 1, f => by
    unfold longTo
    split
    · simp
    · have := longTo_len l n ‹Pr›.e
      simp; omega
theorem long_len (l : List Pr) (f : Int) : (longFrom l f).length ≤ l.length := Nat.le_trans (longTo_len l _ f) (left_le l f)
theorem fB_none {l : List Pr} {f : Int} (h : fB l f = false) : longFrom l f = [] := by
  apply long_none
  rw [← fst_is]
  unfold fB at h
  cases e : fstB l f with
  | none => rfl
  | some p => rw [e] at h; cases h
theorem fB_some {l : List Pr} {f : Int} (h : fB l f = true) : longFrom l f = fP l f :: longFrom l (fP l f).e ∧ left l (fP l f).e < left l f := by
  unfold fB at h
  unfold fP
  cases e : fstB l f with
  | none => rw [e] at h; cases h
  | some p =>
    rw [fst_is] at e
    obtain ⟨hp, hb⟩ := first_some.1 e
    exact ⟨long_some e, left_lt hp hb⟩
set_option maxHeartbeats 2000000 in
theorem rlongest_any (l : List Pr) (al : Option Addr) (cl : Nat) (w : World) (hll : l.length ≤ 1000000) (hx : Ps w w.heap.size al l) :
    Calls Try.prog 14 #[.slice al l.length cl] w (Gives w (longFrom l (-9223372036854775808))) := by
  have CF : Hid (∀ f X, Below w.heap.size w X → Calls Try.prog 11 #[.slice al l.length cl, .int .i64 f] X fun e w' => e = .returned (.tuple #[.agg #[.int .i64 (fP l f).s, .int .i64 (fP l f).e], .bool (fB l f)]) ∧ Below X.heap.size X w') := Lib.hid fun f X h => rfirst_any f l al cl X hll (hx.keeps h)
  clear hx
  go_enter Try.func14, Try.ntmps14
  go_wp2_with (go_at_call 11; (with_reducible refine (CF.out _ _ (Below.refl _ _)).mono ?_); rintro e w1 ⟨rfl, hb1⟩)
  have hK0 := Pat.Blk2.new w1 25 (.int .i64 (fP l (-9223372036854775808)).s) (.int .i64 (fP l (-9223372036854775808)).e)
  have hB0 := hb1.alloc hb1.size (.cells #[.int .i64 (fP l (-9223372036854775808)).s, .int .i64 (fP l (-9223372036854775808)).e] 25)
  obtain ⟨W2, hW2⟩ : ∃ W2, w1.alloc (.cells #[.int .i64 (fP l (-9223372036854775808)).s, .int .i64 (fP l (-9223372036854775808)).e] 25) = W2 := ⟨_, rfl⟩
  have hgs : W2.heap.size = w1.heap.size + 1 := by rw [← hW2]; simp
  rw [hW2] at hK0 hB0 ⊢
  have HK0 := Lib.hid hK0
  have HB0 := Lib.hid hB0
  have hgw := hb1.size
  obtain ⟨g, hg⟩ : ∃ g, w1.heap.size = g := ⟨_, rfl⟩
  rw [hg] at HK0 hgs hgw ⊢
  have HLL := Lib.hid (long_len l (-9223372036854775808))
  clear hK0 hB0 hW2 hb1
  go_loopg [3, 5] l.length (fun gf s3 s5 wr => ∃ (d : List Pr) (f : Int), longFrom l (-9223372036854775808) = d ++ longFrom l f ∧ left l f ≤ gf ∧ s5 = .bool (fB l f) ∧ wr.ownsRow W2.heap.size 25 2 s3 d.length (cellsOf d) ∧ Pat.Blk2 wr g 25 (.int .i64 (fP l f).s) (.int .i64 (fP l f).e) ∧ Below w.heap.size w wr ∧ W2.heap.size ≤ wr.heap.size)
  case atStart => exact ⟨[], (-9223372036854775808), rfl, left_le l _, rfl, World.ownsRow_nil W2 W2.heap.size 25 2, HK0.out, HB0.out, Nat.le_refl _⟩
  case round =>
    obtain ⟨d, f, hd, hlf, rfl, hown, hblk, hbel, hsz⟩ := hrel
    have HO := Lib.hid hown
    have HK := Lib.hid hblk
    have HB := Lib.hid hbel
    have HD := Lib.hid hd
    cases hb : fB l f
    · have HE : Hid (longFrom l (-9223372036854775808) = d) := Lib.hid (by rw [HD.out, fB_none hb, List.append_nil])
      clear hown hblk hbel hd
      go_wp2
      obtain ⟨a, cap, rfl, hlc, hnc, hps⟩ := own_ps HO.out rfl
      go_ret
      rw [HE.out]
      exact ⟨a, cap, rfl, hlc, hnc, hps, HB.out⟩
    · obtain ⟨hl1, hl2⟩ := fB_some hb
      cases gk with
      | zero => exact absurd hl2 (by omega)
      | succ gf =>
        have HDL : Hid (d.length + 1 ≤ 1000000) := Lib.hid (by have h1 := congrArg List.length hd; rw [hl1] at h1; simp at h1; have := HLL.out; omega)
        obtain ⟨p, hp⟩ : ∃ p, fP l f = p := ⟨_, rfl⟩
        rw [hp] at hl1 hl2 HK hblk
        have HD2 : Hid (longFrom l (-9223372036854775808) = (d ++ [p]) ++ longFrom l p.e) := Lib.hid (by rw [hd, hl1]; simp)
        have hlf2 : left l p.e ≤ gf := by omega
        have hgl := hblk.lt
        obtain ⟨c0, c1⟩ := hblk.cells
        clear hown hblk hbel hd hp hl1 hl2 HD
        go_wp2_with (first
          | (at_builtin; refine app_ps rfl _ _ rfl W2.heap.size _ d.length d rfl (HO.out.alloc _) (some ⟨wr.heap.size, 0, none⟩) [p] 1 _ rfl (ps_one wr p (0, 0)) (fun e => by cases e) (by have := HDL.out; simp; omega) (by simp; omega) ?_; intro v2 w2 hown2 hg2; have HO2 := Lib.hid hown2; have HB2 := Lib.hid (Prs.app_below (HB.out.alloc HB.out.size _) (HO.out.alloc _) hg2 (by have := HB.out.size; simp; omega) (by omega)); have HK2 := Lib.hid ((HK.out.alloc (.cells #[.int .i64 p.s, .int .i64 p.e] 25)).grown hg2 (by intro e; have := own_ge (HO.out.alloc (.cells #[.int .i64 p.s, .int .i64 p.e] 25)) e.symm; omega)); have hs2 := hg2.size; obtain ⟨k0, k1⟩ := HK2.out.cells; clear hown2 hg2)
          | (go_at_call 11; (with_reducible refine (CF.out p.e _ HB2.out).mono ?_); rintro e w3 ⟨rfl, hb3⟩; have HB3 := Lib.hid (HB2.out.trans (hb3.mono HB2.out.size)); have HO3 := Lib.hid (own_keep HO2.out hb3); have hk3 := HK2.out.keep hb3 HK2.out.lt; obtain ⟨m0, m1⟩ := hk3.cells; obtain ⟨f0, f1⟩ := hk3.free; have h3 := hk3.put0 (.int .i64 (fP l p.e).s); obtain ⟨m2, m3⟩ := h3.cells; obtain ⟨f2, f3⟩ := h3.free; have HK3 := Lib.hid (h3.put1 (.int .i64 (fP l p.e).e)); clear hk3 h3))
        go_roundg gf
        case rel =>
          have hs3 := HB3.out.size
          have e1 : ((w3.setCell ⟨g, 0, none⟩ (.int .i64 (fP l p.e).s)).setCell ⟨g, 1, none⟩ (.int .i64 (fP l p.e).e)).heap.size = w3.heap.size := by simp [World.setCell]
          refine ⟨d ++ [p], p.e, HD2.out, hlf2, rfl, ?_, HK3.out, (HB3.out.setCell (p := ⟨g, 0, none⟩) hgw _).setCell (p := ⟨g, 1, none⟩) hgw _, ?_⟩
          · have h := HO3.out
            rw [show (d ++ [p]).length = d.length + [p].length from List.length_append]
            exact ownsRow_setCell_below (ownsRow_setCell_below h (a := ⟨g, 0, none⟩) (by show g < _; omega) _) (a := ⟨g, 1, none⟩) (by show g < _; omega) _
          · rw [e1]
            have h3 := hb3.size
            simp at hs2
            omega
        case measure => omega
end Go.Proofs.Ytlmncljnnpnjmaa.Pck
