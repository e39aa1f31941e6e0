/- falls: where each node goes on, and its closure. -/
import Derived.Test.YtgdpelpepgpegaaH2
import Derived.WalkMore
namespace Go.Proofs.Ytgdpelpepgpegaa.Shf
open Go.RowKit Go.Maps Go.Proofs.Ytgdpelpepgpegaa.Tri Go.Proofs.Ytgdpelpepgpegaa.Lnk Go.Proofs.Ytgdpelpepgpegaa.Cwl Go.Proofs.Ytgdpelpepgpegaa.Bck Go.Proofs.Ytgdpelpepgpegaa.Reg
set_option maxRecDepth 100000
set_option linter.unusedVariables false

/-- While the order grows: those in it know where they fall. -/
def fls (ps Q : List Tx) : List Int := ps.map fun q => if q ∈ Q then failOf ps q else 0
theorem fls_len (ps Q : List Tx) : (fls ps Q).length = ps.length := by simp [fls]
theorem fls_at (ps Q : List Tx) (i : Nat) (h : i < ps.length) : (fls ps Q)[i]'(by rw [fls_len]; exact h) = if ps[i] ∈ Q then failOf ps ps[i] else 0 := by simp [fls]
theorem fls_snoc {ps : List Tx} (hd : ps.Nodup) (Q : List Tx) {i : Nat} (hi : i < ps.length) : fls ps (Q ++ [ps[i]]) = (fls ps Q).set i (failOf ps ps[i]) := by
  apply List.ext_getElem
  · simp [fls]
  · intro j h1 h2
    rw [fls_len] at h1
    rw [List.getElem_set, fls_at _ _ j h1, fls_at _ _ j h1]
    by_cases e : i = j
    · subst e; simp
    · have hne : ps[j] ≠ ps[i] := fun q => e (nd_inj hd q).symm
      simp [hne, e]
theorem fls_all {ps Q : List Tx} (h : ∀ p ∈ ps, p ∈ Q) : fls ps Q = ps.map (failOf ps) := by
  unfold fls
  apply List.map_congr_left
  intro p hp
  rw [if_pos (h p hp)]
theorem fls_root {ps : List Tx} (hw : Wf ps) : fls ps [[]] = (List.replicate ps.length 0).set 0 (-1) := by
  apply List.ext_getElem
  · simp [fls]
  · intro j h1 h2
    rw [fls_len] at h1
    rw [List.getElem_set, fls_at _ _ j h1]
    by_cases e : 0 = j
    · subst e
      simp [hw.at0, failOf]
    · have hne : ps[j] ≠ [] := fun q => e ((hw.nil_iff h1).1 q).symm
      simp [hne, e]
/-- The row of falls in memory: its cells. -/
def Fr (w : World) (g n : Nat) (ps Q : List Tx) : Prop := n = ps.length ∧ g < w.heap.size ∧ ∀ p ∈ ps, p ∈ Q → ∃ i : Nat, place ps p = (i : Int) ∧ i < ps.length ∧ ps.length = n ∧ w.cell? ⟨g, i, none⟩ = some (.int .i64 (failOf ps p))
theorem own_fr {w : World} {s g n cap : Nat} {ps Q : List Tx} (h : w.ownsRow s 3 1 (.slice (some ⟨g, 0, none⟩) n cap) n (ivals (fls ps Q))) (hn : ps.length = n) : Fr w g n ps Q := by
  refine ⟨hn.symm, (own_block_lt h (g := g) rfl).2.1, fun p hp hq => ?_⟩
  obtain ⟨i, hi, e, e2, _⟩ := place_mem hp
  refine ⟨i, e, hi, hn, ?_⟩
  have := h.cellAt i (by omega)
  rw [this, ivals_at _ _ (by rw [fls_len]; exact hi), fls_at _ _ i hi, e2, if_pos hq]
/-- How deep a number is. -/
def mz (ps : List Tx) (n : Int) : Nat := if n < 0 then 0 else (pathD ps n).length + 1
theorem mz_place {ps : List Tx} {z : Tx} (h : z ∈ ps) : mz ps (place ps z) = z.length + 1 := by
  have h0 := (place_nonneg ps z).2 h
  obtain ⟨i, hi, e, e2, _⟩ := place_mem h
  rw [mz, if_neg (by omega), e, pathD_at hi, e2]
theorem mz_fail {ps : List Tx} (hw : Wf ps) (z : Tx) : mz ps (failOf ps z) ≤ z.length := by
  by_cases hz : z = []
  · subst hz; rw [fail_nil, mz, if_pos (by omega)]; simp
  · obtain ⟨u, z', e, hu, h1, h2, h3, _⟩ := fail_step hw z hz
    rw [h3, mz_place h1]; omega
set_option maxHeartbeats 2000000 in
/-- The closure: from where a path falls to, by a byte. -/
theorem land_any (w : World) (s x : Nat) (l : List Tx) (hbk : Bk w s x l) (gf gb g n : Nat) (Q : List Tx)
    (hgf : w.cell? ⟨gf, 0, none⟩ = some (.slice (some ⟨g, 0, none⟩) n n)) (hgb : w.cell? ⟨gb, 0, none⟩ = some (.pointer (some ⟨x, 0, none⟩)))
    (hfr : Fr w g n (paths (turned l)) Q) (hn : n ≤ 1000000) (p : Tx) (hp : ∀ y ∈ paths (turned l), y.length < p.length → y ∈ Q) (c : UInt8) :
    Calls Try.prog 44 #[.int .i64 (failOf (paths (turned l)) p), .int .u8 (c.toNat : Int), .pointer (some ⟨gf, 0, none⟩), .pointer (some ⟨gb, 0, none⟩)] w fun e w' => e = .returned (.int .i64 (failOf (paths (turned l)) (p ++ [c]))) ∧ w = w' := by
  obtain ⟨tt, hx, htr⟩ := hbk.tree
  have HS := Lib.hid (step_any w s tt (paths (turned l)) (turned l) htr)
  have HW := Lib.hid (paths_wf (turned l))
  have hgbl := cell_lt0 hgb
  have hgfl := cell_lt0 hgf
  have hxl := cell_lt0 hx
  obtain ⟨hn0, hgl, hr⟩ := hfr
  have HR := Lib.hid hr
  have HQ := Lib.hid hp
  clear hp htr hr hbk
  generalize paths (turned l) = ps at *
  go_enter Try.func44, Try.ntmps44
  go_wp2
  go_loop [0] (fun v => ∃ z : Tx, z.length ≤ p.length ∧ v = .int .i64 (failOf ps z) ∧ failOf ps (z ++ [c]) = failOf ps (p ++ [c])) (fun v => mz ps (intOf v))
  case atStart => exact ⟨p, Nat.le_refl _, rfl, rfl⟩
  case round =>
    obtain ⟨z, hz, rfl, he⟩ := hrel
    by_cases hz0 : z = []
    · subst hz0
      rw [List.nil_append, fail_one HW.out] at he
      have HE := Lib.hid he
      clear he
      rw [fail_nil]
      go_wp2
      go_ret
      exact ⟨ret_int HE.out, rfl⟩
    · obtain ⟨u, y, e, hu, hy, hyl, ef, ec, _⟩ := fail_step HW.out z hz0
      rw [ec c] at he
      obtain ⟨i, ei, hi, hin0, d0⟩ := HR.out y hy (HQ.out y hy (by omega))
      have HSC : Hid (Calls Try.prog 23 #[.pointer (some ⟨tt, 0, none⟩), .int .i64 (i : Int), .int .u8 (c.toNat : Int)] w fun e w' => e = .returned (.int .i64 (place ps (y ++ [c]))) ∧ w = w') := Lib.hid (by
        have := HS.out (i : Int) (wf_nat (by omega) (by omega)) c
        rwa [← ei, step_eq hy c, ei] at this)
      have HM : Hid (mz ps (failOf ps y) < mz ps (failOf ps z)) := Lib.hid (by
        have := mz_fail HW.out y
        rw [ef, mz_place hy]; omega)
      rw [ef, ei] at HM ⊢
      have hin : (i : Int) < (n : Int) := by omega
      clear hy ef ei ec hz0 e hu hin0 hi hn0
      by_cases hm : y ++ [c] ∈ ps
      · rw [if_pos hm] at he
        have hx0 : 0 ≤ place ps (y ++ [c]) := (place_nonneg ps _).2 hm
        have HE := Lib.hid he
        clear he hm d0
        generalize place ps (y ++ [c]) = x0 at *
        go_wp2_with (go_at_call 23; (with_reducible refine HSC.out.mono ?_); rintro e w1 ⟨rfl, rfl⟩)
        go_ret
        exact ⟨ret_int HE.out, rfl⟩
      · rw [if_neg hm] at he
        have hx0 : place ps (y ++ [c]) < 0 := (place_neg ps _).2 hm
        have HE := Lib.hid he
        clear he hm
        generalize place ps (y ++ [c]) = x0 at *
        generalize hfy : failOf ps y = fy at *
        have HFY := Lib.hid hfy
        clear hfy
        go_wp2_with (go_at_call 23; (with_reducible refine HSC.out.mono ?_); rintro e w1 ⟨rfl, rfl⟩)
        go_round
        case rel => exact ⟨y, by omega, by rw [HFY.out], HE.out⟩
        case measure => simpa [intOf] using HM.out
end Go.Proofs.Ytgdpelpepgpegaa.Shf
