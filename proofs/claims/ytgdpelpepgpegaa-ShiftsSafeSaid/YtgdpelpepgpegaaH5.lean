/- fill: its two closures. -/
import Derived.Test.YtgdpelpepgpegaaH4
namespace Go.Proofs.Ytgdpelpepgpegaa.Shf
open Go.RowKit Go.Maps Go.Proofs.Ytgdpelpepgpegaa.Tri Go.Proofs.Ytgdpelpepgpegaa.Lnk Go.Proofs.Ytgdpelpepgpegaa.Cwl Go.Proofs.Ytgdpelpepgpegaa.Bck Go.Proofs.Ytgdpelpepgpegaa.Reg
set_option maxRecDepth 100000
set_option linter.unusedVariables false

theorem ahead_any (w : World) (b0 t g n cap i j d1 d2 : Nat) (h0 : w.cell? ⟨b0, 0, none⟩ = some (.pointer (some ⟨t, 0, none⟩))) (h1 : w.cell? ⟨t, 0, none⟩ = some (.slice (some ⟨g, 0, none⟩) n cap))
    (hi : i < n) (hj : j < n) (h2 : w.cell? ⟨g, i * 3, none⟩ = some (.int .i64 (d1 : Int))) (h3 : w.cell? ⟨g, j * 3, none⟩ = some (.int .i64 (d2 : Int))) (e1 : d1 ≤ 1000000) (e2 : d2 ≤ 1000000) :
    Calls Try.prog 43 #[.int .i64 (i : Int), .int .i64 (j : Int), .pointer (some ⟨b0, 0, none⟩)] w fun e w' => e = .returned (.int .i64 ((d1 : Int) - d2)) ∧ ∃ q, w' = w.drewN q := by
  have hb0 := cell_lt0 h0
  have ht := cell_lt0 h1
  have hg := cell_lt0 h2
  have hin : (i : Int) < (n : Int) := by omega
  have hjn : (j : Int) < (n : Int) := by omega
  have hw : wrap64 ((d1 : Int) - (d2 : Int)) = (d1 : Int) - d2 := by unfold wrap64; omega
  go_enter Try.func43, Try.ntmps43
  go_wp2
  go_quiet (fail)
  go_wp2
  go_ret
  exact ⟨rfl, nq, rfl⟩
theorem keep_any (w : World) (b0 t g n cap i c a : Nat) (y : Int) (h0 : w.cell? ⟨b0, 0, none⟩ = some (.pointer (some ⟨t, 0, none⟩))) (h1 : w.cell? ⟨t, 0, none⟩ = some (.slice (some ⟨g, 0, none⟩) n cap))
    (hi : i < n) (hc : c < 2) (h2 : w.cell? ⟨g, i * 3 + 1 + c, none⟩ = some (.int .i64 (a : Int))) (hf : w.frozen? ⟨g, i * 3 + 1 + c, none⟩ = false) :
    Calls Try.prog 42 #[.int .i64 (c : Int), .int .i64 (i : Int), .int .i64 y, .pointer (some ⟨b0, 0, none⟩)] w fun e w' => (∃ v, e = .returned v) ∧ w' = (w.setCell ⟨g, i * 3 + 1 + c, none⟩ (.int .i64 (min (a : Int) y))).drew := by
  have hb0 := cell_lt0 h0
  have ht := cell_lt0 h1
  have hg := cell_lt0 h2
  have hin : (i : Int) < (n : Int) := by omega
  have hc2 : (c : Int) < 2 := by omega
  go_enter Try.func42, Try.ntmps42
  go_wp2
  go_region
  go_end0
  exact ⟨⟨_, rfl⟩, rfl⟩
end Go.Proofs.Ytgdpelpepgpegaa.Shf
