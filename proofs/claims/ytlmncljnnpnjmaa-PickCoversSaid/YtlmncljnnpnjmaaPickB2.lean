/- Stage 23: the reference's first piece. -/
import Derived.Test.YtlmncljnnpnjmaaPickB
namespace Go.Proofs.Ytlmncljnnpnjmaa.Pck
open Go.RowKit Go.Proofs.Ytlmncljnnpnjmaa.Prs Adm Reg
set_option maxRecDepth 100000
theorem bet_iff (l : List Pr) (f : Int) (p : Pr) : betB l f p = decide (Better l f p) := by
  rw [Bool.eq_iff_iff, decide_eq_true_eq]
  unfold betB okB Better Ok
  simp only [Bool.and_eq_true, Bool.not_eq_true', Bool.or_eq_false_iff, decide_eq_false_iff_not, List.any_eq_false]
  constructor
  · rintro ⟨⟨h1, h2⟩, h3⟩
    refine ⟨⟨by omega, by omega⟩, fun q hq ⟨h4, h5⟩ => ?_⟩
    have h6 := h3 q hq
    simp [badQ, h4, h5] at h6
    by_cases h7 : p.s = q.s
    · right; exact ⟨h7, by have := h6.2 h7.symm; omega⟩
    · left; have := h6.1; omega
  · rintro ⟨⟨h1, h2⟩, h3⟩
    refine ⟨⟨by omega, by omega⟩, fun q hq => ?_⟩
    intro h4
    simp [badQ] at h4
    obtain ⟨h5, h6, h7⟩ := h4
    rcases h3 q hq ⟨h5, h6⟩ with h8 | ⟨h8, h9⟩
    · rcases h7 with h7 | ⟨h7, _⟩ <;> omega
    · rcases h7 with h7 | ⟨_, h7⟩ <;> omega
def fstB (l : List Pr) (f : Int) : Option Pr := l.find? (betB l f)
theorem fst_is (l : List Pr) (f : Int) : fstB l f = firstOf l f := by
  unfold fstB firstOf
  congr 1
  funext p
  exact bet_iff l f p
end Go.Proofs.Ytlmncljnnpnjmaa.Pck
