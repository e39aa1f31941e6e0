/- Cuts of slices of bytes and of numbers. -/
import Derived.Test.YtpknaobmchmpdaaEg
namespace Go.Proofs.Ytpknaobmchmpdaa.Suf
open Go.RowKit Go.Maps Go.Proofs.Ytpknaobmchmpdaa.Crt
set_option maxRecDepth 100000
set_option linter.unusedVariables false

theorem size_of5 : ∀ w, (Go.sizeOf 5).run Try.prog w = .ok 1 w := fun w => by
  have hsz : (Try.prog.info? 5).map (·.size) = some 1 := by kernel_rfl
  cases hq : Try.prog.info? 5 with
  | none => rw [hq] at hsz; cases hsz
  | some i =>
    rw [hq] at hsz
    have hz : i.size = 1 := Option.some.inj hsz
    simp [Go.sizeOf, typeInfo, hq, hz]
theorem size_of3 : ∀ w, (Go.sizeOf 3).run Try.prog w = .ok 1 w := fun w => by
  have hsz : (Try.prog.info? 3).map (·.size) = some 1 := by kernel_rfl
  cases hq : Try.prog.info? 3 with
  | none => rw [hq] at hsz; cases hsz
  | some i =>
    rw [hq] at hsz
    have hz : i.size = 1 := Option.some.inj hsz
    simp [Go.sizeOf, typeInfo, hq, hz]
theorem run_front (b o n c k : Nat) (h : k ≤ c) (W : World) : (Instr.slice 22 (.slice (some ⟨b, o, none⟩) n c) none (some (.int .i64 (k : Int))) none).run Try.prog W = .ok (.slice (some ⟨b, o, none⟩) k c) W := by
  have ht : Try.prog.underlying 22 = some (.slice (Try.prog.elem 22)) := by simp [Program.elem, Try.underlying22]
  have he : Try.prog.elem 22 = 5 := by simp [Program.elem, Try.underlying22]
  rw [run_slice_h W 22 _ _ _ ht .i64 _ (by omega) (by omega), he, size_of5]
  simp [Result.andThen, sliced, Addr.add]
theorem run_back (b o n c d : Nat) (h : d < n) (hc : n ≤ c) (W : World) : (Instr.slice 22 (.slice (some ⟨b, o, none⟩) n c) (some (.int .i64 (d : Int))) none none).run Try.prog W = .ok (.slice (some ⟨b, o + d, none⟩) (n - d) (c - d)) W := by
  have ht : Try.prog.underlying 22 = some (.slice (Try.prog.elem 22)) := by simp [Program.elem, Try.underlying22]
  have he : Try.prog.elem 22 = 5 := by simp [Program.elem, Try.underlying22]
  rw [run_slice_l W 22 _ _ _ ht .i64 _ (by omega) (by omega), he, size_of5]
  have hne : ¬ c = d := by omega
  by_cases h0 : d = 0
  · subst h0
    simp [Result.andThen, sliced, Addr.add, hne]
  · simp [Result.andThen, sliced, Addr.add, hne, h0]
theorem bs_front {w : World} {B b o : Nat} {l : Tx} (h : Bs w B (some ⟨b, o, none⟩) l) (k : Nat) : Bs w B (some ⟨b, o, none⟩) (l.take k) := fun h0 => by
  have hl : 0 < l.length := by rw [List.length_take] at h0; omega
  obtain ⟨b', o', e, hb, hc⟩ := h hl
  refine ⟨b', o', e, hb, fun i hi => ?_⟩
  have hi2 : i < l.length := by rw [List.length_take] at hi; omega
  rw [List.getElem_take]
  exact hc i hi2
theorem bs_back {w : World} {B b o : Nat} {l : Tx} (h : Bs w B (some ⟨b, o, none⟩) l) (d : Nat) : Bs w B (some ⟨b, o + d, none⟩) (l.drop d) := fun h0 => by
  rw [List.length_drop] at h0
  obtain ⟨b', o', e, hb, hc⟩ := h (by omega)
  cases e
  refine ⟨_, _, rfl, hb, fun i hi => ?_⟩
  rw [List.length_drop] at hi
  rw [List.getElem_drop, Nat.add_assoc]
  exact hc (d + i) (by omega)
theorem str_front {w : World} {B b o : Nat} {l : Tx} (h : Bs w B (some ⟨b, o, none⟩) l) (k c : Nat) (hk : k ≤ l.length) : (convert 22 9 (.slice (some ⟨b, o, none⟩) k c)).run Try.prog w = .ok (.string (str (l.take k))) w := by
  have := str_of_bs c (bs_front h k)
  rwa [List.length_take, Nat.min_eq_left hk] at this
theorem str_back {w : World} {B b o : Nat} {l : Tx} (h : Bs w B (some ⟨b, o, none⟩) l) (d c : Nat) : (convert 22 9 (.slice (some ⟨b, o + d, none⟩) (l.length - d) c)).run Try.prog w = .ok (.string (str (l.drop d))) w := by
  have := str_of_bs c (bs_back h d)
  rwa [List.length_drop] at this
theorem run_rest (b o n c : Nat) (h : 1 ≤ n) (hc : n ≤ c) : ∃ A, (∀ W, (Instr.slice 31 (.slice (some ⟨b, o, none⟩) n c) (some (.int .i64 1)) none none).run Try.prog W = .ok (.slice (some A) (n - 1) (c - 1)) W) ∧ (1 < n → A = ⟨b, o + 1, none⟩) := by
  have ht : Try.prog.underlying 31 = some (.slice (Try.prog.elem 31)) := by simp [Program.elem]
  have he : Try.prog.elem 31 = 3 := by simp [Program.elem]
  refine ⟨if c = 1 then ⟨b, o, none⟩ else ⟨b, o + 1, none⟩, fun W => ?_, fun h1 => if_neg (by omega)⟩
  rw [run_slice_l W 31 _ _ _ ht .i64 _ (by omega) (by omega), he, size_of3]
  by_cases h0 : c = 1
  · subst h0
    simp [Result.andThen, sliced]
  · simp [Result.andThen, sliced, Addr.add, h0]
theorem isame_len (w : World) (xs ys : List Int) (n : Nat) (hn : ys.length = n) (a b : Option Addr) (ca cb B : Nat) (hx : Lnk.Is w B a xs) (hy : Lnk.Is w B b ys) (hl : xs.length ≤ 1000000000) (hl2 : ys.length ≤ 1000000000) :
    Calls Try.prog 14 #[.slice a xs.length ca, .slice b n cb] w fun e w' => e = .returned (.bool (decide (xs = ys))) ∧ ∃ q, w' = w.drewN q := by
  subst hn
  exact Lnk.isame_any w xs ys a b ca cb B hx hy hl hl2
end Go.Proofs.Ytpknaobmchmpdaa.Suf
