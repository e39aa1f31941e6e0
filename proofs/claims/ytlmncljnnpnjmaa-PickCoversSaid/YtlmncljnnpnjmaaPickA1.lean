/- What is picked: mathematics of a row in order; where its first pair from a place on is. -/
import Derived.Test.YtlmncljnnpnjmaaPickB5
namespace Go.Proofs.Ytlmncljnnpnjmaa.Pck
open Go.RowKit Go.Proofs.Ytlmncljnnpnjmaa.Prs Adm Reg
set_option maxRecDepth 100000
abbrev lowest : Int := -9223372036854775808
/-- One stands ahead of another. -/
def Ahead (x y : Pr) : Prop := x.s < y.s ∨ (x.s = y.s ∧ y.e < x.e)
instance (x y : Pr) : Decidable (Ahead x y) := inferInstanceAs (Decidable (_ ∨ _))
/-- A row in order of a list's pairs that have bytes. -/
structure Inord (l r : List Pr) : Prop where
  mem : ∀ p : Pr, p ∈ r ↔ p ∈ l ∧ p.s < p.e
  srt : r.Pairwise fun x y => ¬ Ahead y x
  len : r.length ≤ l.length
def geQ (f : Int) (p : Pr) : Bool := decide (f ≤ p.s)
theorem Inord.first {l r : List Pr} (h : Inord l r) {k : Nat} {f : Int} (hk : ∀ x ∈ r.take k, x.s < f) : (r.drop k).find? (geQ f) = fstB l f := by
  rw [fst_is]
  have hin : ∀ q ∈ l, Ok f q → q ∈ r.drop k := fun q hq ho => by
    have h1 : q ∈ r := (h.mem q).2 ⟨hq, ho.1⟩
    rw [← List.take_append_drop k r, List.mem_append] at h1
    rcases h1 with h1 | h1
    · have := hk q h1; have := ho.2; omega
    · exact h1
  cases e : (r.drop k).find? (geQ f) with
  | none =>
    symm
    rw [first_none]
    intro q hq ho
    have := List.find?_eq_none.1 e q (hin q hq ho)
    simp [geQ] at this
    have := ho.2; omega
  | some p =>
    symm
    rw [first_some]
    obtain ⟨hg, us, vs, hs, hno⟩ := List.find?_eq_some_iff_append.1 e
    have hg : f ≤ p.s := by simpa [geQ] using hg
    have hpd : p ∈ r.drop k := by rw [hs]; simp
    obtain ⟨hpl, hpe⟩ := (h.mem p).1 (List.mem_of_mem_drop hpd)
    refine ⟨hpl, ⟨hpe, hg⟩, fun q hq ho => ?_⟩
    have hqd := hin q hq ho
    rw [hs, List.mem_append, List.mem_cons] at hqd
    rcases hqd with hq1 | rfl | hq1
    · have := hno q hq1
      simp [geQ] at this
      have := ho.2; omega
    · exact .inr ⟨rfl, Int.le_refl _⟩
    · have hpw : (r.drop k).Pairwise fun x y => ¬ Ahead y x := h.srt.sublist (List.drop_sublist k r)
      rw [hs] at hpw
      have h1 := ((List.pairwise_append.1 hpw).2.1)
      have h2 := (List.pairwise_cons.1 h1).1 q hq1
      unfold Ahead at h2
      omega
theorem Inord.ahead {l r : List Pr} (h : Inord l r) {k i : Nat} {p : Pr} (hi : (r.drop k)[i]? = some p) : ∀ x ∈ r.take (k + i + 1), x.s < p.e := by
  rw [List.getElem?_drop] at hi
  have hp := List.mem_of_getElem? hi
  have hpe := ((h.mem p).1 hp).2
  intro x hx
  obtain ⟨j, hj, rfl⟩ := List.mem_iff_getElem.1 hx
  rw [List.getElem_take]
  rw [List.length_take] at hj
  obtain ⟨hki, hpi⟩ := List.getElem?_eq_some_iff.1 hi
  by_cases hjk : j = k + i
  · subst hjk; rw [hpi]; exact hpe
  · have := List.pairwise_iff_getElem.1 h.srt j (k + i) (by omega) hki (by omega)
    rw [hpi] at this
    unfold Ahead at this
    omega
/-- Where it is; -1: nowhere. -/
def nextI (r : List Pr) (f : Int) : Int := match r.findIdx? (geQ f) with | none => -1 | some i => i
theorem next_none {r : List Pr} {f : Int} (h : r.find? (geQ f) = none) : nextI r f = -1 := by
  unfold nextI
  rw [List.findIdx?_eq_none_iff.2 fun x hx => by simpa using List.find?_eq_none.1 h x hx]
theorem next_some {r : List Pr} {f : Int} {p : Pr} (h : r.find? (geQ f) = some p) : ∃ i : Nat, nextI r f = i ∧ i < r.length ∧ r[i]? = some p := by
  obtain ⟨hg, us, vs, hs, hno⟩ := List.find?_eq_some_iff_append.1 h
  refine ⟨us.length, ?_, by rw [hs]; simp, by rw [hs]; simp⟩
  unfold nextI
  have e : r.findIdx? (geQ f) = some us.length := by
    rw [List.findIdx?_eq_some_iff_getElem]
    refine ⟨by rw [hs]; simp, by simpa [hs] using hg, fun j hj => ?_⟩
    have h1 : r[j]'(by rw [hs]; simp; omega) = us[j] := by simp [hs, hj]
    rw [h1]
    simpa using hno us[j] (List.getElem_mem hj)
  rw [e]
theorem next_at {r : List Pr} {f : Int} {k : Nat} {p : Pr} (hk : r[k]? = some p) (hno : ∀ x ∈ r.take k, geQ f x = false) (hg : geQ f p = true) : nextI r f = k := by
  unfold nextI
  obtain ⟨h1, h2⟩ := List.getElem?_eq_some_iff.1 hk
  have e : r.findIdx? (geQ f) = some k := by
    rw [List.findIdx?_eq_some_iff_getElem]
    refine ⟨h1, by rw [h2]; exact hg, fun j hj => ?_⟩
    have := hno r[j] (List.mem_take_iff_getElem.2 ⟨j, by omega, rfl⟩)
    simp [this]
  rw [e]
theorem next_gone {r : List Pr} {f : Int} (hno : ∀ x ∈ r, geQ f x = false) : nextI r f = -1 := by
  apply next_none
  rw [List.find?_eq_none]
  intro x hx
  rw [hno x hx]; simp
set_option maxHeartbeats 1000000 in
theorem next_any (f : Int) (r : List Pr) (a : Option Addr) (c : Nat) (w : World) (hl : r.length ≤ 1000000) (hx : Ps w w.heap.size a r) :
    Calls Try.prog 19 #[.slice a r.length c, .int .i64 f] w fun e w' => e = .returned (.int .i64 (nextI r f)) ∧ w' = w := by
  go_enter Try.func19, Try.ntmps19
  go_wp2
  go_loopg [8] r.length (fun gf s8 wr => ∃ k : Nat, k + gf = r.length ∧ s8 = .int .i64 k ∧ (∀ x ∈ r.take k, geQ f x = false) ∧ wr = w)
  case atStart => exact ⟨0, by simp, rfl, by simp, rfl⟩
  case round =>
    obtain ⟨k, hk, rfl, hno, rfl⟩ := hrel
    cases gk with
    | zero =>
      obtain rfl : k = r.length := by omega
      have hni : ¬ ((r.length : Int) < (r.length : Int)) := by omega
      rw [List.take_length] at hno
      have HN := Lib.hid (next_gone hno)
      clear hno
      go_wp2
      go_ret
      exact ⟨by rw [HN.out]; rfl, rfl⟩
    | succ gf =>
      have hlt : k < r.length := by omega
      have hli : (k : Int) < (r.length : Int) := by omega
      obtain ⟨b, o, rfl, hbl, hc⟩ := hx (by omega)
      obtain ⟨p, hp⟩ : ∃ p, r[k]? = some p := ⟨_, List.getElem?_eq_getElem hlt⟩
      have hpk : r[k] = p := by rw [List.getElem?_eq_getElem hlt] at hp; exact Option.some.inj hp
      have d0 := (hc k hlt).1
      rw [hpk] at d0
      obtain ⟨z, hz⟩ : ∃ z, decide (f ≤ p.s) = z := ⟨_, rfl⟩
      have HNO := Lib.hid hno
      clear hno hc hpk
      cases z
      · have HG : Hid (∀ x ∈ r.take (k + 1), geQ f x = false) := Lib.hid (by
          intro x hx
          rw [List.take_add_one, hp, List.mem_append] at hx
          rcases hx with hx | hx
          · exact HNO.out x hx
          · obtain rfl : x = p := by simpa using hx
            exact hz)
        clear HNO hp
        go_wp2
        go_roundg gf
        case rel => exact ⟨k + 1, by omega, by go_num, HG.out, rfl⟩
        case measure => omega
      · have HG := Lib.hid (next_at hp HNO.out hz)
        clear HNO hp
        go_wp2
        go_ret
        exact ⟨by rw [HG.out]; rfl, rfl⟩
end Go.Proofs.Ytlmncljnnpnjmaa.Pck
