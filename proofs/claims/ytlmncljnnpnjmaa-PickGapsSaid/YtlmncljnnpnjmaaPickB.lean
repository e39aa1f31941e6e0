/- Stage 23: the reference: is a pair the first one? -/
import Derived.Test.YtlmncljnnpnjmaaAdmB
import Derived.Test.YtlmncljnnpnjmaaNMath
namespace Go.Proofs.Ytlmncljnnpnjmaa.Pck
open Go.RowKit Go.Proofs.Ytlmncljnnpnjmaa.Prs Adm
set_option maxRecDepth 100000
def badQ (f : Int) (p q : Pr) : Bool := decide (q.s < q.e) && (decide (f ≤ q.s) && (decide (q.s < p.s) || ((q.s == p.s) && decide (p.e < q.e))))
def okB (f : Int) (p : Pr) : Bool := !(decide (p.e ≤ p.s) || decide (p.s < f))
def betB (l : List Pr) (f : Int) (p : Pr) : Bool := okB f p && !(l.any (badQ f p))
theorem any_snoc (g : Pr → Bool) (l : List Pr) (k : Nat) (p : Pr) (h : l[k]? = some p) : (l.take (k + 1)).any g = ((l.take k).any g || g p) := by
  rw [List.take_add_one, h]
  simp
theorem any_bad (g : Pr → Bool) (l : List Pr) (k : Nat) (p : Pr) (h : l[k]? = some p) (hg : g p = true) : l.any g = true := by
  rw [List.any_eq_true]
  exact ⟨p, List.mem_of_getElem? h, hg⟩
set_option maxHeartbeats 4000000 in
theorem rbetter_any (f : Int) (p : Pr) (l : List Pr) (al : Option Addr) (cl : Nat) (w : World) (hll : l.length ≤ 1000000) (hx : Ps w w.heap.size al l) :
    Calls Try.prog 20 #[.slice al l.length cl, pv p, .int .i64 f] w fun e w' => e = .returned (.bool (betB l f p)) ∧ Below w.heap.size w w' := by
  have hB0 := (Below.refl w.heap.size w).alloc (Nat.le_refl _) (.cells #[.int .i64 p.s, .int .i64 p.e] 25)
  have P0 := pb_new w p.s p.e
  obtain ⟨c0, c1⟩ := P0.cells
  have hlt0 := P0.lt
  obtain ⟨W1, hW1⟩ : ∃ W1, w.alloc (.cells #[.int .i64 p.s, .int .i64 p.e] 25) = W1 := ⟨_, rfl⟩
  rw [hW1] at hB0 P0 c0 c1 hlt0
  have HB0 := Lib.hid hB0
  have HW := Lib.hid hW1
  clear hB0 hW1
  obtain ⟨e1, he1⟩ : ∃ d, decide (p.e ≤ p.s) = d := ⟨_, rfl⟩
  obtain ⟨e2, he2⟩ : ∃ d, decide (p.s < f) = d := ⟨_, rfl⟩
  have HOK : Hid (okB f p = !(e1 || e2)) := Lib.hid (by rw [← he1, ← he2]; rfl)
  cases e1
  · cases e2
    · have HR : Hid (betB l f p = !(l.any (badQ f p))) := Lib.hid (by unfold betB; rw [HOK.out]; rfl)
      rw [HR.out]
      go_enter Try.func20, Try.ntmps20
      go_wp2
      rw [HW.out]
      go_loopg [7] l.length (fun gf s7 wr => ∃ k : Nat, k + gf = l.length ∧ s7 = .int .i64 k ∧ (l.take k).any (badQ f p) = false ∧ Below W1.heap.size W1 wr)
      case atStart => exact ⟨0, by simp, rfl, by simp, Below.refl _ _⟩
      case round =>
        obtain ⟨k, hk, rfl, hany, hbel⟩ := hrel
        cases gk with
        | zero =>
          obtain rfl : k = l.length := by omega
          have hni : ¬ ((l.length : Int) < (l.length : Int)) := by omega
          rw [List.take_length] at hany
          have HA := Lib.hid hany
          have HBE := Lib.hid hbel
          clear hany hbel
          go_wp2
          go_ret
          exact ⟨by rw [HA.out]; rfl, HB0.out.trans (HBE.out.mono HB0.out.size)⟩
        | succ gf =>
          have hlt : k < l.length := by omega
          have hli : (k : Int) < (l.length : Int) := by omega
          obtain ⟨q, hq⟩ : ∃ q, l[k]? = some q := ⟨_, List.getElem?_eq_getElem hlt⟩
          obtain ⟨b, o, rfl, hbl, hc⟩ := hx (by omega)
          have hqk : l[k] = q := by rw [List.getElem?_eq_getElem hlt] at hq; exact Option.some.inj hq
          have hbw := HB0.out.trans (hbel.mono HB0.out.size)
          obtain ⟨d0, d1⟩ : wr.cell? ⟨b, o + k * 2, none⟩ = some (.int .i64 q.s) ∧ wr.cell? ⟨b, o + k * 2 + 1, none⟩ = some (.int .i64 q.e) := by
            have h2 := hc k hlt
            rw [hqk] at h2
            exact ⟨(hbw.cell (p := ⟨b, o + k * 2, none⟩) hbl).trans h2.1, (hbw.cell (p := ⟨b, o + k * 2 + 1, none⟩) hbl).trans h2.2⟩
          have HS : Hid ((l.take (k + 1)).any (badQ f p) = badQ f p q) := Lib.hid (by rw [any_snoc _ _ _ _ hq, hany]; rfl)
          have HT : Hid (badQ f p q = true → l.any (badQ f p) = true) := Lib.hid (any_bad _ _ _ _ hq)
          have HB2 := Lib.hid (hbel.alloc hbel.size (.cells #[.int .i64 q.s, .int .i64 q.e] 25))
          obtain ⟨q0, q1⟩ := (pb_new wr q.s q.e).cells
          obtain ⟨p0, p1⟩ := (P0.keep HB2.out hlt0).cells
          clear hq hqk hc hany hbel hbw c0 c1
          obtain ⟨a1, j1⟩ : ∃ d, decide (q.s < q.e) = d := ⟨_, rfl⟩
          obtain ⟨a2, j2⟩ : ∃ d, decide (f ≤ q.s) = d := ⟨_, rfl⟩
          obtain ⟨a3, j3⟩ : ∃ d, decide (q.s < p.s) = d := ⟨_, rfl⟩
          obtain ⟨a5, j5⟩ : ∃ d, decide (p.e < q.e) = d := ⟨_, rfl⟩
          obtain ⟨a4, j4⟩ : ∃ d, (q.s == p.s) = d := ⟨_, rfl⟩
          have HV : Hid (badQ f p q = (a1 && (a2 && (a3 || (a4 && a5))))) := Lib.hid (by rw [← j1, ← j2, ← j3, ← j4, ← j5]; rfl)
          cases a1
          · skip
            go_wp2
            go_roundg gf
            case rel => exact ⟨k + 1, by omega, by go_num, by rw [HS.out, HV.out]; rfl, HB2.out⟩
            case measure => omega
          · skip
            cases a2
            · skip
              go_wp2
              go_roundg gf
              case rel => exact ⟨k + 1, by omega, by go_num, by rw [HS.out, HV.out]; rfl, HB2.out⟩
              case measure => omega
            · skip
              cases a3
              · skip
                cases a4
                · skip
                  go_wp2
                  go_roundg gf
                  case rel => exact ⟨k + 1, by omega, by go_num, by rw [HS.out, HV.out]; rfl, HB2.out⟩
                  case measure => omega
                · skip
                  cases a5
                  · skip
                    go_wp2
                    go_roundg gf
                    case rel => exact ⟨k + 1, by omega, by go_num, by rw [HS.out, HV.out]; rfl, HB2.out⟩
                    case measure => omega
                  · skip
                    go_wp2
                    go_ret
                    exact ⟨by rw [HT.out HV.out]; rfl, HB0.out.trans (HB2.out.mono HB0.out.size)⟩
              · skip
                go_wp2
                go_ret
                exact ⟨by rw [HT.out HV.out]; rfl, HB0.out.trans (HB2.out.mono HB0.out.size)⟩
    · skip
      have HR : Hid (betB l f p = false) := Lib.hid (by unfold betB; rw [HOK.out]; rfl)
      rw [HR.out]
      go_enter Try.func20, Try.ntmps20
      go_wp2
      rw [HW.out]
      go_ret
      exact ⟨rfl, HB0.out⟩
  · skip
    have HR : Hid (betB l f p = false) := Lib.hid (by unfold betB; rw [HOK.out]; rfl)
    rw [HR.out]
    go_enter Try.func20, Try.ntmps20
    go_wp2
    rw [HW.out]
    go_ret
    exact ⟨rfl, HB0.out⟩
end Go.Proofs.Ytlmncljnnpnjmaa.Pck
