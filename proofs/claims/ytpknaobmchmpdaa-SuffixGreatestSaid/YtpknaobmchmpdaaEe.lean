/- Period and Borders. -/
import Derived.Test.YtpknaobmchmpdaaEd
namespace Go.Proofs.Ytpknaobmchmpdaa.Suf
open Go.RowKit Go.Maps Go.Proofs.Ytpknaobmchmpdaa.Crt
set_option maxRecDepth 100000
set_option linter.unusedVariables false

set_option maxHeartbeats 1000000 in
theorem period_any (w : World) (s : Tx) (a : Option Addr) (cap : Nat) (ha : Bs w w.heap.size a s) (hl : s.length ≤ 1000000) :
    Calls Try.prog 12 #[.slice a s.length cap] w fun e w' => e = .returned (.int .i64 (per s : Int)) ∧ Below w.heap.size w w' := by
  have HL := Lib.hid (longest_any w s a cap ha hl)
  clear ha
  by_cases h0 : s = []
  · subst h0
    have hz : (([] : Tx).length : Int) = 0 := rfl
    go_enter Try.func12, Try.ntmps12
    go_wp2
    go_ret
    exact ⟨rfl, Below.refl _ _⟩
  · have hp := List.length_pos_iff.2 h0
    have hz : ((s.length : Int) == 0) = false := by simp; omega
    have HP := Lib.hid (per_fl h0)
    clear h0
    go_enter Try.func12, Try.ntmps12
    have hlt : s.length < s.length + 1 := by omega
    have hlt2 : (s.length : Int) < (s.length : Int) + 1 := by omega
    have hfl := per_fl (s := s) (fun e => by rw [e] at hp; simp at hp)
    have hw : wrap64 ((s.length : Int) - (fl s : Int)) = (per s : Int) := by rw [IntWalk.wrap64_in _ (by omega)]; omega
    have HW := Lib.hid hw
    clear hfl hw
    go_wp2_with (go_at_call 20; refine HL.out.mono ?_; rintro e w1 ⟨g, rfl, hr, hb⟩; have hcell := cells_of_row hr s.length (Nat.le_refl _) (Nat.le_refl _); rw [List.take_length] at hcell; have HB := Lib.hid hb; clear hr hb)
    refine bodyPost_ret (v := .int .i64 (wrap64 ((s.length : Int) - (fl s : Int)))) (by simp [results, Try.results12, go_sem]) rfl ⟨ret_int ?_, HB.out⟩
    exact HW.out
theorem chain_step (s : Tx) (n : Nat) (hn : n ≤ s.length) : borders (s.take n) = if fl (s.take n) = 0 then [] else fl (s.take n) :: borders (s.take (fl (s.take n))) := by
  rw [borders_chain (s.take n)]
  by_cases e : fl (s.take n) = 0
  · rw [if_pos e, if_pos e]
  · rw [if_neg e, if_neg e, List.take_take]
    congr 3
    have := (fl_bord e).2.1
    rw [List.length_take] at this
    omega
/-- Numbers that are handed out, with room for them. -/
def GivesIc (w : World) (l : List Int) (e : Ending) (w' : World) : Prop := ∃ a cap, e = .returned (.slice a l.length cap) ∧ Lnk.Is w' w'.heap.size a l ∧ (a = none → cap = 0) ∧ l.length ≤ cap ∧ Below w.heap.size w w'
theorem own_ic {w : World} {base n : Nat} {v : Value} {l : List Int} (h : w.ownsRow base 3 1 v n (Lnk.ivals l)) : ∃ a cap, v = .slice a l.length cap ∧ Lnk.Is w w.heap.size a l ∧ (a = none → cap = 0) ∧ l.length ≤ cap := by
  have hn : l.length = n := by have := h.1; simpa [Lnk.ivals] using this
  obtain ⟨a, cap, e, hi, hz⟩ := Lnk.own_is h
  refine ⟨a, cap, e, hi, hz, ?_⟩
  rcases h.2 with ⟨e2, h0⟩ | ⟨g, cap2, cur, e2, hg, hh, hnc, _, hs, ht⟩
  · omega
  · rw [e] at e2
    injection e2 with e3 e4 e5
    omega
set_option maxHeartbeats 1000000 in
theorem borders_ic (w : World) (s : Tx) (a : Option Addr) (cap : Nat) (ha : Bs w w.heap.size a s) (hl : s.length ≤ 1000000) :
    Calls Try.prog 15 #[.slice a s.length cap] w (GivesIc w (ints (borders s))) := by
  have HL := Lib.hid (longest_any w s a cap ha hl)
  clear ha
  have hlt : s.length < s.length + 1 := by omega
  have hlt2 : (s.length : Int) < (s.length : Int) + 1 := by omega
  go_enter Try.func15, Try.ntmps15
  go_wp2_with (go_at_call 20; refine HL.out.mono ?_; rintro e w1 ⟨g, rfl, hr, hb⟩; have hcell := cells_of_row hr s.length (Nat.le_refl _) (Nat.le_refl _); rw [List.take_length] at hcell; have HB := Lib.hid hb; have HR := Lib.hid hr; clear hr hb)
  clear hcell
  have hsz1 := HB.out.size
  go_loopw [3, 5] (fun v i wr => ∃ (n : Nat) (es : List Nat), n ≤ s.length ∧ es.length + n ≤ s.length ∧ i = .int .i64 (n : Int) ∧ es ++ (if n = 0 then [] else n :: borders (s.take n)) = borders s ∧ wr.ownsRow w1.heap.size 3 1 v es.length (Lnk.ivals (ints es)) ∧ Below w1.heap.size w1 wr) (fun _ i _ => (intOf i).toNat)
  case atStart =>
    have hle : fl s ≤ s.length := by
      rcases Nat.eq_zero_or_pos (fl s) with h | h
      · omega
      · exact Nat.le_of_lt (fl_bord (by omega)).2.1
    exact ⟨fl s, [], hle, by simpa using hle, rfl, (borders_chain s).symm, World.ownsRow_nil _ _ _ _, Below.refl _ _⟩
  case round =>
    obtain ⟨n, es, hn, hel, rfl, he, hown, hbel⟩ := hrel
    have HO := Lib.hid hown
    have HB2 := Lib.hid hbel
    have hsz2 := hbel.size
    clear hown hbel
    by_cases h0 : n = 0
    · rw [if_pos h0, List.append_nil] at he
      have hkl : ¬ (0 : Int) < (n : Int) := by omega
      have HE := Lib.hid he
      clear he h0
      go_wp2
      go_ret
      rw [← HE.out]
      have hown := HO.out
      rw [← ints_length es] at hown
      obtain ⟨a2, cap2, e, hi, hnil, hcap⟩ := own_ic hown
      exact ⟨a2, cap2, by rw [← e]; rfl, hi, hnil, hcap, HB.out.trans (HB2.out.mono hsz1)⟩
    · rw [if_neg h0, chain_step s n hn] at he
      have hkl : (0 : Int) < (n : Int) := by omega
      have hflt : fl (s.take n) < n := by
        have := fl_lt (s := s.take n) (fun e => by have := congrArg List.length e; rw [List.length_take, List.length_nil] at this; omega)
        rw [List.length_take] at this; omega
      have HE : Hid ((es ++ [n]) ++ (if fl (s.take n) = 0 then [] else fl (s.take n) :: borders (s.take (fl (s.take n)))) = borders s) := Lib.hid (by rw [← he]; simp)
      have HF := Lib.hid hflt
      have hn2 : n < s.length + 1 := by omega
      have hn3 : (n : Int) < (s.length : Int) + 1 := by omega
      clear he hflt h0
      go_wp2_with (at_builtin; refine Lnk.app_is rfl _ _ rfl w1.heap.size _ _ (ints es) (n : Int) rfl (HO.out.alloc _) ⟨wr.heap.size, 0, none⟩ rfl (Lnk.cell_new_at _ _ rfl) (by omega) (by simp; omega) ?_; intro v3 w3 hown3 hg3; have HO3 := Lib.hid hown3; have HB3 := Lib.hid ((HB2.out.alloc hsz2 _).grown hg3 (by simp; omega) (fun q hq => own_ge HO.out hq)); clear hown3 hg3; have hcell := cells_of_row ((HB3.out.block g (txt_lt HR.out)).trans HR.out) n hn hn)
      exact ⟨⟨fl (s.take n), es ++ [n], by have := HF.out; omega, by have := HF.out; simp; omega, rfl, HE.out, by rw [List.length_append, ints_append]; exact HO3.out, HB3.out⟩, by have := HF.out; simp [intOf]; omega⟩
theorem borders_any (w : World) (s : Tx) (a : Option Addr) (cap : Nat) (ha : Bs w w.heap.size a s) (hl : s.length ≤ 1000000) :
    Calls Try.prog 15 #[.slice a s.length cap] w (Lnk.GivesInts w (ints (borders s))) :=
  (borders_ic w s a cap ha hl).mono fun _ _ ⟨a2, c2, e, hi, hn, _, hb⟩ => ⟨a2, c2, e, hi, hn, hb⟩
end Go.Proofs.Ytpknaobmchmpdaa.Suf
