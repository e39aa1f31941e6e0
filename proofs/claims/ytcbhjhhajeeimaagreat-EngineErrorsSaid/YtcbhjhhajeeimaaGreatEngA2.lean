/- The engine: what scans, New, Find. -/
import Derived.Test.YtcbhjhhajeeimaaGreatEngA1
namespace Go.Proofs.YtcbhjhhajeeimaaGreat.Eng
open Go.Proofs.YtcbhjhhajeeimaaGreat.Tri Go.Proofs.YtcbhjhhajeeimaaGreat.Lnk Go.Proofs.YtcbhjhhajeeimaaGreat.Prs Go.Proofs.YtcbhjhhajeeimaaGreat.Spa Go.Proofs.YtcbhjhhajeeimaaGreat.Reg Go.RowKit Go.Maps
set_option maxRecDepth 100000
set_option linter.unusedVariables false

theorem tot_pats (l : List Tx) : tot (Pat.pats l) ≤ tot l := by
  suffices ∀ n, n ≤ l.length → tot (Pat.pats (l.take n)) ≤ tot (l.take n) by
    have := this l.length (Nat.le_refl _)
    rwa [List.take_length] at this
  intro n
  induction n with
  | zero => intro _; simp [Pat.pats]
  | succ n ih =>
    intro h
    have h1 := ih (by omega)
    rw [Pat.pats_take l n (by omega), tot_take l n (by omega)]
    unfold Pat.add
    split
    · omega
    · rw [tot_snoc]; omega
/-- What scans lines, as a value: of a way, of the texts that came. -/
def Sr (w : World) (tag : Int) (L : List Tx) (v : Value) : Prop :=
  (L = [] ∧ tag ≠ 2 ∧ v = .iface 78 (.agg #[])) ∨
  (L ≠ [] ∧ tag = 0 ∧ ∃ t, v = .iface 79 (.pointer (some ⟨t, 0, none⟩)) ∧ Au w t (paths L) L) ∨
  (L ≠ [] ∧ tag = 1 ∧ ∃ s t, v = .iface 81 (.pointer (some ⟨t, 0, none⟩)) ∧ Dfa.Dt w s t L) ∨
  (tag = 2 ∧ ∃ s t b, v = .iface 90 (.agg #[.iface 84 (.pointer (some ⟨t, 0, none⟩))]) ∧ L = [b] ∧ b ≠ [] ∧ b.length ≤ 1000 ∧ Two.Tw w s t b) ∨
  (L ≠ [] ∧ tag = 3 ∧ ∃ p, v = .iface 90 (.agg #[.iface 91 (.pointer p)]) ∧ Wal.Cw w p L)
theorem Sr.keep {w w' : World} {tag : Int} {L : List Tx} {v : Value} (h : Sr w tag L v) (hb : Below w.heap.size w w') : Sr w' tag L v := by
  rcases h with h | ⟨h1, h2, t, h3, h4⟩ | ⟨h1, h2, s, t, h3, h4⟩ | ⟨h1, s, t, b, h2, h3, h4, h5, h6⟩ | ⟨h1, h2, p, h3, h4⟩
  · exact .inl h
  · exact .inr (.inl ⟨h1, h2, t, h3, h4.keep hb⟩)
  · exact .inr (.inr (.inl ⟨h1, h2, s, t, h3, h4.keep hb⟩))
  · exact .inr (.inr (.inr (.inl ⟨h1, s, t, b, h2, h3, h4, h5, h6.keep hb⟩)))
  · exact .inr (.inr (.inr (.inr ⟨h1, h2, p, h3, h4.keep hb⟩)))
/-- An engine of a way, of the texts that came. -/
def En (w : World) (p : Option Addr) (tag : Int) (l : List Tx) : Prop := ∃ g v, p = some ⟨g, 0, none⟩ ∧ Blk3 w g 68 (.int .i64 tag) v (.bool (decide (([] : Tx) ∈ l))) ∧ Sr w tag (Pat.pats l) v
theorem En.keep {w w' : World} {p : Option Addr} {tag : Int} {l : List Tx} (h : En w p tag l) (hb : Below w.heap.size w w') : En w' p tag l := by
  obtain ⟨g, v, e, h1, h2⟩ := h
  exact ⟨g, v, e, h1.keep hb h1.lt, h2.keep hb⟩
theorem En.some {w : World} {p : Option Addr} {tag : Int} {l : List Tx} (h : En w p tag l) : ∃ g, p = .some g := by
  obtain ⟨g, _, e, _⟩ := h
  exact ⟨_, e⟩
def GivesEn (w : World) (tag : Int) (l : List Tx) (e : Ending) (w' : World) : Prop := ∃ p, e = .returned (.tuple #[.pointer p, .int .i64 (wrongI tag l)]) ∧ (wrongI tag l ≠ 0 → p = none) ∧ (wrongI tag l = 0 → En w' p tag l) ∧ Below w.heap.size w w'
theorem etag_any (w : World) (p : Option Addr) (tag : Int) (l : List Tx) (h : En w p tag l) : Calls Tryz.prog 19 #[.pointer p] w fun e w' => e = .returned (.int .i64 tag) ∧ Below w.heap.size w w' := by
  obtain ⟨g, v, rfl, hB, _⟩ := h
  exact etag_at w g tag v _ hB
theorem efind_none (w : World) (mp : Option Addr) (line : Tx) (al : Option Addr) (cl : Nat) (a b e d : Int) (hM : Met.Mt w mp a b e d) :
    Calls Tryz.prog 17 #[.pointer none, .pointer mp, .slice al line.length cl] w (Scans w mp [] a b e d) := by
  refine (efind_none' w mp _).mono ?_
  rintro x w' ⟨rfl, rfl⟩
  exact ⟨none, 0, rfl, ps_nil _ _ _, fun _ => rfl, hM, World.grownBy.refl _ _⟩
/-- What a scanner finds. -/
def Finds (w : World) (v : Value) (mp : Option Addr) (line : Tx) (al : Option Addr) (cl : Nat) (out : List Pr) (a b e d : Int) : Prop :=
  ∃ T x K rv, v = .iface T x ∧ (∀ w : World, (method 333 T x "Scan").run Tryz.prog w = .ok (K, rv) w) ∧ (∀ (args : Array Value) (w : World), (callFunc K args).run Tryz.prog w = .ok (.enter K args) w) ∧ Calls Tryz.prog K #[rv, .pointer mp, .slice al line.length cl] w (ScansC w mp out a b e d)
theorem sr_finds (w : World) (tag : Int) (l : List Tx) (v : Value) (hS : Sr w tag (Pat.pats l) v) (mp : Option Addr) (line : Tx) (al : Option Addr) (cl : Nat) (hb : Bs w w.heap.size al line) (hcl : line.length ≤ cl) (hn : al = none → cl = 0) (hl : line.length ≤ 1000) (a b e d : Int) (hM : Met.Mt w mp a b e d)
    (ha : 0 ≤ a ∧ a ≤ 1000000000) (hb' : 0 ≤ b ∧ b ≤ 1000000000) (hc : 0 ≤ e ∧ e ≤ 1000000000000) (hd : 0 ≤ d ∧ d ≤ 1000000000000) :
    Finds w v mp line al cl (scanOf l line) (a + (scanN tag l line : Int)) (b + (lookN tag l line : Int)) e d := by
  rcases hS with ⟨h1, h2, rfl⟩ | ⟨h1, rfl, t, rfl, hA⟩ | ⟨h1, rfl, s, t, rfl, hD⟩ | ⟨rfl, s, t, x, rfl, h1, h2, h3, hT⟩ | ⟨h1, rfl, p, rfl, hC⟩
  · have e1 : scanN tag l line = 0 := by unfold scanN; rw [if_pos (.inl h1)]
    have e2 : lookN tag l line = 0 := by unfold lookN; rw [if_pos (.inl h1)]
    have e3 : scanOf l line = [] := by rw [← scan_pats, h1]; exact Wal.scanOf_nil line
    rw [e1, e2, e3]
    refine ⟨78, .agg #[], 124, .agg #[], rfl, fun _ => by kernel_rfl, fun _ _ => rfl, (idle_any w mp _).mono ?_⟩
    rintro x w' ⟨rfl, hbw⟩
    exact ⟨none, 0, rfl, ps_nil _ _ _, fun _ => rfl, by simpa using hM.keep hbw, (grown_of_below hbw).but _, Nat.le_refl _⟩
  · have e1 : scanN 0 l line = line.length := by unfold scanN; rw [if_neg (by simp [h1])]
    have e2 : lookN 0 l line = looksTo (paths (Pat.pats l)) line line.length := by unfold lookN; rw [if_neg (by simp [h1]), if_neg (by omega)]
    rw [e1, e2, ← scan_pats]
    exact ⟨79, _, 125, _, rfl, fun _ => by kernel_rfl, fun _ _ => rfl, scan_full w t _ _ hA mp line al cl hb hl a b e d hM ha hb' hc hd⟩
  · have e1 : scanN 1 l line = line.length := by unfold scanN; rw [if_neg (by simp [h1])]
    have e2 : lookN 1 l line = line.length := by unfold lookN; rw [if_neg (by simp [h1]), if_pos rfl]
    rw [e1, e2, ← scan_pats]
    exact ⟨81, _, 137, _, rfl, fun _ => by kernel_rfl, fun _ _ => rfl, Dfa.dscan_full w s t _ hD mp line al cl hb hl a b e d hM ha hb' hc hd⟩
  · have e1 : scanN 2 l line = 0 := by unfold scanN; rw [if_pos (.inr (by omega))]
    have e2 : lookN 2 l line = 0 := by unfold lookN; rw [if_pos (.inr (by omega))]
    have e3 : scanOf l line = Two.pcs x line := by rw [← scan_pats, h1, Two.pcs_scan h2]
    rw [e1, e2, e3]
    refine ⟨90, _, 143, .agg #[.iface 84 (.pointer (some ⟨t, 0, none⟩))], rfl, fun _ => by kernel_rfl, fun _ _ => rfl, ?_⟩
    have := uncounted_any w 84 (.pointer (some ⟨t, 0, none⟩)) 141 (.pointer (some ⟨t, 0, none⟩)) (fun _ => by kernel_rfl) (fun _ _ => rfl) mp line al cl (Two.pcs x line) a b e d hM (fun X hX => Two.tscan_full X t x (hT.keep hX) h2 h3 line al cl ⟨(hb.keep hX).more hX.size, hcl, hn⟩ hl)
    simpa using this
  · have e1 : scanN 3 l line = 0 := by unfold scanN; rw [if_pos (.inr (by omega))]
    have e2 : lookN 3 l line = 0 := by unfold lookN; rw [if_pos (.inr (by omega))]
    rw [e1, e2, ← scan_pats]
    refine ⟨90, _, 143, .agg #[.iface 91 (.pointer p)], rfl, fun _ => by kernel_rfl, fun _ _ => rfl, ?_⟩
    have := uncounted_any w 91 (.pointer p) 145 (.pointer p) (fun _ => by kernel_rfl) (fun _ _ => rfl) mp line al cl (scanOf (Pat.pats l) line) a b e d hM (fun X hX => Wal.wscan_full X p _ (hC.keep hX) line al cl ⟨(hb.keep hX).more hX.size, hcl, hn⟩ hl)
    simpa using this
theorem scan_half (l : List Tx) (line : Tx) (hl : line.length ≤ 1000) : (scanOf l line).length ≤ 1000000 - 1001 := by
  have h1 := norm_length (hitsTo l line line.length)
  have h2 : ∀ k, k ≤ line.length → (hitsTo l line k).length * 2 ≤ k * (k + 1) := fun k => by
    induction k with
    | zero => intro _; simp [hitsTo]
    | succ k ih =>
      intro hk
      have h3 := ih (by omega)
      have h4 := ends_len l (line.take (k + 1))
      rw [hitsTo, List.length_append, rowOf, List.length_map]
      have h5 : (k + 1) * (k + 1 + 1) = k * (k + 1) + (k + 1) * 2 := by rw [Nat.mul_comm k (k + 1)]; exact Nat.mul_add (k + 1) k 2
      rw [List.length_take] at h4
      omega
  have h3 := h2 line.length (Nat.le_refl _)
  have h4 : line.length * (line.length + 1) ≤ 1000 * 1001 := Nat.mul_le_mul hl (by omega)
  unfold scanOf; omega
theorem efind_any (w : World) (p : Option Addr) (tag : Int) (l : List Tx) (h : En w p tag l) (mp : Option Addr) (line : Tx) (al : Option Addr) (cl : Nat) (hb : Bs w w.heap.size al line) (hcl : line.length ≤ cl) (hn : al = none → cl = 0) (hl : line.length ≤ 1000) (a b e d : Int) (hM : Met.Mt w mp a b e d)
    (ha : 0 ≤ a ∧ a ≤ 1000000000) (hb' : 0 ≤ b ∧ b ≤ 1000000000) (hc : 0 ≤ e ∧ e ≤ 1000000000000) (hd : 0 ≤ d ∧ d ≤ 1000000000000) :
    Calls Tryz.prog 17 #[.pointer p, .pointer mp, .slice al line.length cl] w (Scans w mp (findOf l line) (a + (scanN tag l line : Int)) (b + (lookN tag l line : Int)) e d) := by
  obtain ⟨g, v, rfl, hB, hS⟩ := h
  obtain ⟨T, x, K, rv, rfl, hm, hcf, HC⟩ := sr_finds w tag l v hS mp line al cl hb hcl hn hl a b e d hM ha hb' hc hd
  by_cases h0 : ([] : Tx) ∈ l
  · rw [decide_eq_true h0] at hB
    have e1 : findOf l line = norm (scanOf l line ++ empties (line.length + 1)) := by unfold findOf emp; rw [if_pos h0]
    have h1 := scan_length l line hl
    rw [e1]
    exact efind_both w g tag T x K rv hB hm hcf mp line al cl _ a b e d hM hl (scan_half l line hl) _ _ HC
  · rw [decide_eq_false h0] at hB
    rw [find_plain h0]
    exact efind_scan w g tag T x K rv hB hm hcf mp line al cl _ a b e d hM _ _ HC
end Go.Proofs.YtcbhjhhajeeimaaGreat.Eng
