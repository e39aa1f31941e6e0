/- Package by package: IMath Ia Ib Ic Id Ie If Ig. -/
import Derived.Test.YtcbhjhhajeeimaaGreatGE
import Derived.Test.YtcbhjhhajeeimaaGreatGK
/- Mathematics of stage 12's code: how far two places of a text agree, and a table of that; the least period at a place. -/
namespace Go.Proofs.YtcbhjhhajeeimaaGreat.Crt
set_option maxRecDepth 100000

/-- How many bytes from two places on are the same, at most some. -/
def agr (s : Tx) (i j : Nat) : Nat → Nat
  | 0 => 0
  | m + 1 => if at' s i = at' s j then agr s (i + 1) (j + 1) m + 1 else 0
def Agr (s : Tx) (i j m n : Nat) : Prop := n ≤ m ∧ (∀ k, k < n → at' s (i + k) = at' s (j + k)) ∧ (n < m → at' s (i + n) ≠ at' s (j + n))
theorem agr_agr (s : Tx) : ∀ m i j, Agr s i j m (agr s i j m)
  | 0, i, j => ⟨Nat.le_refl _, fun k hk => by simp [agr] at hk, fun h => by simp [agr] at h⟩
  | m + 1, i, j => by
    rw [agr]
    split
    · rename_i h
      obtain ⟨h1, h2, h3⟩ := agr_agr s m (i + 1) (j + 1)
      refine ⟨by omega, fun k hk => ?_, fun hk => ?_⟩
      · cases k with
        | zero => exact h
        | succ k => have := h2 k (by omega); rwa [show i + 1 + k = i + (k + 1) by omega, show j + 1 + k = j + (k + 1) by omega] at this
      · have := h3 (by omega)
        rwa [show i + 1 + agr s (i + 1) (j + 1) m = i + (agr s (i + 1) (j + 1) m + 1) by omega, show j + 1 + agr s (i + 1) (j + 1) m = j + (agr s (i + 1) (j + 1) m + 1) by omega] at this
    · rename_i h
      exact ⟨Nat.zero_le _, fun k hk => by omega, fun _ => h⟩
theorem Agr.uniq {s : Tx} {i j m n n' : Nat} (h : Agr s i j m n) (h' : Agr s i j m n') : n = n' := by
  obtain ⟨a1, a2, a3⟩ := h
  obtain ⟨b1, b2, b3⟩ := h'
  rcases Nat.lt_trichotomy n n' with h | h | h
  · exact absurd (b2 n h) (a3 (by omega))
  · exact h
  · exact absurd (a2 n' h) (b3 (by omega))
theorem Agr.is {s : Tx} {i j m n : Nat} (h : Agr s i j m n) : agr s i j m = n := (agr_agr s m i j).uniq h
theorem agr_ge {s : Tx} {i j m k : Nat} (hk : k ≤ m) : k ≤ agr s i j m ↔ ∀ x, x < k → at' s (i + x) = at' s (j + x) := by
  obtain ⟨h1, h2, h3⟩ := agr_agr s m i j
  constructor
  · intro h x hx
    exact h2 x (by omega)
  · intro h
    rcases Nat.lt_or_ge (agr s i j m) k with hlt | hge
    · exact absurd (h _ hlt) (h3 (by omega))
    · exact hge
theorem agr_le (s : Tx) (i j m : Nat) : agr s i j m ≤ m := (agr_agr s m i j).1
/-- How many bytes from a place on are those at the front. -/
def zf (s : Tx) (k : Nat) : Nat := agr s 0 k (s.length - k)
theorem zf_le (s : Tx) (k : Nat) : zf s k ≤ s.length - k := agr_le _ _ _ _
theorem zf_ge {s : Tx} {k n : Nat} (hn : n ≤ s.length - k) : n ≤ zf s k ↔ ∀ x, x < n → at' s x = at' s (k + x) := by
  unfold zf
  rw [agr_ge hn]
  simp
/-- The table of them, up to a place; none of the place 0. -/
def zt (s : Tx) (k : Nat) : List Nat := (List.range s.length).map fun i => if 1 ≤ i ∧ i < k then zf s i else 0
theorem zt_length (s : Tx) (k : Nat) : (zt s k).length = s.length := by simp [zt]
theorem zt_at (s : Tx) (k i : Nat) (h : i < (zt s k).length) (h1 : 1 ≤ i) (hk : i < k) : (zt s k)[i] = zf s i := by simp [zt, h1, hk]
theorem zt_zero (s : Tx) (k : Nat) (h : 0 < (zt s k).length) : (zt s k)[0] = 0 := by simp [zt]
theorem zt_start (s : Tx) : zt s 1 = List.replicate s.length 0 := by
  apply List.ext_getElem
  · simp [zt]
  · intro i h1 h2
    simp only [zt, List.getElem_map, List.getElem_range, List.getElem_replicate]
    split <;> omega
theorem zt_next (s : Tx) (k : Nat) (hk : 1 ≤ k) : zt s (k + 1) = (zt s k).set k (zf s k) := by
  apply List.ext_getElem
  · simp [zt]
  · intro i h1 h2
    rw [List.getElem_set]
    simp only [zt, List.getElem_map, List.getElem_range]
    by_cases e : k = i
    · subst e; simp [hk]
    · rw [if_neg e]
      by_cases h : 1 ≤ i ∧ i < k
      · rw [if_pos h, if_pos (by omega)]
      · rw [if_neg h, if_neg (by omega)]
theorem zt_full (s : Tx) (k : Nat) (h : s.length ≤ k) : zt s k = zt s s.length := by
  unfold zt
  apply List.map_congr_left
  intro i hi
  have := List.mem_range.1 hi
  by_cases h1 : 1 ≤ i
  · rw [if_pos ⟨h1, by omega⟩, if_pos ⟨h1, by omega⟩]
  · rw [if_neg (by omega), if_neg (by omega)]
/-- What is known: from 'f' to 't' the text is its front. -/
def Box (s : Tx) (k f t : Nat) : Prop := t ≤ s.length ∧ (t = 0 ∨ (1 ≤ f ∧ f < k)) ∧ ∀ i, f ≤ i → i < t → at' s i = at' s (i - f)
theorem box_start (s : Tx) (k : Nat) : Box s k 0 0 := ⟨Nat.zero_le _, .inl rfl, fun i _ h => by omega⟩
theorem Box.later {s : Tx} {k f t : Nat} (h : Box s k f t) : Box s (k + 1) f t := ⟨h.1, h.2.1.imp_right fun h => ⟨h.1, by omega⟩, h.2.2⟩
theorem Box.new {s : Tx} {k n : Nat} (hk : 1 ≤ k) (hn : k + n ≤ s.length) (h : n = zf s k) : Box s (k + 1) k (k + n) :=
  ⟨hn, .inr ⟨hk, by omega⟩, fun i h1 h2 => by
    have := (zf_ge (s := s) (k := k) (n := n) (by omega)).1 (by omega) (i - k) (by omega)
    rw [this]
    congr 1
    omega⟩
theorem Box.known {s : Tx} {k f t : Nat} (h : Box s k f t) (ht : k < t) : min (zf s (k - f)) (t - k) ≤ zf s k := by
  obtain ⟨h1, h2, h3⟩ := h
  rw [zf_ge (by omega)]
  intro x hx
  have e1 := (zf_ge (s := s) (k := k - f) (n := zf s (k - f)) (zf_le _ _)).1 (Nat.le_refl _) x (by omega)
  have e2 := h3 (k + x) (by omega) (by omega)
  rw [e2, e1]
  congr 1
  omega
theorem zf_more {s : Tx} {k n r : Nat} (hn : n ≤ zf s k) (hr : Agr s n (k + n) (s.length - k - n) r) : zf s k = n + r := by
  have hle := zf_le s k
  refine Agr.is (s := s) ⟨by have := hr.1; omega, fun x hx => ?_, fun hx => ?_⟩
  · rcases Nat.lt_or_ge x n with h | h
    · have := (zf_ge (s := s) (k := k) (by omega)).1 hn x h
      rw [← this]
      congr 1
      omega
    · have := hr.2.1 (x - n) (by omega)
      rw [show n + (x - n) = 0 + x by omega, show k + n + (x - n) = k + x by omega] at this
      exact this
  · have := hr.2.2 (by omega)
    rw [show k + n + r = k + (n + r) by omega] at this
    rwa [Nat.zero_add]
/-- A text's back with its front behind it. -/
def turnAt (s : Tx) (k : Nat) : Tx := s.drop k ++ s.take k
theorem turnAt_length {s : Tx} {k : Nat} (h : k ≤ s.length) : (turnAt s k).length = s.length := by
  simp [turnAt]; omega
theorem turnAt_low {s : Tx} {k i : Nat} (h : k + i < s.length) : at' (turnAt s k) i = at' s (k + i) := by
  unfold at' turnAt
  rw [List.getD_eq_getElem?_getD, List.getD_eq_getElem?_getD, List.getElem?_append_left (by simp; omega), List.getElem?_drop]
theorem turnAt_high {s : Tx} {k i : Nat} (hk : k ≤ s.length) (h : s.length ≤ k + i) (h2 : i < s.length) : at' (turnAt s k) i = at' s (k + i - s.length) := by
  unfold at' turnAt
  rw [List.getD_eq_getElem?_getD, List.getD_eq_getElem?_getD, List.getElem?_append_right (by simp; omega), List.length_drop, List.getElem?_take, if_pos (by omega)]
  congr 2
  omega
/-- A period at a place that is no more than what is ahead of it. -/
theorem loc_near {s : Tx} {k p : Nat} (hk : k ≤ s.length) (hp : 1 ≤ p) (hpk : p ≤ k) : min p (s.length - k) ≤ zf (turnAt s k) (s.length - p) ↔ Loc s k p := by
  rw [zf_ge (by rw [turnAt_length hk]; omega)]
  constructor
  · intro h
    refine ⟨hp, fun i hi h1 h2 => ?_⟩
    have e := h (i + p - k) (by omega)
    rw [turnAt_low (by omega), turnAt_high hk (by omega) (by omega)] at e
    rw [← at_eq (by omega), ← at_eq hi, show i + p = k + (i + p - k) by omega, e]
    congr 1
    omega
  · rintro ⟨_, h⟩ x hx
    rw [turnAt_low (by omega), turnAt_high hk (by omega) (by omega)]
    have := h (k + x - p) (by omega) (by omega) (by omega)
    rw [← at_eq (by omega), ← at_eq (by omega)] at this
    rw [show k + (s.length - p + x) - s.length = k + x - p by omega, this]
    congr 1
    omega
/-- One that is the whole text's length, at its end. -/
theorem loc_end {s : Tx} {k p : Nat} (hp : 1 ≤ p) (h : s.length ≤ p) : Loc s k p := ⟨hp, fun i hi => by omega⟩
/-- A greater one. -/
theorem loc_far {s : Tx} {k p : Nat} (hp : 1 ≤ p) (hpk : k < p) (hpn : p < s.length) : min k (s.length - p) ≤ zf s p ↔ Loc s k p := by
  rw [zf_ge (by omega)]
  constructor
  · intro h
    refine ⟨hp, fun i hi h1 h2 => ?_⟩
    have e := h i (by omega)
    rw [← at_eq (by omega), ← at_eq hi, e, Nat.add_comm]
  · rintro ⟨_, h⟩ x hx
    have := h x (by omega) (by omega) (by omega)
    rw [← at_eq (by omega), ← at_eq (by omega)] at this
    rw [this, Nat.add_comm]
theorem near_at {s : Tx} {k j : Nat} (hk : k ≤ s.length) (hj : 1 ≤ j) (hjk : j ≤ k) : ∃ V, (zt (turnAt s k) s.length)[s.length - j]? = some V ∧ (min j (s.length - k) ≤ V ↔ Loc s k j) := by
  have hlen := turnAt_length hk
  have hlt : s.length - j < (zt (turnAt s k) s.length).length := by rw [zt_length, hlen]; omega
  refine ⟨_, List.getElem?_eq_getElem hlt, ?_⟩
  by_cases e : s.length - j = 0
  · have : min j (s.length - k) = 0 := by omega
    rw [this]
    exact ⟨fun _ => loc_end hj (by omega), fun _ => Nat.zero_le _⟩
  · rw [zt_at _ _ _ hlt (by omega) (by omega)]
    exact loc_near hk hj hjk
theorem far_at {s : Tx} {k j : Nat} (hjk : k < j) (hjn : j < s.length) : ∃ V, (zt s s.length)[j]? = some V ∧ (min k (s.length - j) ≤ V ↔ Loc s k j) := by
  have hlt : j < (zt s s.length).length := by rw [zt_length]; omega
  refine ⟨_, List.getElem?_eq_getElem hlt, ?_⟩
  rw [zt_at _ _ _ hlt (by omega) (by omega)]
  exact loc_far (by omega) hjk hjn
def locGo (s : Tx) (k : Nat) : Nat → Nat → Nat
  | 0, p => p
  | f + 1, p => if locB s k p p then p else locGo s k f (p + 1)
theorem locGo_is {s : Tx} {k : Nat} : ∀ f p, 1 ≤ p → p + f = s.length → (∀ q, 1 ≤ q → q < p → ¬ Loc s k q) → LeastLoc s k (locGo s k f p)
  | 0, p, hp, hf, hn => by rw [locGo]; exact leastLoc_first (loc_end hp (by omega)) hn
  | f + 1, p, hp, hf, hn => by
    rw [locGo]
    split
    · rename_i h
      exact leastLoc_first ((locB_loc hp).1 h) hn
    · rename_i h
      refine locGo_is f (p + 1) (by omega) (by omega) fun q h1 h2 hq => ?_
      by_cases e : q = p
      · subst e; exact h ((locB_loc hp).2 hq)
      · exact hn q h1 (by omega) hq
/-- The least period at a place; 1 for the empty text. -/
def locN (s : Tx) (k : Nat) : Nat := if s = [] then 1 else locGo s k (s.length - 1) 1
theorem locN_least {s : Tx} (h : s ≠ []) (k : Nat) : LeastLoc s k (locN s k) := by
  have := List.length_pos_iff.2 h
  rw [locN, if_neg h]
  exact locGo_is _ _ (Nat.le_refl _) (by omega) fun q h1 h2 => by omega
theorem locN_is {s : Tx} {k p : Nat} (h : s ≠ []) (hp : LeastLoc s k p) : locN s k = p := leastLoc_uniq (locN_least h k) hp
theorem locN_last {s : Tx} {k j : Nat} (hj : s.length ≤ j) (hn : ∀ r, 1 ≤ r → r < j → ¬ Loc s k r) : max (s.length : Int) 1 = (locN s k : Int) := by
  by_cases h : s = []
  · rw [locN, if_pos h, h]; rfl
  · have := List.length_pos_iff.2 h
    rw [locN_is h (leastLoc_first (loc_end (k := k) this (Nat.le_refl _)) fun q h1 h2 => hn q h1 (by omega))]
    omega
/-- The same for any number: 0 for what is no place. -/
def locI (s : Tx) (k : Int) : Nat := if k < 0 ∨ (s.length : Int) < k then 0 else locN s k.toNat
theorem locI_out {s : Tx} {k : Int} (h : k < 0 ∨ (s.length : Int) < k) : locI s k = 0 := by rw [locI, if_pos h]
theorem locI_in (s : Tx) (k : Nat) (h : k ≤ s.length) : locI s (k : Int) = locN s k := by
  rw [locI, if_neg (by omega)]; rfl
/-- Is it small? -/
def smallB (s : Tx) : Bool := decide (s.take (cutAt s) = (s.drop (cutPer s)).take (cutAt s))
theorem smallB_iff {s : Tx} (h : s ≠ []) : smallB s = true ↔ Small s := by rw [smallB, decide_eq_true_iff, small_iff h]
theorem smallB_agr {s : Tx} (h : s ≠ []) : smallB s = decide (agr s 0 (cutPer s) (cutAt s) = cutAt s) := by
  obtain ⟨h1, h2⟩ := cutPer_le h
  rw [Bool.eq_iff_iff, smallB_iff h, decide_eq_true_iff]
  have hge := agr_ge (s := s) (i := 0) (j := cutPer s) (Nat.le_refl (cutAt s))
  have hle := agr_le s 0 (cutPer s) (cutAt s)
  constructor
  · intro hs
    have := hge.2 fun x hx => by
      have := hs x hx (by omega)
      rw [← at_eq (by omega), ← at_eq (by omega)] at this
      rw [Nat.zero_add, this, Nat.add_comm]
    omega
  · intro e i hi hl
    have := hge.1 (by omega) i hi
    rw [Nat.zero_add, at_eq (by omega), at_eq (by omega)] at this
    rw [this]
    congr 1
    omega
/-- How far it may be moved. -/
def movePer (s : Tx) : Nat := if smallB s then cutPer s else max (cutAt s) (s.length - cutAt s) + 1
end Go.Proofs.YtcbhjhhajeeimaaGreat.Crt
/- same; run. -/
namespace Go.Proofs.YtcbhjhhajeeimaaGreat.Cut
open Go.RowKit Go.Maps Go.Proofs.YtcbhjhhajeeimaaGreat.Crt Go.Proofs.YtcbhjhhajeeimaaGreat.Suf
set_option maxRecDepth 100000
set_option linter.unusedVariables false

theorem same_any (w : World) (s : Tx) (a : Option Addr) (cap : Nat) (ha : Bs w w.heap.size a s) (hl : s.length ≤ 1000000) (i j : Nat) (hi : i < s.length) (hj : j < s.length) :
    Calls Tryz.prog 75 #[.slice a s.length cap, .int .i64 (i : Int), .int .i64 (j : Int)] w fun e w' => e = .returned (.bool (decide (at' s i = at' s j))) ∧ Drew w w' := by
  obtain ⟨b1, o1, rfl, _, hc1⟩ := bs_at ha i hi
  obtain ⟨b2, o2, e2, _, hc2⟩ := bs_at ha j hj
  have e2' : b1 = b2 ∧ o1 = o2 := by injection e2 with e2; injection e2 with e3 e4; exact ⟨e3, e4⟩
  obtain ⟨rfl, rfl⟩ := e2'
  rw [← at_eq hi] at hc1
  rw [← at_eq hj] at hc2
  have hb := u8_beq (at' s i) (at' s j)
  have hil : (i : Int) < (s.length : Int) := by omega
  have hjl : (j : Int) < (s.length : Int) := by omega
  clear ha e2
  go_enter Tryz.func75, Tryz.ntmps75
  go_wp2
  go_quiet (fail)
  go_wp2
  go_ret
  exact ⟨ret_bool rfl, _, rfl⟩
theorem call17 (args : Array Value) (w : World) : (callFunc 75 args).run Tryz.prog w = .ok (.enter 75 args) w := by simp [go_sem]
theorem Bs.drew {w x : World} {a : Option Addr} {s : Tx} (h : Bs w w.heap.size a s) (hd : Drew w x) : Bs x x.heap.size a s := by
  obtain ⟨q, rfl⟩ := hd
  have hb := below_drews (Below.refl w.heap.size w) q
  exact (h.keep hb).more hb.size
set_option maxHeartbeats 1000000 in
theorem run_any (w : World) (s : Tx) (a : Option Addr) (cap : Nat) (ha : Bs w w.heap.size a s) (hl : s.length ≤ 1000000) (i j m : Nat) (hi : i + m ≤ s.length) (hj : j + m ≤ s.length) :
    Calls Tryz.prog 74 #[.func (.func 75) #[.slice a s.length cap] #[], .int .i64 (i : Int), .int .i64 (j : Int), .int .i64 (m : Int)] w fun e w' => e = .returned (.int .i64 (agr s i j m : Int)) ∧ Drew w w' := by
  have HA := Lib.hid ha
  have hcf := call17
  clear ha
  go_enter Tryz.func74, Tryz.ntmps74
  go_wp2
  go_loopw [9] (fun v wr => ∃ n : Nat, n ≤ m ∧ v = .int .i64 (n : Int) ∧ (∀ x, x < n → at' s (i + x) = at' s (j + x)) ∧ Drew w wr) (fun v _ => m - (intOf v).toNat)
  case atStart => exact ⟨0, Nat.zero_le _, rfl, fun x hx => by omega, Drew.refl _⟩
  case round =>
    obtain ⟨n, hn, rfl, hag, hdr⟩ := hrel
    have HD := Lib.hid hdr
    have HG := Lib.hid hag
    clear hdr hag
    by_cases hlt : n < m
    · have hnm : (n : Int) < (m : Int) := by omega
      obtain ⟨A, hA⟩ : ∃ A, A = i + n := ⟨_, rfl⟩
      obtain ⟨B, hB⟩ : ∃ B, B = j + n := ⟨_, rfl⟩
      have hw1 : IntKind.i64.wrap ((i : Int) + (n : Int)) = (A : Int) := by rw [IntWalk.i64_in _ (by omega)]; omega
      have hw2 : IntKind.i64.wrap ((j : Int) + (n : Int)) = (B : Int) := by rw [IntWalk.i64_in _ (by omega)]; omega
      have HS := Lib.hid (fun X (hX : Drew w X) => same_any X s a cap (Bs.drew HA.out hX) hl A B (by omega) (by omega))
      have HAB := Lib.hid (And.intro hA hB)
      by_cases he : at' s A = at' s B
      · rw [decide_eq_true he] at HS
        have HE := Lib.hid he
        clear he hA hB
        go_wp2_with ((refine (HS.out wr HD.out).mono ?_); rintro e w3 ⟨rfl, hd3⟩; have HD3 := Lib.hid (HD.out.trans hd3); clear hd3)
        exact ⟨⟨n + 1, by omega, by go_num, fun x hx => by
          by_cases e : x = n
          · subst e; rw [← HAB.out.1, ← HAB.out.2]; exact HE.out
          · exact HG.out x (by omega), HD3.out⟩, by simp [intOf]; omega⟩
      · rw [decide_eq_false he] at HS
        have HE : Hid (agr s i j m = n) := Lib.hid (Agr.is ⟨hn, HG.out, fun _ => by rw [← hA, ← hB]; exact he⟩)
        clear he hA hB
        go_wp2_with ((refine (HS.out wr HD.out).mono ?_); rintro e w3 ⟨rfl, hd3⟩; have HD3 := Lib.hid (HD.out.trans hd3); clear hd3)
        go_ret
        exact ⟨ret_int (by rw [HE.out]), HD3.out⟩
    · have hnm : ¬ (n : Int) < (m : Int) := by omega
      have HE : Hid (agr s i j m = n) := Lib.hid (Agr.is ⟨hn, HG.out, fun h => absurd h hlt⟩)
      clear hlt
      go_wp2
      go_ret
      exact ⟨ret_int (by rw [HE.out]), HD.out⟩
end Go.Proofs.YtcbhjhhajeeimaaGreat.Cut
/- fronts. -/
namespace Go.Proofs.YtcbhjhhajeeimaaGreat.Cut
open Go.RowKit Go.Maps Go.Proofs.YtcbhjhhajeeimaaGreat.Crt Go.Proofs.YtcbhjhhajeeimaaGreat.Suf
set_option maxRecDepth 100000
set_option linter.unusedVariables false

def GivesFronts (w : World) (s : Tx) (e : Ending) (w' : World) : Prop :=
  ∃ g, w.heap.size ≤ g ∧ e = .returned (.slice (some ⟨g, 0, none⟩) s.length s.length) ∧ w'.heap[g]? = some (.cells (icells (zt s s.length)) 3 (0, 0)) ∧ Below w.heap.size w w'
end Go.Proofs.YtcbhjhhajeeimaaGreat.Cut
/- slices.Concat of two texts. -/
namespace Go.Proofs.YtcbhjhhajeeimaaGreat.Cut
open Go.RowKit Go.Maps Go.Proofs.YtcbhjhhajeeimaaGreat.Crt Go.Proofs.YtcbhjhhajeeimaaGreat.Suf
set_option maxRecDepth 100000
set_option linter.unusedVariables false

def GivesRoom (w : World) (e : Ending) (w' : World) : Prop := ∃ v, e = .returned v ∧ w'.ownsRow w.heap.size 5 1 v 0 [] ∧ Below w.heap.size w w'
theorem room_own (w : World) (n c : Nat) (hn : n ≤ c) (hc : c ≤ maxLen) :
    ((w.alloc (.cells (Builtin.zeroCells #[Value.int IntKind.u8 0] n ++ Builtin.zeroCells #[Value.int IntKind.u8 0] (c - n)) 5)).drew).ownsRow w.heap.size 5 1 (.slice (some ⟨w.heap.size, 0, none⟩) 0 c) 0 [] :=
  World.ownsRow_made w _ c (Nat.le_refl _) hc (by simp [Builtin.zeroCells]; omega)
def GivesBytes (w : World) (l : Tx) (e : Ending) (w' : World) : Prop :=
  ∃ a c, e = .returned (.slice a l.length c) ∧ Bs w' w'.heap.size a l ∧ (a = none → c = 0) ∧ Below w.heap.size w w'
end Go.Proofs.YtcbhjhhajeeimaaGreat.Cut
/- Local. -/
namespace Go.Proofs.YtcbhjhhajeeimaaGreat.Cut
open Go.RowKit Go.Maps Go.Proofs.YtcbhjhhajeeimaaGreat.Crt Go.Proofs.YtcbhjhhajeeimaaGreat.Suf Go.Proofs.YtcbhjhhajeeimaaGreat.Reg
set_option maxRecDepth 100000
set_option linter.unusedVariables false

theorem cut_back (a : Option Addr) (l : Tx) (c d : Nat) (hd : d ≤ l.length) (hc : l.length ≤ c) (hn : a = none → c = 0) (w : World) (B : Nat) (hb : Bs w B a l) :
    ∃ A, (∀ W, (Instr.slice 23 (.slice a l.length c) (some (.int .i64 (d : Int))) none none).run Tryz.prog W = .ok (.slice A (l.length - d) (c - d)) W) ∧ Bs w B A (l.drop d) ∧ (A = none → c - d = 0) := by
  have ht : Tryz.prog.underlying 23 = some (.slice (Tryz.prog.elem 23)) := by simp [Program.elem, Tryz.underlying23]
  have he : Tryz.prog.elem 23 = 5 := by simp [Program.elem, Tryz.underlying23]
  refine ⟨if c = d then a else a.map (·.add d), fun W => ?_, fun h0 => ?_, fun hA => ?_⟩
  · rw [run_slice_l W 23 _ _ _ ht .i64 _ (by omega) (by omega), he, size_of5]
    simp [Result.andThen, sliced]
  · rw [List.length_drop] at h0
    obtain ⟨b', o', rfl, hb', hcs⟩ := hb (by omega)
    refine ⟨b', o' + d, by rw [if_neg (by omega)]; simp [Addr.add], hb', fun i hi => ?_⟩
    rw [List.length_drop] at hi
    rw [List.getElem_drop, Nat.add_assoc]
    exact hcs (d + i) (by omega)
  · by_cases e : c = d
    · omega
    · rw [if_neg e] at hA
      cases a with
      | none => have := hn rfl; omega
      | some x => cases hA
theorem cut_front (a : Option Addr) (l : Tx) (c k : Nat) (hk : k ≤ l.length) (hc : l.length ≤ c) (w : World) (B : Nat) (hb : Bs w B a l) :
    (∀ W, (Instr.slice 23 (.slice a l.length c) none (some (.int .i64 (k : Int))) none).run Tryz.prog W = .ok (.slice a k c) W) ∧ Bs w B a (l.take k) := by
  have ht : Tryz.prog.underlying 23 = some (.slice (Tryz.prog.elem 23)) := by simp [Program.elem, Tryz.underlying23]
  have he : Tryz.prog.elem 23 = 5 := by simp [Program.elem, Tryz.underlying23]
  refine ⟨fun W => ?_, fun h0 => ?_⟩
  · rw [run_slice_h W 23 _ _ _ ht .i64 _ (by omega) (by omega), he, size_of5]
    cases a with
    | none => simp [Result.andThen, sliced]
    | some x => obtain ⟨b, o, f⟩ := x; simp [Result.andThen, sliced, Addr.add]
  · have hl : 0 < l.length := by rw [List.length_take] at h0; omega
    obtain ⟨b', o', e, hb, hc⟩ := hb hl
    refine ⟨b', o', e, hb, fun i hi => ?_⟩
    have hi2 : i < l.length := by rw [List.length_take] at hi; omega
    rw [List.getElem_take]
    exact hc i hi2
end Go.Proofs.YtcbhjhhajeeimaaGreat.Cut
/- Factor. -/
namespace Go.Proofs.YtcbhjhhajeeimaaGreat.Cut
open Go.RowKit Go.Maps Go.Proofs.YtcbhjhhajeeimaaGreat.Crt Go.Proofs.YtcbhjhhajeeimaaGreat.Suf Go.Proofs.YtcbhjhhajeeimaaGreat.Reg
set_option maxRecDepth 100000
set_option linter.unusedVariables false

theorem end_any (w : World) (s : Tx) (a : Option Addr) (cap : Nat) (ha : Bs w w.heap.size a s) (hl : s.length ≤ 1000000) (t : Bool) :
    Calls Tryz.prog 73 #[.slice a s.length cap, .bool t] w fun e w' => e = .returned (.agg #[.int .i64 (bestTo t s s.length : Int), .int .i64 (per (s.drop (bestTo t s s.length)) : Int), .bool false]) ∧ Below w.heap.size w w' := by
  have HM := Lib.hid (fun X (hX : Below w.heap.size w X) => max_any X s a cap ((ha.keep hX).more hX.size) hl t)
  clear ha
  obtain ⟨I, hI⟩ : ∃ I, I = bestTo t s s.length := ⟨_, rfl⟩
  rw [← hI] at HM ⊢
  obtain ⟨P, hP⟩ : ∃ P, P = per (s.drop I) := ⟨_, rfl⟩
  rw [← hP] at HM ⊢
  clear hI hP
  go_enter Tryz.func73, Tryz.ntmps73
  go_wp2_with fail
  have hb0 : Below w.heap.size w (w.alloc (.cells #[.int .i64 0, .int .i64 0, .bool false] 116)) := (Below.refl _ _).alloc (Nat.le_refl _) _
  have hg0 := heap_alloc_new w (.cells #[.int .i64 0, .int .i64 0, .bool false] 116)
  have hsz : w.heap.size < (w.alloc (.cells #[.int .i64 0, .int .i64 0, .bool false] 116)).heap.size := by simp
  refine (HM.out _ hb0).mono ?_
  rintro e w1 ⟨rfl, hb⟩
  have hg1 : Blk3 w1 w.heap.size 116 (.int .i64 0) (.int .i64 0) (.bool false) := (hb.block w.heap.size hsz).trans hg0
  have HB := Lib.hid (hb0.trans (hb.mono (Nat.le_of_lt hsz)))
  obtain ⟨c0, c1, c2⟩ := hg1.cells
  obtain ⟨f0, f1, f2⟩ := hg1.free
  have HG := Lib.hid hg1
  clear hb hb0 hg0 hsz HM hg1
  have HPUT := Lib.hid (HG.out.put (.int .i64 (I : Int)) (.int .i64 (P : Int)) (.bool false))
  have HBP := Lib.hid (below_put3 HB.out (Nat.le_refl w.heap.size) (.int .i64 (I : Int)) (.int .i64 (P : Int)) (.bool false))
  unfold put3 at HPUT HBP
  go_wp2
  obtain ⟨d0, d1, d2⟩ := HPUT.out.cells
  refine bodyPost_ret (v := .agg #[.int .i64 (I : Int), .int .i64 (P : Int), .bool false]) (by simp [results, Tryz.results73, go_sem, d0, d1, d2]) rfl ⟨rfl, HBP.out⟩
theorem later_any (w : World) (i p j q : Nat) (b c : Bool) (hi : i ≤ 1000000) (hj : j ≤ 1000000) :
    Calls Tryz.prog 72 #[.agg #[.int .i64 (i : Int), .int .i64 (p : Int), .bool b], .agg #[.int .i64 (j : Int), .int .i64 (q : Int), .bool c]] w fun e w' => e = .returned (if i < j then .agg #[.int .i64 (j : Int), .int .i64 (q : Int), .bool c] else .agg #[.int .i64 (i : Int), .int .i64 (p : Int), .bool b]) ∧ Below w.heap.size w w' := by
  by_cases h : i < j
  · have h2 : (i : Int) < (j : Int) := by omega
    rw [if_pos h]
    clear h
    go_enter Tryz.func72, Tryz.ntmps72
    go_wp2
    refine bodyPost_ret (v := .agg #[.int .i64 (j : Int), .int .i64 (q : Int), .bool c]) (by simp [results, Tryz.results72, go_sem]) rfl ⟨rfl, (((Below.refl _ _).alloc (Nat.le_refl _) _).alloc (by simp) _).alloc (by simp; omega) _⟩
  · have h2 : ¬ (i : Int) < (j : Int) := by omega
    rw [if_neg h]
    clear h
    go_enter Tryz.func72, Tryz.ntmps72
    go_wp2
    refine bodyPost_ret (v := .agg #[.int .i64 (i : Int), .int .i64 (p : Int), .bool b]) (by simp [results, Tryz.results72, go_sem]) rfl ⟨rfl, (((Below.refl _ _).alloc (Nat.le_refl _) _).alloc (by simp) _).alloc (by simp; omega) _⟩
/-- What Factor answers. -/
def facV (s : Tx) : Value := if s = [] then .agg #[.int .i64 0, .int .i64 0, .bool false] else .agg #[.int .i64 (cutAt s : Int), .int .i64 (movePer s : Int), .bool (smallB s)]
theorem cut_pick (s : Tx) : (if bestTo false s s.length < bestTo true s s.length then Value.agg #[.int .i64 (bestTo true s s.length : Int), .int .i64 (per (s.drop (bestTo true s s.length)) : Int), .bool false] else .agg #[.int .i64 (bestTo false s s.length : Int), .int .i64 (per (s.drop (bestTo false s s.length)) : Int), .bool false]) = .agg #[.int .i64 (cutAt s : Int), .int .i64 (cutPer s : Int), .bool false] := by
  unfold cutPer cutAt
  split <;> rfl
set_option maxHeartbeats 4000000 in
theorem factor_any (w : World) (s : Tx) (a : Option Addr) (cap : Nat) (ha : Bs w w.heap.size a s) (hl : s.length ≤ 1000) :
    Calls Tryz.prog 54 #[.slice a s.length cap] w fun e w' => e = .returned (facV s) ∧ Below w.heap.size w w' := by
  have HA := Lib.hid ha
  have HM := Lib.hid (fun X (hX : Below w.heap.size w X) => end_any X s a cap ((ha.keep hX).more hX.size) (by omega))
  clear ha
  obtain ⟨C, hC⟩ : ∃ C, C = cutAt s := ⟨_, rfl⟩
  obtain ⟨Q, hQ⟩ : ∃ Q, Q = cutPer s := ⟨_, rfl⟩
  have hpick := cut_pick s
  rw [← hC, ← hQ] at hpick
  have hbl : ∀ t, bestTo t s s.length ≤ 1000000 := fun t => by
    by_cases e : s = []
    · rw [e]; show bestTo t [] 0 ≤ _; simp [bestTo]
    · have := (best_max (t := t) e).1; omega
  have HLA := Lib.hid (fun X => later_any X (bestTo false s s.length) (per (s.drop (bestTo false s s.length))) (bestTo true s s.length) (per (s.drop (bestTo true s s.length))) false false (hbl _) (hbl _))
  rw [hpick] at HLA
  clear hpick hbl
  obtain ⟨F, hF⟩ : ∃ F, F = bestTo false s s.length := ⟨_, rfl⟩
  obtain ⟨G, hG⟩ : ∃ G, G = bestTo true s s.length := ⟨_, rfl⟩
  obtain ⟨PF, hPF⟩ : ∃ P, P = per (s.drop F) := ⟨_, rfl⟩
  obtain ⟨PG, hPG⟩ : ∃ P, P = per (s.drop G) := ⟨_, rfl⟩
  have HM1 := Lib.hid (fun X hX => HM.out X hX false)
  have HM2 := Lib.hid (fun X hX => HM.out X hX true)
  rw [← hF, ← hPF] at HM1
  rw [← hG, ← hPG] at HM2
  rw [← hG, ← hF, ← hPF, ← hPG] at HLA
  clear HM hF hG hPF hPG
  have hb0 : Below w.heap.size w (w.alloc (.cells #[.int .i64 0, .int .i64 0, .bool false] 116)) := (Below.refl _ _).alloc (Nat.le_refl _) _
  have HG0 := Lib.hid (fun X (hX : Below (w.alloc (.cells #[.int .i64 0, .int .i64 0, .bool false] 116)).heap.size (w.alloc (.cells #[.int .i64 0, .int .i64 0, .bool false] 116)) X) => (hX.block w.heap.size (by simp)).trans (heap_alloc_new w (.cells #[.int .i64 0, .int .i64 0, .bool false] 116)))
  have HB0 := Lib.hid hb0
  clear hb0
  go_enter Tryz.func54, Tryz.ntmps54
  go_wp2_with fail
  generalize hw0 : w.alloc (.cells #[.int .i64 0, .int .i64 0, .bool false] 116) = w0 at *
  have hs0 : w.heap.size < w0.heap.size := by rw [← hw0]; simp
  clear hw0
  refine (HM1.out _ HB0.out).mono ?_
  rintro e w1 ⟨rfl, hb1⟩
  have HW1 := Lib.hid (HB0.out.trans (hb1.mono HB0.out.size))
  have HX1 := Lib.hid hb1
  clear hb1
  go_wp2_with fail
  refine (HM2.out _ HW1.out).mono ?_
  rintro e w2 ⟨rfl, hb2⟩
  have HW2 := Lib.hid (HW1.out.trans (hb2.mono HW1.out.size))
  have HX2 := Lib.hid (HX1.out.trans (hb2.mono HX1.out.size))
  clear hb2 HX1
  go_wp2_with fail
  refine (HLA.out _).mono ?_
  rintro e w3 ⟨rfl, hb3⟩
  have HW3 := Lib.hid (HW2.out.trans (hb3.mono HW2.out.size))
  have HX3 := Lib.hid (HX2.out.trans (hb3.mono HX2.out.size))
  clear hb3 HX2
  have hs3 := HX3.out.size
  have HR := Lib.hid (HG0.out _ HX3.out)
  clear HG0 HM1 HM2 HLA HX3
  by_cases h0 : s = []
  · subst h0
    have hc0 : C = 0 := by rw [hC]; rfl
    have hq0 : Q = 0 := by rw [hQ]; rfl
    subst hc0 hq0
    clear hC hQ
    have hbk : Blk3 (w3.alloc (.cells #[.int .i64 0, .int .i64 0, .bool false] 116)) w.heap.size 116 (.int .i64 0) (.int .i64 0) (.bool false) := (((Below.refl w3.heap.size w3).alloc (Nat.le_refl _) _).block w.heap.size (by omega)).trans HR.out
    have hbw := HW3.out.alloc (HW3.out.size) (.cells #[.int .i64 0, .int .i64 0, .bool false] 116)
    obtain ⟨c0, c1, c2⟩ := hbk.cells
    obtain ⟨f0, f1, f2⟩ := hbk.free
    have HPUT := Lib.hid (hbk.put (.int .i64 0) (.int .i64 0) (.bool false))
    have HBP := Lib.hid (below_put3 hbw (Nat.le_refl w.heap.size) (.int .i64 0) (.int .i64 0) (.bool false))
    unfold put3 at HPUT HBP
    clear hbk hbw
    go_wp2
    obtain ⟨d0, d1, d2⟩ := HPUT.out.cells
    refine bodyPost_ret (v := .agg #[.int .i64 0, .int .i64 0, .bool false]) (by simp [results, Tryz.results54, go_sem, d0, d1, d2]) rfl ⟨by rw [facV, if_pos rfl], HBP.out⟩
  · have hcl := cut_len h0
    obtain ⟨hq1, hql⟩ := cutPer_le h0
    have hsm := smallB_agr h0
    have HFV : Hid (facV s = .agg #[.int .i64 (C : Int), .int .i64 (movePer s : Int), .bool (smallB s)]) := Lib.hid (by rw [facV, if_neg h0, hC])
    have hmp : movePer s = if smallB s then Q else max C (s.length - C) + 1 := by rw [movePer, hQ, hC]
    rw [← hC] at hcl hql hsm
    rw [← hQ] at hq1 hql hsm
    have HRUN : Hid (∀ X, Below w.heap.size w X → Calls Tryz.prog 74 #[.func (.func 75) #[.slice a s.length cap] #[], .int .i64 0, .int .i64 (Q : Int), .int .i64 (C : Int)] X fun e w' => e = .returned (.int .i64 (agr s 0 Q C : Int)) ∧ Drew X w') := Lib.hid (fun X (hX : Below w.heap.size w X) => run_any X s a cap ((HA.out.keep hX).more hX.size) (by omega) 0 Q C (by omega) (by omega))
    obtain ⟨RR, hRR⟩ : ∃ RR, RR = agr s 0 Q C := ⟨_, rfl⟩
    rw [← hRR] at hsm HRUN
    obtain ⟨B, hB⟩ : ∃ B, B = smallB s := ⟨_, rfl⟩
    rw [← hB] at hsm hmp HFV
    have hkb : ((RR : Int) == (C : Int)) = B := by rw [hsm, Bool.eq_iff_iff]; simp; omega
    have hkb2 : (RR == C) = B := by rw [hsm, Bool.eq_iff_iff]; simp
    have HMP := Lib.hid hmp
    have HBK : Hid (Blk3 (w3.alloc (.cells #[.int .i64 (C : Int), .int .i64 (Q : Int), .bool false] 116)) w.heap.size 116 (.int .i64 0) (.int .i64 0) (.bool false)) := Lib.hid ((((Below.refl w3.heap.size w3).alloc (Nat.le_refl _) _).block w.heap.size (by omega)).trans HR.out)
    have HSK : Hid (Blk3 (w3.alloc (.cells #[.int .i64 (C : Int), .int .i64 (Q : Int), .bool false] 116)) w3.heap.size 116 (.int .i64 (C : Int)) (.int .i64 (Q : Int)) (.bool false)) := Lib.hid (heap_alloc_new w3 _)
    have HW4 := Lib.hid (HW3.out.alloc (HW3.out.size) (.cells #[.int .i64 (C : Int), .int .i64 (Q : Int), .bool false] 116))
    have hne : ((Q : Int) == 0) = false := by simp; omega
    have hne2 : ¬ (Q : Int) = 0 := by omega
    clear hRR hC hQ h0 hB hsm hmp
    go_wp2_with fail
    generalize hS0 : w3.heap.size = S0 at *
    generalize w3.alloc (.cells #[.int .i64 (C : Int), .int .i64 (Q : Int), .bool false] 116) = w4 at *
    have HS0 := Lib.hid hS0
    have HH3 := Lib.hid hs3
    have HH0 := Lib.hid hs0
    clear hS0 hs3 hs0
    have hmf : ∀ (fn : Fn) (first cap : Array Value) (w : World), (Instr.makeFunc fn first cap).run Tryz.prog w = .ok (.func fn first cap) w := fun _ _ _ _ => rfl
    obtain ⟨s0, s1, s2⟩ := HSK.out.cells
    have hSS : w4.drew.cell? ⟨S0, 0, none⟩ = some (.int .i64 (C : Int)) ∧ w4.drew.cell? ⟨S0, 1, none⟩ = some (.int .i64 (Q : Int)) := ⟨s0, s1⟩
    have HB5 := Lib.hid (below_drews HW4.out 1)
    change Hid (Below _ _ w4.drew) at HB5
    have HSK5 : Hid (Blk3 w4.drew S0 116 (.int .i64 (C : Int)) (.int .i64 (Q : Int)) (.bool false)) := HSK
    have HBK5 : Hid (Blk3 w4.drew w.heap.size 116 (.int .i64 0) (.int .i64 0) (.bool false)) := HBK
    clear s0 s1 s2
    have hne3 : w.heap.size < S0 := by have h1 := HS0.out; have h2 := HH3.out; have h3 := HH0.out; omega
    have HNE := Lib.hid hne3
    clear hne3
    refine wp_region_held_drew (S := fun w' => w'.cell? ⟨S0, 0, none⟩ = some (.int .i64 (C : Int)) ∧ w'.cell? ⟨S0, 1, none⟩ = some (.int .i64 (Q : Int))) (by kernel_rfl) hSS (fun hH0 => ?_)
    clear hSS
    generalize w4.drew = x0 at *
    refine held_take (i := 0) (d := 13) (oi := _) (v := ?_) rfl rfl (by kernel_rfl) (by kernel_rfl) (by kernel_rfl) (fun _ _ _ h => h) (Or.inl ⟨by rfl, ?_⟩) (by assumption) ?_
    rotate_left
    · (intro w hSw; obtain ⟨l0, l1⟩ := hSw; go_simp; (try with_reducible rfl))
    simp only [Act.put, List.setIfInBounds_toArray, List.set_cons_zero, List.set_cons_succ]
    refine held_take (i := 1) (d := 14) (oi := _) (v := ?_) rfl rfl (by kernel_rfl) (by kernel_rfl) (by kernel_rfl) (fun _ _ _ h => h) (Or.inl ⟨by rfl, ?_⟩) (by assumption) ?_
    rotate_left
    · (intro w hSw; obtain ⟨l0, l1⟩ := hSw; go_simp; (try with_reducible rfl))
    simp only [Act.put, List.setIfInBounds_toArray, List.set_cons_zero, List.set_cons_succ]
    refine held_take (i := 2) (d := 15) (oi := _) (v := ?_) rfl rfl (by kernel_rfl) (by kernel_rfl) (by kernel_rfl) (fun _ _ _ h => h) (Or.inl ⟨by rfl, ?_⟩) (by assumption) ?_
    rotate_left
    · (intro w hSw; obtain ⟨l0, l1⟩ := hSw; go_simp; (try with_reducible rfl))
    simp only [Act.put, List.setIfInBounds_toArray, List.set_cons_zero, List.set_cons_succ]
    refine held_take (i := 3) (d := 16) (oi := _) (v := ?_) rfl rfl (by kernel_rfl) (by kernel_rfl) (by kernel_rfl) (fun _ _ _ h => h) (Or.inl ⟨by rfl, ?_⟩) (by assumption) ?_
    rotate_left
    · (intro w hSw; obtain ⟨l0, l1⟩ := hSw; go_simp; (try with_reducible rfl))
    simp only [Act.put, List.setIfInBounds_toArray, List.set_cons_zero, List.set_cons_succ]
    refine held_take (i := 4) (d := 17) (oi := _) (v := ?_) rfl rfl (by kernel_rfl) (by kernel_rfl) (by kernel_rfl) (fun _ _ _ h => h) (Or.inl ⟨by rfl, ?_⟩) (by assumption) ?_
    rotate_left
    · (intro w hSw; obtain ⟨l0, l1⟩ := hSw; go_simp; (try with_reducible rfl))
    simp only [Act.put, List.setIfInBounds_toArray, List.set_cons_zero, List.set_cons_succ]
    refine held_take (i := 5) (d := 18) (oi := _) (v := ?_) rfl rfl (by kernel_rfl) (by kernel_rfl) (by kernel_rfl) (fun _ _ _ h => h) (Or.inl ⟨by rfl, ?_⟩) (by assumption) ?_
    rotate_left
    · (intro w hSw; obtain ⟨l0, l1⟩ := hSw; go_simp; (try with_reducible rfl))
    simp only [Act.put, List.setIfInBounds_toArray, List.set_cons_zero, List.set_cons_succ]
    refine held_take (i := 7) (d := 20) (oi := _) (v := ?_) rfl rfl (by kernel_rfl) (by kernel_rfl) (by kernel_rfl) (fun _ _ _ h => h) (Or.inl ⟨by rfl, ?_⟩) (by assumption) ?_
    rotate_left
    · (intro w hSw; obtain ⟨l0, l1⟩ := hSw; go_simp; (try with_reducible rfl))
    simp only [Act.put, List.setIfInBounds_toArray, List.set_cons_zero, List.set_cons_succ]
    refine held_take (i := 8) (d := 21) (oi := _) (v := ?_) rfl rfl (by kernel_rfl) (by kernel_rfl) (by kernel_rfl) (fun _ _ _ h => h) (Or.inl ⟨by rfl, ?_⟩) (by assumption) ?_
    rotate_left
    · (intro w hSw; obtain ⟨l0, l1⟩ := hSw; go_simp; (try with_reducible rfl))
    simp only [Act.put, List.setIfInBounds_toArray, List.set_cons_zero, List.set_cons_succ]
    refine wpAnyH_ready (rs := [6]) (by kernel_rfl) (by simp) ?_
    refine AllReadyH.cons rfl (fun K hK => ?_) AllReadyH.nil
    go_simp
    go_wp2_with (go_at_call 74; (with_reducible refine (HRUN.out _ HB5.out).mono ?_); rintro e x' ⟨rfl, hd⟩)
    obtain ⟨q, rfl⟩ := hd
    have hH1 : (x0.drewN q).cell? ⟨S0, 0, none⟩ = some (.int .i64 (C : Int)) ∧ (x0.drewN q).cell? ⟨S0, 1, none⟩ = some (.int .i64 (Q : Int)) := hH0
    refine hK.out _ _ hH1 (fun _ => ?_)
    clear hK hH0
    have HB6 := Lib.hid (below_drews HB5.out q)
    have HSK6 : Hid (Blk3 (x0.drewN q) S0 116 (.int .i64 (C : Int)) (.int .i64 (Q : Int)) (.bool false)) := HSK5
    have HBK6 : Hid (Blk3 (x0.drewN q) w.heap.size 116 (.int .i64 0) (.int .i64 0) (.bool false)) := HBK5
    generalize x0.drewN q = x1 at *
    refine held_take (i := 9) (d := 22) (oi := _) (v := ?_) rfl rfl (by kernel_rfl) (by kernel_rfl) (by kernel_rfl) (fun _ _ _ h => h) (Or.inl ⟨by rfl, ?_⟩) (by assumption) ?_
    rotate_left
    · (intro w hSw; obtain ⟨l0, l1⟩ := hSw; go_simp; (try with_reducible rfl))
    simp only [Act.put, List.setIfInBounds_toArray, List.set_cons_zero, List.set_cons_succ]
    refine held_take (i := 10) (d := 23) (oi := _) (v := ?_) rfl rfl (by kernel_rfl) (by kernel_rfl) (by kernel_rfl) (fun _ _ _ h => h) (Or.inl ⟨by rfl, ?_⟩) (by assumption) ?_
    rotate_left
    · (intro w hSw; obtain ⟨l0, l1⟩ := hSw; go_simp; (try with_reducible rfl))
    simp only [Act.put, List.setIfInBounds_toArray, List.set_cons_zero, List.set_cons_succ]
    obtain ⟨s0, s1, s2⟩ := HSK6.out.cells
    obtain ⟨f0, f1, f2⟩ := HSK6.out.free
    refine wpAnyH_ready (rs := [11]) (by kernel_rfl) (by simp) ?_
    refine AllReadyH.cons rfl (fun K hK => ?_) AllReadyH.nil
    go_simp
    clear s0 s1 s2 f0 f1 f2
    have HSK7 : Hid (Blk3 (x1.setCell ⟨S0, 2, none⟩ (.bool B)) S0 116 (.int .i64 (C : Int)) (.int .i64 (Q : Int)) (.bool B)) := Lib.hid (by have h := HSK6.out; unfold Blk3 at h ⊢; rw [heap_set_same h]; rfl)
    have HBK7 : Hid (Blk3 (x1.setCell ⟨S0, 2, none⟩ (.bool B)) w.heap.size 116 (.int .i64 0) (.int .i64 0) (.bool false)) := Lib.hid (by unfold Blk3; rw [Below.heap_setCell _ _ _ _ (show w.heap.size ≠ S0 by have := HNE.out; omega)]; exact HBK6.out)
    have HB7 := Lib.hid (HB6.out.setCell (p := ⟨S0, 2, none⟩) (show w.heap.size ≤ S0 by have := HNE.out; omega) (.bool B))
    obtain ⟨s0, s1, s2⟩ := HSK7.out.cells
    refine hK.out _ _ ⟨s0, s1⟩ (fun _ => ?_)
    clear hK
    refine wpAnyH_done (by kernel_rfl) ?_ _
    generalize x1.setCell ⟨S0, 2, none⟩ (.bool B) = x2 at *
    obtain ⟨f0, f1, f2⟩ := HSK7.out.free
    obtain ⟨b0, b1, b2⟩ := HBK7.out.cells
    obtain ⟨g0, g1, g2⟩ := HBK7.out.free
    have hne4 : ¬ w.heap.size = S0 := by have := HNE.out; omega
    have hne5 : ¬ S0 = w.heap.size := by have := HNE.out; omega
    have HCL := Lib.hid (And.intro hcl hql)
    cases B
    · obtain ⟨V, hV⟩ : ∃ V, V = max C (s.length - C) + 1 := ⟨_, rfl⟩
      have hmx : max (C : Int) ((s.length : Int) - (C : Int)) + 1 = (V : Int) := by omega
      have HE : Hid (facV s = .agg #[.int .i64 (C : Int), .int .i64 (V : Int), .bool false]) := Lib.hid (by rw [HFV.out, HMP.out, hV]; rfl)
      have HBK8 : Hid (Blk3 (x2.setCell ⟨S0, 1, none⟩ (.int .i64 (max (C : Int) ((s.length : Int) - (C : Int)) + 1))) w.heap.size 116 (.int .i64 0) (.int .i64 0) (.bool false)) := Lib.hid (by unfold Blk3; rw [Below.heap_setCell _ _ _ _ (show w.heap.size ≠ S0 by have := HNE.out; omega)]; exact HBK7.out)
      have HB8 := Lib.hid (HB7.out.setCell (p := ⟨S0, 1, none⟩) (show w.heap.size ≤ S0 by have := HNE.out; omega) (.int .i64 (max (C : Int) ((s.length : Int) - (C : Int)) + 1)))
      obtain ⟨c0, c1, c2⟩ := HBK8.out.cells
      obtain ⟨e0, e1, e2⟩ := HBK8.out.free
      have HPUT := Lib.hid (HBK8.out.put (.int .i64 (C : Int)) (.int .i64 (max (C : Int) ((s.length : Int) - (C : Int)) + 1)) (.bool false))
      have HBP := Lib.hid (below_put3 HB8.out (Nat.le_refl w.heap.size) (.int .i64 (C : Int)) (.int .i64 (max (C : Int) ((s.length : Int) - (C : Int)) + 1)) (.bool false))
      unfold put3 at HPUT HBP
      have HMX := Lib.hid hmx
      clear hmx hV
      go_wp2
      obtain ⟨d0, d1, d2⟩ := HPUT.out.cells
      refine bodyPost_ret (v := .agg #[.int .i64 (C : Int), .int .i64 (max (C : Int) ((s.length : Int) - (C : Int)) + 1), .bool false]) (by simp [results, Tryz.results54, go_sem, d0, d1, d2]) rfl ⟨by rw [HE.out, HMX.out], HBP.out⟩
    · have HE : Hid (facV s = .agg #[.int .i64 (C : Int), .int .i64 (Q : Int), .bool true]) := Lib.hid (by rw [HFV.out, HMP.out]; rfl)
      have HPUT := Lib.hid (HBK7.out.put (.int .i64 (C : Int)) (.int .i64 (Q : Int)) (.bool true))
      have HBP := Lib.hid (below_put3 HB7.out (Nat.le_refl w.heap.size) (.int .i64 (C : Int)) (.int .i64 (Q : Int)) (.bool true))
      unfold put3 at HPUT HBP
      go_wp2
      obtain ⟨d0, d1, d2⟩ := HPUT.out.cells
      refine bodyPost_ret (v := .agg #[.int .i64 (C : Int), .int .i64 (Q : Int), .bool true]) (by simp [results, Tryz.results54, go_sem, d0, d1, d2]) rfl ⟨by rw [HE.out], HBP.out⟩
end Go.Proofs.YtcbhjhhajeeimaaGreat.Cut
/- The reference's Factor and Local. -/
namespace Go.Proofs.YtcbhjhhajeeimaaGreat.Cut
open Go.RowKit Go.Maps Go.Proofs.YtcbhjhhajeeimaaGreat.Crt Go.Proofs.YtcbhjhhajeeimaaGreat.Suf Go.Proofs.YtcbhjhhajeeimaaGreat.Reg
set_option maxRecDepth 100000
set_option linter.unusedVariables false

theorem str_mid (x : Tx) (p k : Nat) : (str x).extract p (p + k) = str ((x.drop p).take k) := by
  unfold str
  rw [ByteArray.extract_mk]
  congr 1
  show (List.take (p + k - p) (x.drop p)).toArray = _
  rw [Nat.add_sub_cancel_left]
theorem str_emp (l : Tx) : (str l).toList.isEmpty = decide (l = []) := by
  rw [ByteArray.toList_eq]; show l.isEmpty = _; cases l <;> simp
end Go.Proofs.YtcbhjhhajeeimaaGreat.Cut
/- The reference's Local. -/
namespace Go.Proofs.YtcbhjhhajeeimaaGreat.Cut
open Go.RowKit Go.Maps Go.Proofs.YtcbhjhhajeeimaaGreat.Crt Go.Proofs.YtcbhjhhajeeimaaGreat.Suf
set_option maxRecDepth 100000
set_option linter.unusedVariables false

end Go.Proofs.YtcbhjhhajeeimaaGreat.Cut
