/- Package by package: WMath W2 BkMath. -/
import Derived.Test.YtcbhjhhajeeimaaGreatGS
/- Mathematics of stages 14 to 16: texts turned round, how far a window may be moved, and where windows end. -/
namespace Go.Proofs.YtcbhjhhajeeimaaGreat.Cwl
open Go.Proofs.YtcbhjhhajeeimaaGreat.Tri Go.Proofs.YtcbhjhhajeeimaaGreat.Lnk Go.Proofs.YtcbhjhhajeeimaaGreat.Prs Go.Proofs.YtcbhjhhajeeimaaGreat.Spa
set_option maxRecDepth 100000
/-- Texts that aren't empty, each turned round. -/
def turned (l : List Tx) : List Tx := (l.filter fun x => decide (x ≠ [])).map List.reverse
theorem mem_turned (l : List Tx) (x : Tx) : x ∈ turned l ↔ x ≠ [] ∧ x.reverse ∈ l := by
  unfold turned
  rw [List.mem_map]
  constructor
  · rintro ⟨y, hy, rfl⟩
    rw [List.mem_filter] at hy
    have h2 : y ≠ [] := by simpa using hy.2
    exact ⟨by simpa using h2, by simpa using hy.1⟩
  · rintro ⟨h1, h2⟩
    exact ⟨x.reverse, List.mem_filter.2 ⟨h2, by simpa using h1⟩, by simp⟩
theorem turned_ne {l : List Tx} {x : Tx} (h : x ∈ turned l) : 0 < x.length := List.length_pos_iff.2 ((mem_turned l x).1 h).1
/-- The least of a number and of those that aren't 0. -/
def minOver (a : Nat) (ks : List Nat) : Nat := ks.foldl (fun m k => if 0 < k ∧ k < m then k else m) a
theorem min_snoc (a : Nat) (ks : List Nat) (k : Nat) : minOver a (ks ++ [k]) = if 0 < k ∧ k < minOver a ks then k else minOver a ks := by
  unfold minOver; rw [List.foldl_append]; rfl
theorem min_cons (a k : Nat) (ks : List Nat) : minOver a (k :: ks) = minOver (if 0 < k ∧ k < a then k else a) ks := rfl
theorem min_le : ∀ (a : Nat) (ks : List Nat), minOver a ks ≤ a
  | _, [] => Nat.le_refl _
  | a, k :: ks => by
    have := min_le (if 0 < k ∧ k < a then k else a) ks
    rw [min_cons]
    split at this <;> rename_i h
    · rw [if_pos h]; omega
    · rw [if_neg h]; omega
theorem min_mem : ∀ (a : Nat) (ks : List Nat), ∀ k ∈ ks, 0 < k → minOver a ks ≤ k
  | _, [], k, h, _ => by cases h
  | a, j :: ks, k, h, h0 => by
    rw [min_cons]
    rcases List.mem_cons.1 h with rfl | h
    · have := min_le (if 0 < k ∧ k < a then k else a) ks
      split at this <;> rename_i h2
      · rw [if_pos h2]; omega
      · rw [if_neg h2]; omega
    · exact min_mem _ ks k h h0
theorem min_is : ∀ (a : Nat) (ks : List Nat), minOver a ks = a ∨ ∃ k ∈ ks, 0 < k ∧ minOver a ks = k
  | _, [] => .inl rfl
  | a, j :: ks => by
    rw [min_cons]
    rcases min_is (if 0 < j ∧ j < a then j else a) ks with h | ⟨k, hk, h0, h⟩
    · by_cases h2 : 0 < j ∧ j < a
      · rw [if_pos h2] at h ⊢
        exact .inr ⟨j, by simp, h2.1, h⟩
      · rw [if_neg h2] at h ⊢
        exact .inl h
    · exact .inr ⟨k, by simp [hk], h0, h⟩
theorem min_pos {a : Nat} (h : 0 < a) (ks : List Nat) : 0 < minOver a ks := by
  rcases min_is a ks with e | ⟨k, _, h0, e⟩ <;> omega
theorem min_sub {a b : Nat} {ks js : List Nat} (hab : a ≤ b) (h : ∀ k ∈ js, 0 < k → k ∈ ks) : minOver a ks ≤ minOver b js := by
  rcases min_is b js with e | ⟨k, hk, h0, e⟩
  · have := min_le a ks; omega
  · have := min_mem a ks k (h k hk h0) h0; omega
/-- How many bytes the shortest text has. -/
def leastOf : List Tx → Nat
  | [] => 0
  | x :: l => minOver x.length (l.map List.length)
theorem least_le {l : List Tx} (hl : ∀ x ∈ l, 0 < x.length) {x : Tx} (h : x ∈ l) : leastOf l ≤ x.length := by
  cases l with
  | nil => cases h
  | cons y l =>
    rcases List.mem_cons.1 h with rfl | h
    · exact min_le _ _
    · exact min_mem _ _ _ (List.mem_map.2 ⟨x, h, rfl⟩) (hl x (by simp [h]))
theorem least_pos {l : List Tx} (hl : ∀ x ∈ l, 0 < x.length) (h : l ≠ []) : 0 < leastOf l := by
  cases l with
  | nil => exact absurd rfl h
  | cons y l => exact min_pos (hl y (by simp)) _
theorem least_is {l : List Tx} (h : l ≠ []) : ∃ x ∈ l, leastOf l = x.length := by
  cases l with
  | nil => exact absurd rfl h
  | cons y l =>
    rcases min_is y.length (l.map List.length) with e | ⟨k, hk, _, e⟩
    · exact ⟨y, by simp, e⟩
    · obtain ⟨x, hx, rfl⟩ := List.mem_map.1 hk
      exact ⟨x, by simp [hx], e⟩
/-- By how many bytes an end goes on another one. -/
def ahead (w v : Tx) : Nat := if v.length < w.length ∧ w.take v.length = v then w.length - v.length else 0
theorem ahead_pos {w v : Tx} : 0 < ahead w v ↔ v.length < w.length ∧ w.take v.length = v := by
  unfold ahead
  split
  · rename_i h; exact ⟨fun _ => h, fun _ => by omega⟩
  · rename_i h; exact ⟨fun h0 => by omega, fun h0 => absurd h0 h⟩
theorem ahead_of {v r : Tx} (h : r ≠ []) : ahead (v ++ r) v = r.length := by
  have := List.length_pos_iff.2 h
  unfold ahead
  rw [if_pos ⟨by rw [List.length_append]; omega, by simp⟩, List.length_append]; omega
/-- How near a byte stands to a text's end; the texts are turned round. -/
def nearAll (l : List Tx) (c : UInt8) : List Nat := l.flatMap fun x => (List.range x.length).map fun k => if x[k]? = some c then k + 1 else 0
def firstOf (l p : List Tx) (s : Tx) : Nat := minOver (leastOf l) (p.map fun q => ahead q.reverse s.reverse)
def secondAll (l : List Tx) (s : Tx) : List Nat := (List.range (s.length + 1)).flatMap fun n => l.map fun x => ahead x.reverse (s.take n).reverse
def secondOf (l : List Tx) (s : Tx) : Nat := minOver (leastOf l) (secondAll l s)
/-- Least and 1, or how near c stands, if that is less. -/
def nearK (l : List Tx) (c : UInt8) : Nat := minOver (leastOf l + 1) (nearAll l c)
def farOf (l p : List Tx) (s : Tx) (c : UInt8) : Nat := if l = [] then 0 else min (secondOf l s) (max (firstOf l p s) (nearK l c - s.length - 1))
theorem first_le (l p : List Tx) (s : Tx) : firstOf l p s ≤ leastOf l := min_le _ _
theorem second_le (l : List Tx) (s : Tx) : secondOf l s ≤ leastOf l := min_le _ _
theorem second_way (l : List Tx) (s : Tx) (k : Nat) (h : k ≤ s.length) : secondOf l s ≤ secondOf l (s.take k) := by
  refine min_sub (Nat.le_refl _) fun j hj h0 => ?_
  obtain ⟨n, hn, hx⟩ := List.mem_flatMap.1 hj
  rw [List.mem_range, List.length_take] at hn
  refine List.mem_flatMap.2 ⟨n, List.mem_range.2 (by omega), ?_⟩
  rw [List.take_take, show min n k = n by omega] at hx
  exact hx
theorem far_le (l p : List Tx) (s : Tx) (c : UInt8) : farOf l p s c ≤ secondOf l s := by
  unfold farOf; split <;> omega
theorem far_pos {l p : List Tx} (hl : ∀ x ∈ l, 0 < x.length) (h : l ≠ []) (s : Tx) (c : UInt8) : 0 < farOf l p s c := by
  have h0 := least_pos hl h
  have h1 : 0 < secondOf l s := min_pos h0 _
  have h2 : 0 < firstOf l p s := min_pos h0 _
  unfold farOf; rw [if_neg h]; omega
/-! Safety: T stands in the line, and ends d bytes behind the window's end; v is what fits (not turned), n bytes. -/
theorem second_safe {l : List Tx} {T v s : Tx} {d : Nat} (hT : T.reverse ∈ l) (hl : ∀ x ∈ l, 0 < x.length) (hs : s.reverse = v) (hd : 1 ≤ d)
    (hin : d < T.length → T.length - d ≤ v.length ∧ T.take (T.length - d) = v.drop (v.length - (T.length - d))) : secondOf l s ≤ d := by
  rcases Nat.lt_or_ge d T.length with h | h
  · obtain ⟨h1, h2⟩ := hin h
    have hsv : s.length = v.length := by rw [← hs]; simp
    have e1 : (s.take (T.length - d)).reverse = T.take (T.length - d) := by
      rw [h2, ← hs, List.length_reverse, List.drop_reverse]
      congr 1
      congr 1
      have : s.length = v.length := hsv
      omega
    have e2 : ahead T (T.take (T.length - d)) = d := by
      have hr : T.drop (T.length - d) ≠ [] := fun e => by
        have := congrArg List.length e
        rw [List.length_drop] at this
        simp at this; omega
      have := ahead_of (v := T.take (T.length - d)) hr
      rw [List.take_append_drop] at this
      rw [this, List.length_drop]; omega
    refine min_mem _ _ d ?_ hd
    refine List.mem_flatMap.2 ⟨T.length - d, List.mem_range.2 (by omega), List.mem_map.2 ⟨T.reverse, hT, ?_⟩⟩
    rw [List.reverse_reverse, e1, e2]
  · have h1 := second_le l s
    have h2 := least_le hl hT
    rw [List.length_reverse] at h2
    omega
theorem far_safe {l p : List Tx} {T v s : Tx} {d : Nat} {c : UInt8} (hp : p = paths l) (hT : T.reverse ∈ l) (hl : ∀ x ∈ l, 0 < x.length) (hs : s.reverse = v) (hd : 1 ≤ d)
    (hin : d < T.length → T.length - d ≤ v.length → T.take (T.length - d) = v.drop (v.length - (T.length - d)))
    (hout : v.length < T.length - d → ∃ u, T = u ++ [c] ++ v ++ T.drop (T.length - d)) : farOf l p s c ≤ d := by
  have hne : l ≠ [] := fun e => by rw [e] at hT; cases hT
  have hsv : s.length = v.length := by rw [← hs]; simp
  rcases Nat.lt_or_ge v.length (T.length - d) with h | h
  · obtain ⟨u, hu⟩ := hout h
    have hdl : (T.drop (T.length - d)).length = d := by rw [List.length_drop]; omega
    have hr : T.drop (T.length - d) ≠ [] := fun e => by rw [e] at hdl; simp at hdl; omega
    generalize T.drop (T.length - d) = r at hu hdl hr
    -- the end that begins with v
    have h1 : firstOf l p s ≤ d := by
      refine min_mem _ _ d (List.mem_map.2 ⟨(v ++ r).reverse, ?_, ?_⟩) hd
      · rw [hp, paths_mem]
        refine .inr ⟨T.reverse, hT, (u ++ [c]).reverse, ?_⟩
        rw [hu, ← List.reverse_append]
        simp
      · rw [List.reverse_reverse, hs, ahead_of hr, hdl]
    have h2 : nearK l c ≤ d + v.length + 1 := by
      refine min_mem _ _ (d + v.length + 1) ?_ (by omega)
      refine List.mem_flatMap.2 ⟨T.reverse, hT, List.mem_map.2 ⟨d + v.length, List.mem_range.2 (by rw [List.length_reverse]; omega), ?_⟩⟩
      have e : T.reverse[d + v.length]? = some c := by
        rw [hu]
        simp only [List.reverse_append, List.reverse_cons, List.reverse_nil, List.nil_append]
        rw [← List.append_assoc, ← List.append_assoc, List.getElem?_append_left (by simp; omega), List.getElem?_append_right (by simp; omega)]
        simp [hdl]
      rw [if_pos e]
    have h3 := far_le l p s c
    unfold farOf
    rw [if_neg hne, hsv]
    omega
  · have := second_safe hT hl hs hd fun h1 => ⟨h, hin h1 h⟩
    have := far_le l p s c
    omega
end Go.Proofs.YtcbhjhhajeeimaaGreat.Cwl
/- Windows of a line: what fits back from an end, where the next one ends, and what is found there. -/
namespace Go.Proofs.YtcbhjhhajeeimaaGreat.Cwl
open Go.Proofs.YtcbhjhhajeeimaaGreat.Tri Go.Proofs.YtcbhjhhajeeimaaGreat.Lnk Go.Proofs.YtcbhjhhajeeimaaGreat.Prs Go.Proofs.YtcbhjhhajeeimaaGreat.Spa
set_option maxRecDepth 100000
/-- The last n of a line's first e bytes, turned round. -/
def backN (line : Tx) (e n : Nat) : Tx := ((line.take e).drop (e - n)).reverse
theorem backN_len {line : Tx} {e n : Nat} (he : e ≤ line.length) (hn : n ≤ e) : (backN line e n).length = n := by
  unfold backN; rw [List.length_reverse, List.length_drop, List.length_take]; omega
theorem backN_succ {line : Tx} {e n : Nat} (he : e ≤ line.length) (hn : n < e) : backN line e (n + 1) = backN line e n ++ [line[e - 1 - n]] := by
  unfold backN
  have h : e - (n + 1) < (line.take e).length := by rw [List.length_take]; omega
  rw [List.drop_eq_getElem_cons h, List.reverse_cons, List.getElem_take]
  have e2 : e - (n + 1) = e - 1 - n := by omega
  have e1 : e - 1 - n + 1 = e - n := by omega
  simp only [e2, e1]
theorem backN_take {line : Tx} {e n : Nat} (he : e ≤ line.length) (hn : n ≤ e) : ∀ d, n + d ≤ e → (backN line e (n + d)).take n = backN line e n
  | 0, _ => by rw [Nat.add_zero, List.take_of_length_le (by rw [backN_len he hn]; exact Nat.le_refl _)]
  | d + 1, h => by
    rw [← Nat.add_assoc, backN_succ he (by omega), List.take_append_of_le_length (by rw [backN_len he (by omega)]; omega)]
    exact backN_take he hn d (by omega)
/-- How many bytes fit, from n on; f: how many are left. -/
def fitN (p : List Tx) (line : Tx) (e : Nat) : Nat → Nat → Nat
  | 0, n => n
  | f + 1, n => if backN line e (n + 1) ∈ p then fitN p line e f (n + 1) else n
/-- How many bytes fit back from e. -/
def fits (p : List Tx) (line : Tx) (e : Nat) : Nat := fitN p line e e 0
theorem fitN_spec (p : List Tx) (line : Tx) (e : Nat) : ∀ f n, n + f = e → n ≤ fitN p line e f n ∧ fitN p line e f n ≤ e ∧ (∀ m, n < m → m ≤ fitN p line e f n → backN line e m ∈ p) ∧ (fitN p line e f n < e → backN line e (fitN p line e f n + 1) ∉ p)
  | 0, n, h => ⟨Nat.le_refl _, by rw [fitN]; omega, fun m h1 h2 => by rw [fitN] at h2; omega, fun h1 => by rw [fitN] at h1; omega⟩
  | f + 1, n, h => by
    rw [fitN]
    by_cases hm : backN line e (n + 1) ∈ p
    · rw [if_pos hm]
      obtain ⟨h1, h2, h3, h4⟩ := fitN_spec p line e f (n + 1) (by omega)
      refine ⟨by omega, h2, fun m h5 h6 => ?_, h4⟩
      by_cases e1 : m = n + 1
      · rw [e1]; exact hm
      · exact h3 m (by omega) h6
    · rw [if_neg hm]
      exact ⟨Nat.le_refl _, by omega, fun m h1 h2 => by omega, fun _ => hm⟩
theorem fits_le (p : List Tx) (line : Tx) (e : Nat) : fits p line e ≤ e := (fitN_spec p line e e 0 (by omega)).2.1
theorem fits_in (p : List Tx) (line : Tx) (e m : Nat) (h0 : 0 < m) (h : m ≤ fits p line e) : backN line e m ∈ p := (fitN_spec p line e e 0 (by omega)).2.2.1 m h0 h
theorem fits_stop (p : List Tx) (line : Tx) (e : Nat) (h : fits p line e < e) : backN line e (fits p line e + 1) ∉ p := (fitN_spec p line e e 0 (by omega)).2.2.2 h
/-- A text that ends at e is one that is come by. -/
theorem fits_text {l : List Tx} {line : Tx} {a e : Nat} (hae : a < e) (he : e ≤ line.length) (hm : (line.take e).drop a ∈ l) : e - a ≤ fits (paths (turned l)) line e ∧ backN line e (e - a) ∈ turned l := by
  have hT : backN line e (e - a) ∈ turned l := by
    rw [mem_turned]
    have e1 : (backN line e (e - a)).reverse = (line.take e).drop a := by
      unfold backN; rw [List.reverse_reverse]; congr 1; omega
    refine ⟨fun h => ?_, by rw [e1]; exact hm⟩
    have := congrArg List.length h
    rw [backN_len he (by omega)] at this
    simp at this; omega
  refine ⟨?_, hT⟩
  rcases Nat.lt_or_ge (fits (paths (turned l)) line e) (e - a) with h | h
  · exfalso
    refine fits_stop (paths (turned l)) line e (by omega) ?_
    rw [paths_mem]
    refine .inr ⟨_, hT, (backN line e (e - a)).drop (fits (paths (turned l)) line e + 1), ?_⟩
    have h2 := backN_take (line := line) (e := e) (n := fits (paths (turned l)) line e + 1) he (by omega) (e - a - (fits (paths (turned l)) line e + 1)) (by omega)
    rw [show fits (paths (turned l)) line e + 1 + (e - a - (fits (paths (turned l)) line e + 1)) = e - a by omega] at h2
    rw [← h2, List.take_append_drop]
  · exact h
/-- .. and what is come by is one that ends there. -/
theorem text_fits {l : List Tx} {line : Tx} {e n : Nat} (h : backN line e n ∈ turned l) : (line.take e).drop (e - n) ∈ l := by
  have := ((mem_turned l _).1 h).2
  unfold backN at this
  rwa [List.reverse_reverse] at this
/-- How far the next window ends behind this one. -/
def moveOf (l : List Tx) (line : Tx) (e : Nat) : Nat :=
  let t := turned l
  let s := backN line e (fits (paths t) line e)
  match line[e - 1 - s.length]? with
  | some c => if s.length < e then farOf t (paths t) s c else secondOf t s
  | none => secondOf t s
theorem take_drop_take (line : Tx) (e b a : Nat) (h : e ≤ b) : ((line.take b).drop a).take (e - a) = (line.take e).drop a := by
  rw [List.take_drop, List.take_take]
  rcases Nat.lt_or_ge a e with h1 | h1
  · congr 2; omega
  · rw [List.drop_eq_nil_of_le (by rw [List.length_take]; omega), List.drop_eq_nil_of_le (by rw [List.length_take]; omega)]
/-- No text ends between a window and the next one. -/
theorem move_safe {l : List Tx} {line : Tx} {e a b : Nat} (heb : e < b) (hb : b ≤ line.length) (hab : a < b) (hm : (line.take b).drop a ∈ l) : e + moveOf l line e ≤ b := by
  have hT0 : (line.take b).drop a ≠ [] := fun h => by
    have := congrArg List.length h
    rw [List.length_drop, List.length_take] at this
    simp at this; omega
  have hTl : ((line.take b).drop a).length = b - a := by rw [List.length_drop, List.length_take]; omega
  have hT : ((line.take b).drop a).reverse ∈ turned l := by rw [mem_turned]; exact ⟨by simpa using hT0, by simpa using hm⟩
  have hl : ∀ x ∈ turned l, 0 < x.length := fun x hx => turned_ne hx
  have hfl := fits_le (paths (turned l)) line e
  generalize hn : fits (paths (turned l)) line e = n at hfl
  have hsl : (backN line e n).length = n := backN_len (by omega) hfl
  have hsr : (backN line e n).reverse = (line.take e).drop (e - n) := by unfold backN; rw [List.reverse_reverse]
  have hvl : ((line.take e).drop (e - n)).length = n := by rw [List.length_drop, List.length_take]; omega
  -- where the text begins within what fits
  have hin : b - e < b - a → b - a - (b - e) ≤ n → ((line.take b).drop a).take (b - a - (b - e)) = ((line.take e).drop (e - n)).drop (n - (b - a - (b - e))) := fun h1 h2 => by
    rw [show b - a - (b - e) = e - a by omega, take_drop_take line e b a (by omega), List.drop_drop]
    congr 1; omega
  have hsec : (n = e ∨ e - n ≤ a) → secondOf (turned l) (backN line e n) ≤ b - e := fun h => by
    refine second_safe hT hl hsr (by omega) fun h1 => ?_
    rw [hTl] at h1 ⊢
    rw [hvl]
    exact ⟨by omega, hin h1 (by omega)⟩
  unfold moveOf
  simp only [hn, hsl]
  have hc : e - 1 - n < line.length := by omega
  rw [List.getElem?_eq_getElem hc]
  by_cases h : n < e
  · simp only [h, if_true]
    have : farOf (turned l) (paths (turned l)) (backN line e n) line[e - 1 - n] ≤ b - e := by
      refine far_safe rfl hT hl hsr (by omega) (fun h1 h2 => ?_) (fun h1 => ?_)
      · rw [hTl] at h1 h2 ⊢
        rw [hvl] at h2 ⊢
        exact hin h1 h2
      · rw [hTl, hvl] at h1
        -- the text covers what fits, and the byte ahead of it
        refine ⟨(line.take (e - 1 - n)).drop a, ?_⟩
        rw [hTl, show b - a - (b - e) = e - a by omega, List.drop_drop, show a + (e - a) = e by omega]
        have e1 : (line.take b).drop a = (line.take e).drop a ++ (line.take b).drop e := by
          have := (List.take_append_drop (e - a) ((line.take b).drop a)).symm
          rwa [take_drop_take line e b a (by omega), List.drop_drop, show a + (e - a) = e by omega] at this
        have e2 : (line.take e).drop a = (line.take (e - n)).drop a ++ (line.take e).drop (e - n) := by
          have := (List.take_append_drop (e - n - a) ((line.take e).drop a)).symm
          rwa [take_drop_take line (e - n) e a (by omega), List.drop_drop, show a + (e - n - a) = e - n by omega] at this
        have e3 : (line.take (e - n)).drop a = (line.take (e - 1 - n)).drop a ++ [line[e - 1 - n]] := by
          have h5 : line.take (e - n) = line.take (e - 1 - n) ++ [line[e - 1 - n]] := by
            have := List.take_succ_eq_append_getElem hc
            rwa [show e - 1 - n + 1 = e - n by omega] at this
          rw [h5, List.drop_append_of_le_length (by rw [List.length_take]; omega)]
        rw [e1, e2, e3]
    omega
  · simp only [h, if_false]
    have := hsec (.inl (by omega))
    omega
theorem move_pos {l : List Tx} (h : turned l ≠ []) (line : Tx) (e : Nat) : 0 < moveOf l line e := by
  have hl : ∀ x ∈ turned l, 0 < x.length := fun x hx => turned_ne hx
  have h1 : ∀ s, 0 < secondOf (turned l) s := fun s => min_pos (least_pos hl h) _
  unfold moveOf
  simp only
  split
  · split
    · exact far_pos hl h _ _
    · exact h1 _
  · exact h1 _
/-- The windows, from e on; f: more than are left. -/
def windows (l : List Tx) (line : Tx) : Nat → Nat → List Nat
  | 0, _ => []
  | f + 1, e => if e ≤ line.length then e :: windows l line f (e + moveOf l line e) else []
/-- Each piece that is a text ends where a window does. -/
theorem windows_all {l : List Tx} {line : Tx} (ht : turned l ≠ []) {a b : Nat} (hab : a < b) (hb : b ≤ line.length) (hm : (line.take b).drop a ∈ l) : ∀ (f e : Nat), 0 < e → e ≤ b → line.length < e + f → b ∈ windows l line f e
  | 0, e, _, h1, h2 => by omega
  | f + 1, e, h0, h1, h2 => by
    rw [windows, if_pos (by omega)]
    rcases Nat.eq_or_lt_of_le h1 with h3 | h3
    · rw [h3]; simp
    · refine List.mem_cons_of_mem _ (windows_all ht hab hb hm f _ (by omega) (move_safe h3 hb hab hm) ?_)
      have := move_pos ht line e
      omega
theorem first_window {l : List Tx} {line : Tx} {a b : Nat} (hab : a < b) (hb : b ≤ line.length) (hm : (line.take b).drop a ∈ l) : leastOf (turned l) ≤ b := by
  have hTl : ((line.take b).drop a).length = b - a := by rw [List.length_drop, List.length_take]; omega
  have hT : ((line.take b).drop a).reverse ∈ turned l := by
    rw [mem_turned]
    refine ⟨fun h => ?_, by simpa using hm⟩
    have := congrArg List.length h
    rw [List.length_reverse, hTl] at this
    simp at this; omega
  have := least_le (fun x hx => turned_ne hx) hT
  rw [List.length_reverse, hTl] at this
  omega
theorem windows_le (l : List Tx) (line : Tx) : ∀ f e, ∀ b ∈ windows l line f e, e ≤ b ∧ b ≤ line.length
  | 0, _, b, h => by cases h
  | f + 1, e, b, h => by
    rw [windows] at h
    split at h
    · rcases List.mem_cons.1 h with rfl | h
      · exact ⟨Nat.le_refl _, by assumption⟩
      · have := windows_le l line f _ b h
        omega
    · cases h
/-- What is found at a window: of each text that is come by its pair. -/
def foundAt (l : List Tx) (line : Tx) (e : Nat) : List Pr := (List.range (fits (paths (turned l)) line e + 1)).flatMap fun n => if backN line e n ∈ turned l then [⟨(e : Int) - n, (e : Int)⟩] else []
/-- All that is found, in order, is what stands in the line. -/
theorem found_all {l : List Tx} {line : Tx} (ht : turned l ≠ []) : norm ((windows l line (line.length + 1) (leastOf (turned l))).flatMap (foundAt l line)) = scanOf l line := by
  refine (norm_eq (m := scanOf l line) fun p => ?_).trans (norm_of_rise (rise_scan l line))
  rw [mem_scan, List.mem_flatMap]
  have hpos := least_pos (fun x hx => turned_ne hx) ht
  constructor
  · rintro ⟨e, he, hp⟩
    obtain ⟨n, hn, hp⟩ := List.mem_flatMap.1 hp
    rw [List.mem_range] at hn
    obtain ⟨h1, h2⟩ := windows_le l line _ _ e he
    have hfl := fits_le (paths (turned l)) line e
    split at hp
    · rename_i hm
      have hn0 : 0 < n := by
        have := turned_ne hm
        rwa [backN_len h2 (by omega)] at this
      rw [List.mem_singleton.1 hp]
      refine ⟨e - n, e, by omega, h2, text_fits hm, ?_⟩
      congr 1; omega
    · cases hp
  · rintro ⟨a, b, hab, hb, hm, rfl⟩
    obtain ⟨h1, h2⟩ := fits_text hab hb hm
    refine ⟨b, windows_all ht hab hb hm _ _ hpos (first_window hab hb hm) (by omega), List.mem_flatMap.2 ⟨b - a, List.mem_range.2 (by omega), ?_⟩⟩
    rw [if_pos h2]
    simp; omega
end Go.Proofs.YtcbhjhhajeeimaaGreat.Cwl
/- Mathematics of stage 14: texts turned round, the shortest one, how near a text's end a byte stands, the ends of texts. -/
namespace Go.Proofs.YtcbhjhhajeeimaaGreat.Bck
open Go.Proofs.YtcbhjhhajeeimaaGreat.Tri Go.Proofs.YtcbhjhhajeeimaaGreat.Cwl
set_option maxRecDepth 100000

/-- A text turned round, gone through from its last byte on: k of them. -/
def turnTo (s : Tx) (k : Nat) : Tx := (s.drop (s.length - k)).reverse
theorem turnTo_zero (s : Tx) : turnTo s 0 = [] := by simp [turnTo]
theorem turnTo_step {s : Tx} {k : Nat} (h : k < s.length) : turnTo s (k + 1) = turnTo s k ++ [s[s.length - 1 - k]'(by omega)] := by
  unfold turnTo
  rw [show s.length - k = s.length - (k + 1) + 1 by omega, List.drop_eq_getElem_cons (show s.length - (k + 1) < s.length by omega), List.reverse_cons]
  congr 2
  congr 1
  omega
theorem turnTo_all {s : Tx} {k : Nat} (h : s.length ≤ k) : turnTo s k = s.reverse := by
  unfold turnTo
  rw [show s.length - k = 0 by omega, List.drop_zero]
theorem turnTo_len {s : Tx} {k : Nat} (h : k ≤ s.length) : (turnTo s k).length = k := by
  simp [turnTo]; omega
/-- Texts turned round, one by one. -/
theorem turned_nil : turned [] = [] := rfl
theorem turned_snoc (l : List Tx) (x : Tx) : turned (l ++ [x]) = if x = [] then turned l else turned l ++ [x.reverse] := by
  unfold turned
  rw [List.filter_append, List.map_append]
  by_cases h : x = []
  · rw [if_pos h]; simp [h]
  · rw [if_neg h]; simp [h]
theorem turned_len (l : List Tx) : (turned l).length ≤ l.length := by
  unfold turned
  rw [List.length_map]
  exact List.length_filter_le _ _
/-- The shortest one, as a loop finds it: of the first k. -/
def leastTo (l : List Tx) : Nat → Nat
  | 0 => 0
  | k + 1 => if k = 0 ∨ (l.getD k []).length < leastTo l k then (l.getD k []).length else leastTo l k
theorem leastTo_spec (l : List Tx) : ∀ k, 0 < k → k ≤ l.length → (∃ i, i < k ∧ leastTo l k = (l.getD i []).length) ∧ ∀ i, i < k → leastTo l k ≤ (l.getD i []).length
  | 0, h, _ => absurd h (by omega)
  | k + 1, _, hk => by
    rw [leastTo]
    by_cases h0 : k = 0
    · subst h0
      rw [if_pos (.inl rfl)]
      exact ⟨⟨0, by omega, rfl⟩, fun i hi => by
        have e : i = 0 := by omega
        subst e
        exact Nat.le_refl _⟩
    · obtain ⟨⟨i, hi, e⟩, hl⟩ := leastTo_spec l k (by omega) (by omega)
      split
      · rename_i h
        refine ⟨⟨k, by omega, rfl⟩, fun j hj => ?_⟩
        by_cases ej : j = k
        · subst ej; exact Nat.le_refl _
        · have := hl j (by omega); omega
      · rename_i h
        refine ⟨⟨i, by omega, e⟩, fun j hj => ?_⟩
        by_cases ej : j = k
        · subst ej; omega
        · exact hl j (by omega)
theorem leastTo_is {l : List Tx} (hl : ∀ x ∈ l, 0 < x.length) : leastTo l l.length = Cwl.leastOf l := by
  by_cases h : l = []
  · subst h; rfl
  · have hp := List.length_pos_iff.2 h
    obtain ⟨⟨i, hi, e⟩, hle⟩ := leastTo_spec l l.length hp (Nat.le_refl _)
    obtain ⟨x, hx, ex⟩ := Cwl.least_is h
    obtain ⟨j, hj, rfl⟩ := List.getElem_of_mem hx
    have h1 := Cwl.least_le hl (List.getElem_mem hi)
    have h2 := hle j hj
    have g : ∀ i (hi : i < l.length), l.getD i [] = l[i] := fun i hi => by rw [List.getD_eq_getElem?_getD, List.getElem?_eq_getElem hi]; rfl
    rw [g i hi] at e
    rw [g j hj] at h2
    omega
/-- How near a text's front a byte stands, the texts turned round: the least place of it, counted from 1; 0 if there is none. -/
def Near (l : List Tx) (c : UInt8) (n : Nat) : Prop :=
  (n = 0 ∧ ∀ x ∈ l, ∀ i : Nat, x[i]? ≠ some c) ∨ (0 < n ∧ (∃ x ∈ l, x[n - 1]? = some c) ∧ ∀ x ∈ l, ∀ i : Nat, x[i]? = some c → n ≤ i + 1)
theorem near_uniq {l : List Tx} {c : UInt8} {n m : Nat} (h : Near l c n) (h' : Near l c m) : n = m := by
  rcases h with ⟨h0, h1⟩ | ⟨h0, ⟨x, hx, h1⟩, h2⟩ <;> rcases h' with ⟨k0, k1⟩ | ⟨k0, ⟨y, hy, k1⟩, k2⟩
  · omega
  · exact absurd k1 (h1 y hy _)
  · exact absurd h1 (k1 x hx _)
  · have a := h2 y hy _ k1
    have b := k2 x hx _ h1
    omega
/-- One byte more is looked at. -/
def nearStep (a k : Nat) (b : Bool) : Nat := if b = true ∧ (a = 0 ∨ k + 1 < a) then k + 1 else a
def nearRow (x : Tx) (c : UInt8) (a : Nat) : Nat → Nat
  | 0 => a
  | k + 1 => nearStep (nearRow x c a k) k (x.getD k 0 == c)
def nearTo (l : List Tx) (c : UInt8) : Nat → Nat
  | 0 => 0
  | k + 1 => nearRow (l.getD k []) c (nearTo l c k) (l.getD k []).length
/-- What is known behind some bytes: a relation of what was seen. -/
def NearIn (S : Nat → Prop) (n : Nat) : Prop := (n = 0 ∧ ∀ i, ¬ S i) ∨ (0 < n ∧ S (n - 1) ∧ ∀ i, S i → n ≤ i + 1)
theorem nearIn_step {S : Nat → Prop} {a k : Nat} {b : Bool} (h : NearIn S a) : NearIn (fun i => S i ∨ (i = k ∧ b = true)) (nearStep a k b) := by
  unfold nearStep
  split
  · rename_i hc
    refine .inr ⟨by omega, .inr ⟨by omega, hc.1⟩, fun i hi => ?_⟩
    rcases hi with hi | ⟨rfl, _⟩
    · rcases h with ⟨h0, h1⟩ | ⟨h0, _, h2⟩
      · exact absurd hi (h1 i)
      · have := h2 i hi; omega
    · omega
  · rename_i hc
    rcases h with ⟨h0, h1⟩ | ⟨h0, h1, h2⟩
    · refine .inl ⟨h0, fun i hi => ?_⟩
      rcases hi with hi | ⟨rfl, hb⟩
      · exact h1 i hi
      · exact hc ⟨hb, .inl h0⟩
    · refine .inr ⟨h0, .inl h1, fun i hi => ?_⟩
      rcases hi with hi | ⟨rfl, hb⟩
      · exact h2 i hi
      · have : ¬ (a = 0 ∨ i + 1 < a) := fun h => hc ⟨hb, h⟩
        omega
theorem NearIn.congr {S T : Nat → Prop} {n : Nat} (h : NearIn S n) (e : ∀ i, S i ↔ T i) : NearIn T n := by
  rcases h with ⟨h0, h1⟩ | ⟨h0, h1, h2⟩
  · exact .inl ⟨h0, fun i hi => h1 i ((e i).2 hi)⟩
  · exact .inr ⟨h0, (e _).1 h1, fun i hi => h2 i ((e i).2 hi)⟩
theorem nearRow_in {S : Nat → Prop} {x : Tx} {c : UInt8} {a : Nat} (h : NearIn S a) : ∀ k, k ≤ x.length → NearIn (fun i => S i ∨ (i < k ∧ x[i]? = some c)) (nearRow x c a k)
  | 0, _ => h.congr fun i => ⟨fun h => .inl h, fun h => h.resolve_right fun h => by omega⟩
  | k + 1, hk => by
    refine (nearIn_step (nearRow_in h k (by omega))).congr fun i => ?_
    have g : (x.getD k 0 == c) = true ↔ x[k]? = some c := by
      rw [List.getD_eq_getElem?_getD, List.getElem?_eq_getElem (by omega)]
      simp
    constructor
    · rintro ((h | ⟨h1, h2⟩) | ⟨rfl, h⟩)
      · exact .inl h
      · exact .inr ⟨by omega, h2⟩
      · exact .inr ⟨by omega, g.1 h⟩
    · rintro (h | ⟨h1, h2⟩)
      · exact .inl (.inl h)
      · by_cases e : i = k
        · subst e; exact .inr ⟨rfl, g.2 h2⟩
        · exact .inl (.inr ⟨by omega, h2⟩)
theorem nearTo_in (l : List Tx) (c : UInt8) : ∀ k, k ≤ l.length → NearIn (fun i => ∃ j, j < k ∧ (l.getD j [])[i]? = some c) (nearTo l c k)
  | 0, _ => .inl ⟨rfl, fun i ⟨j, h, _⟩ => by omega⟩
  | k + 1, hk => by
    refine (nearRow_in (nearTo_in l c k (by omega)) _ (Nat.le_refl _)).congr fun i => ?_
    constructor
    · rintro (⟨j, h1, h2⟩ | ⟨_, h2⟩)
      · exact ⟨j, by omega, h2⟩
      · exact ⟨k, by omega, h2⟩
    · rintro ⟨j, h1, h2⟩
      by_cases e : j = k
      · subst e
        exact .inr ⟨(List.getElem?_eq_some_iff.1 h2).1, h2⟩
      · exact .inl ⟨j, by omega, h2⟩
theorem near_of_in {l : List Tx} {c : UInt8} {n : Nat} (h : NearIn (fun i => ∃ j, j < l.length ∧ (l.getD j [])[i]? = some c) n) : Near l c n := by
  have g : ∀ i (hi : i < l.length), l.getD i [] = l[i] := fun i hi => by rw [List.getD_eq_getElem?_getD, List.getElem?_eq_getElem hi]; rfl
  rcases h with ⟨h0, h1⟩ | ⟨h0, ⟨j, hj, h1⟩, h2⟩
  · refine .inl ⟨h0, fun x hx i hi => ?_⟩
    obtain ⟨j, hj, rfl⟩ := List.getElem_of_mem hx
    exact h1 i ⟨j, hj, by rw [g j hj]; exact hi⟩
  · refine .inr ⟨h0, ⟨l[j], List.getElem_mem hj, by rw [g j hj] at h1; exact h1⟩, fun x hx i hi => ?_⟩
    obtain ⟨j, hj, rfl⟩ := List.getElem_of_mem hx
    exact h2 i ⟨j, hj, by rw [g j hj]; exact hi⟩
/-- The document's number. -/
def nearOf (l : List Tx) (c : UInt8) : Nat := nearTo l c l.length
theorem nearOf_near (l : List Tx) (c : UInt8) : Near l c (nearOf l c) := near_of_in (nearTo_in l c _ (Nat.le_refl _))
theorem nearOf_is {l : List Tx} {c : UInt8} {n : Nat} (h : Near l c n) : nearOf l c = n := near_uniq (nearOf_near l c) h
/-- An end of a text is a path turned round. -/
theorem path_end {l : List Tx} {t : Tx} (h : t ∈ l) (n : Nat) : (t.drop n).reverse ∈ paths (turned l) := by
  rw [paths_mem]
  by_cases e : t.drop n = []
  · exact .inl (by rw [e]; rfl)
  · refine .inr ⟨t.reverse, (mem_turned l _).2 ⟨fun h0 => e ?_, by simpa using h⟩, (t.take n).reverse, ?_⟩
    · have : t = [] := by simpa using h0
      rw [this]; simp
    · rw [← List.reverse_append, List.take_append_drop]
/-- A path turned round is an end of a text, or nothing. -/
theorem end_path {l : List Tx} {p : Tx} (h : p ∈ paths (turned l)) : p = [] ∨ ∃ t ∈ l, t ≠ [] ∧ p.length ≤ t.length ∧ t.drop (t.length - p.length) = p.reverse := by
  rcases (paths_mem _ p).1 h with h0 | ⟨x, hx, q, e⟩
  · exact .inl h0
  · obtain ⟨h1, h2⟩ := (mem_turned l x).1 hx
    have hlen := congrArg List.length e
    rw [List.length_append] at hlen
    refine .inr ⟨x.reverse, h2, by simpa using h1, by rw [List.length_reverse]; omega, ?_⟩
    rw [← e, List.reverse_append, List.length_append, List.length_reverse, List.length_reverse, show q.length + p.length - p.length = q.length by omega]
    rw [List.drop_append_of_le_length (by simp), List.drop_of_length_le (by simp), List.nil_append]
/-- Whole ones are just the texts. -/
theorem whole_iff {l : List Tx} {p : Tx} : p ∈ turned l ↔ p.reverse ∈ l ∧ p.reverse ≠ [] := by
  rw [mem_turned]
  constructor
  · rintro ⟨h1, h2⟩; exact ⟨h2, by simpa using h1⟩
  · rintro ⟨h1, h2⟩; exact ⟨by simpa using h2, h1⟩
/-- How near a text's end: the same over the texts themselves. -/
theorem near_texts {l : List Tx} {c : UInt8} {n : Nat} (h : Near (turned l) c n) :
    (n = 0 ∧ ∀ s ∈ l, ∀ j, 1 ≤ j → j ≤ s.length → s[s.length - j]? ≠ some c) ∨
    (0 < n ∧ (∃ s ∈ l, n ≤ s.length ∧ s[s.length - n]? = some c) ∧ ∀ s ∈ l, ∀ j, 1 ≤ j → j ≤ s.length → s[s.length - j]? = some c → n ≤ j) := by
  have g : ∀ (s : Tx) (j : Nat), 1 ≤ j → j ≤ s.length → s.reverse[j - 1]? = s[s.length - j]? := fun s j h1 h2 => by
    rw [List.getElem?_reverse (by omega)]
    congr 1
    omega
  have m : ∀ (s : Tx), s ∈ l → ∀ j, 1 ≤ j → j ≤ s.length → s.reverse ∈ turned l := fun s hs j h1 h2 => (mem_turned l _).2 ⟨fun e => by
    have : s = [] := by simpa using e
    rw [this] at h2
    simp at h2
    omega, by simpa using hs⟩
  rcases h with ⟨h0, h1⟩ | ⟨h0, ⟨x, hx, h1⟩, h2⟩
  · refine .inl ⟨h0, fun s hs j hj1 hj2 e => ?_⟩
    exact h1 _ (m s hs j hj1 hj2) (j - 1) (by rw [g s j hj1 hj2]; exact e)
  · refine .inr ⟨h0, ⟨x.reverse, ((mem_turned l x).1 hx).2, ?_, ?_⟩, fun s hs j hj1 hj2 e => ?_⟩
    · have := (List.getElem?_eq_some_iff.1 h1).1
      rw [List.length_reverse]; omega
    · have hlt := (List.getElem?_eq_some_iff.1 h1).1
      rw [List.getElem?_reverse (by rw [List.length_reverse]; omega), List.length_reverse, ← h1]
      congr 1
      omega
    · have := h2 _ (m s hs j hj1 hj2) (j - 1) (by rw [g s j hj1 hj2]; exact e)
      omega
end Go.Proofs.YtcbhjhhajeeimaaGreat.Bck
