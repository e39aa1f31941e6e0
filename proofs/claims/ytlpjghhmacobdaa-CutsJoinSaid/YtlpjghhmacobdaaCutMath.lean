/- Mathematics of stage 19: places where a text is cut, and its pieces. -/
import Derived.Test.YtlpjghhmacobdaaGB
namespace Go.Proofs.Ytlpjghhmacobdaa.Cts
set_option maxRecDepth 100000
abbrev Tx := List UInt8
/-- A cut's place: no less than the one ahead, and then no more than n. -/
def place1 (n last : Nat) (c : Int) : Nat := min (max c.toNat last) n
theorem place1_low {n last : Nat} {c : Int} (h : c < (last : Int)) (hn : last ≤ n) : place1 n last c = last := by unfold place1; omega
theorem place1_high {n last : Nat} {c : Int} (h : (last : Int) ≤ c) (hn : (n : Int) < c) : place1 n last c = n := by unfold place1; omega
theorem place1_same {n last : Nat} {c : Int} (h : (last : Int) ≤ c) (hn : c ≤ (n : Int)) : (place1 n last c : Int) = c := by unfold place1; omega
theorem place1_le (n last : Nat) (c : Int) : place1 n last c ≤ n := by unfold place1; omega
theorem place1_ge {n last : Nat} (hn : last ≤ n) (c : Int) : last ≤ place1 n last c := by unfold place1; omega
/-- As the document's loop has it: first no less, then no more. -/
theorem place1_step {n last : Nat} (hn : last ≤ n) (c : Int) : (place1 n last c : Int) = if (n : Int) < (if c < (last : Int) then (last : Int) else c) then (n : Int) else if c < (last : Int) then (last : Int) else c := by
  unfold place1
  split <;> split at * <;> omega
/-- The place ahead of the next one. -/
def lastOf (n last : Nat) (l : List Int) : Nat := l.foldl (place1 n) last
def placesFrom (n : Nat) : Nat → List Int → List Nat
  | _, [] => []
  | last, c :: l => place1 n last c :: placesFrom n (place1 n last c) l
/-- All places. -/
def places (n : Nat) (l : List Int) : List Nat := placesFrom n 0 l
theorem lastOf_snoc (n last : Nat) (l : List Int) (c : Int) : lastOf n last (l ++ [c]) = place1 n (lastOf n last l) c := by
  unfold lastOf; rw [List.foldl_append]; rfl
theorem lastOf_le {n : Nat} : ∀ (l : List Int) (last : Nat), last ≤ n → lastOf n last l ≤ n
  | [], _, h => h
  | c :: l, last, _ => lastOf_le l (place1 n last c) (place1_le n last c)
theorem placesFrom_len (n : Nat) : ∀ (l : List Int) (last : Nat), (placesFrom n last l).length = l.length
  | [], _ => rfl
  | c :: l, last => by rw [placesFrom, List.length_cons, placesFrom_len n l, List.length_cons]
theorem placesFrom_snoc (n : Nat) (c : Int) : ∀ (l : List Int) (last : Nat), placesFrom n last (l ++ [c]) = placesFrom n last l ++ [place1 n (lastOf n last l) c]
  | [], _ => rfl
  | d :: l, last => by
    rw [List.cons_append, placesFrom, placesFrom_snoc n c l, placesFrom]
    rfl
theorem places_len (n : Nat) (l : List Int) : (places n l).length = l.length := placesFrom_len n l 0
/-- Places that rise, from one on, within the text. -/
def Up (n : Nat) : Nat → List Nat → Prop
  | last, [] => last ≤ n
  | last, p :: ps => last ≤ p ∧ Up n p ps
theorem up_places {n : Nat} : ∀ (l : List Int) (last : Nat), last ≤ n → Up n last (placesFrom n last l)
  | [], _, h => h
  | c :: l, last, h => ⟨place1_ge h c, up_places l (place1 n last c) (place1_le n last c)⟩
theorem Up.le {n : Nat} : ∀ {ps : List Nat} {last : Nat}, Up n last ps → last ≤ n
  | [], _, h => h
  | _ :: _, _, h => Nat.le_trans h.1 (Up.le h.2)
/-- Cut again they are the same. -/
theorem places_again {n : Nat} : ∀ {ps : List Nat} {last : Nat}, Up n last ps → placesFrom n last (ps.map fun (p : Nat) => (p : Int)) = ps
  | [], _, _ => rfl
  | p :: ps, last, h => by
    have e : place1 n last (p : Int) = p := by
      have := place1_same (n := n) (last := last) (c := (p : Int)) (by have := h.1; omega) (by have := Up.le h.2; omega)
      omega
    rw [List.map_cons, placesFrom, e, places_again h.2]
theorem lastOf_take (n : Nat) (l : List Int) (k : Nat) (hk : k < l.length) : lastOf n 0 (l.take (k + 1)) = place1 n (lastOf n 0 (l.take k)) l[k] := by
  rw [List.take_add_one, List.getElem?_eq_getElem hk]
  exact lastOf_snoc n 0 _ _
theorem places_take (n : Nat) (l : List Int) (k : Nat) (hk : k < l.length) : places n (l.take (k + 1)) = places n (l.take k) ++ [place1 n (lastOf n 0 (l.take k)) l[k]] := by
  rw [List.take_add_one, List.getElem?_eq_getElem hk]
  exact placesFrom_snoc n _ _ 0
theorem places_at (n : Nat) : ∀ (l : List Int) (last k : Nat) (hk : k < l.length), (placesFrom n last l)[k]'(by rw [placesFrom_len]; exact hk) = place1 n (lastOf n last (l.take k)) l[k]
  | c :: l, last, 0, _ => rfl
  | c :: l, last, k + 1, hk => by
    have := places_at n l (place1 n last c) k (by simpa using hk)
    simpa [placesFrom, lastOf] using this
/-- The pieces ahead of the last one. -/
def mids (t : Tx) : Nat → List Nat → List Tx
  | _, [] => []
  | last, p :: ps => (t.drop last).take (p - last) :: mids t p ps
def lastP (last : Nat) (ps : List Nat) : Nat := ps.foldl (fun _ p => p) last
theorem lastP_snoc (last : Nat) (ps : List Nat) (p : Nat) : lastP last (ps ++ [p]) = p := by
  unfold lastP; rw [List.foldl_append]; rfl
theorem lastP_places (n : Nat) : ∀ (l : List Int) (last : Nat), lastP last (placesFrom n last l) = lastOf n last l
  | [], _ => rfl
  | c :: l, last => lastP_places n l (place1 n last c)
theorem mids_snoc (t : Tx) (p : Nat) : ∀ (ps : List Nat) (last : Nat), mids t last (ps ++ [p]) = mids t last ps ++ [(t.drop (lastP last ps)).take (p - lastP last ps)]
  | [], _ => rfl
  | q :: ps, last => by
    rw [List.cons_append, mids, mids_snoc t p ps q, mids]
    rfl
theorem mids_len (t : Tx) : ∀ (ps : List Nat) (last : Nat), (mids t last ps).length = ps.length
  | [], _ => rfl
  | q :: ps, last => by rw [mids, List.length_cons, mids_len t ps q, List.length_cons]
/-- All pieces. -/
def pieces (t : Tx) (l : List Int) : List Tx := mids t 0 (places t.length l) ++ [t.drop (lastOf t.length 0 l)]
theorem pieces_len (t : Tx) (l : List Int) : (pieces t l).length = l.length + 1 := by
  rw [pieces, List.length_append, mids_len, places_len]; rfl
theorem mids_join (t : Tx) : ∀ (ps : List Nat) (last : Nat), Up t.length last ps → (mids t last ps).flatten ++ t.drop (lastP last ps) = t.drop last
  | [], _, _ => rfl
  | p :: ps, last, h => by
    have e := mids_join t ps p h.2
    rw [mids, List.flatten_cons, List.append_assoc]
    show _ ++ ((mids t p ps).flatten ++ t.drop (lastP p ps)) = _
    rw [e]
    have h2 : t.drop p = (t.drop last).drop (p - last) := by
      rw [List.drop_drop]
      congr 1
      have := h.1
      omega
    rw [h2, List.take_append_drop]
/-- One behind the other they are the text. -/
theorem pieces_join (t : Tx) (l : List Int) : (pieces t l).flatten = t := by
  have h := mids_join t (places t.length l) 0 (up_places l 0 (Nat.zero_le _))
  have e : lastP 0 (places t.length l) = lastOf t.length 0 l := lastP_places t.length l 0
  rw [e, List.drop_zero] at h
  rw [pieces, List.flatten_append, List.flatten_cons, List.flatten_nil, List.append_nil]
  exact h
/-- So many bytes, and so many, and the rest. -/
def chunks (n : Nat) : Nat → Tx → List Tx
  | 0, _ => []
  | f + 1, t => if t = [] then [] else t.take n :: chunks n f (t.drop n)
/-- All of them. -/
def each (t : Tx) (n : Int) : List Tx := if t = [] then [] else if n < 1 then [t] else chunks n.toNat t.length t
theorem chunks_join {n : Nat} (hn : 1 ≤ n) : ∀ (f : Nat) (t : Tx), t.length ≤ f → (chunks n f t).flatten = t
  | 0, t, h => by rw [List.eq_nil_of_length_eq_zero (show t.length = 0 by omega)]; rfl
  | f + 1, t, h => by
    rw [chunks]
    split
    · rename_i e; rw [e]; rfl
    · rename_i e
      have hp := List.length_pos_iff.2 e
      rw [List.flatten_cons, chunks_join hn f (t.drop n) (by rw [List.length_drop]; omega), List.take_append_drop]
theorem chunks_len {n : Nat} (hn : 1 ≤ n) : ∀ (f : Nat) (t : Tx), t.length ≤ f → ∀ i (h : i < (chunks n f t).length), 0 < (chunks n f t)[i].length ∧ (chunks n f t)[i].length ≤ n ∧ (i + 1 < (chunks n f t).length → (chunks n f t)[i].length = n)
  | 0, t, h, i, hi => absurd hi (by simp [chunks])
  | f + 1, t, h, i, hi => by
    by_cases e : t = []
    · simp [chunks, e] at hi
    · have hp := List.length_pos_iff.2 e
      have hc : chunks n (f + 1) t = t.take n :: chunks n f (t.drop n) := by rw [chunks, if_neg e]
      have ih := chunks_len hn f (t.drop n) (by rw [List.length_drop]; omega)
      simp only [hc] at hi ⊢
      cases i with
      | zero =>
        refine ⟨by simp; omega, by simp; omega, fun h1 => ?_⟩
        rw [List.getElem_cons_zero, List.length_take]
        by_cases hl : n ≤ t.length
        · omega
        · exfalso
          have : t.drop n = [] := List.drop_of_length_le (by omega)
          rw [this] at h1
          cases f <;> simp [chunks] at h1
      | succ i =>
        have hi2 : i < (chunks n f (t.drop n)).length := by simpa using hi
        have := ih i hi2
        refine ⟨by simpa using this.1, by simpa using this.2.1, fun h1 => ?_⟩
        have := this.2.2 (by simpa using h1)
        simpa using this
theorem each_join (t : Tx) (n : Int) : (each t n).flatten = t := by
  unfold each
  split
  · rename_i e; rw [e]; rfl
  · split
    · simp
    · exact chunks_join (by omega) _ t (Nat.le_refl _)
end Go.Proofs.Ytlpjghhmacobdaa.Cts
