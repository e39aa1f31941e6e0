/- Mathematics of stage 21: options, as texts, and as numbers. -/
import Derived.Test.YtjccnhipdhpkoaaGB
namespace Go.Proofs.Ytjccnhipdhpkoaa.Opt
set_option maxRecDepth 100000
abbrev Tx := List UInt8
/-- i w x o b v c. -/
def letters : Tx := [105, 119, 120, 111, 98, 118, 99]
/-- Is a word one of options? -/
def okW : Tx → Bool
  | d :: c :: r => d == 45 && (c :: r).all fun x => letters.contains x
  | _ => false
def lettersIn (w : Tx) : List Bool := letters.map fun c => w.contains c
def orL (a b : List Bool) : List Bool := List.zipWith (· || ·) a b
def none7 : List Bool := [false, false, false, false, false, false, false]
theorem orL_len {a b : List Bool} (ha : a.length = 7) (hb : b.length = 7) : (orL a b).length = 7 := by simp [orL, ha, hb]
theorem orL_assoc : ∀ (a b c : List Bool), orL (orL a b) c = orL a (orL b c)
  | [], _, _ => by simp [orL]
  | _ :: _, [], _ => by simp [orL]
  | _ :: _, _ :: _, [] => by simp [orL]
  | x :: a, y :: b, z :: c => by
    have := orL_assoc a b c
    simp only [orL, List.zipWith_cons_cons, Bool.or_assoc] at this ⊢
    rw [this]
theorem orL_none {a : List Bool} (h : a.length = 7) : orL a none7 = a := by
  match a, h with
  | [_, _, _, _, _, _, _], _ => simp [orL, none7]
theorem none_orL {a : List Bool} (h : a.length = 7) : orL none7 a = a := by
  match a, h with
  | [_, _, _, _, _, _, _], _ => simp [orL, none7]
/-- What is read so far: a word that is begun, the options, and whether a word was none. -/
structure RS where
  word : Tx
  out : List Bool
  bad : Bool
def close (r : RS) : RS := if r.word = [] then r else if okW r.word then ⟨[], orL r.out (lettersIn r.word), r.bad⟩ else ⟨[], r.out, true⟩
def step (r : RS) (c : UInt8) : RS := if c = 32 then close r else ⟨r.word ++ [c], r.out, r.bad⟩
def go (r : RS) (s : Tx) : RS := s.foldl step r
theorem go_append (r : RS) (s t : Tx) : go r (s ++ t) = go (go r s) t := by unfold go; rw [List.foldl_append]
theorem close_word (r : RS) : (close r).word = [] := by
  unfold close
  split
  · assumption
  · split <;> rfl
theorem go_blank (r : RS) (s : Tx) : (go r (s ++ [32])).word = [] := by
  rw [go_append]
  exact close_word _
theorem lettersIn_len (w : Tx) : (lettersIn w).length = 7 := by simp [lettersIn, letters]
theorem step_len {r : RS} (h : r.out.length = 7) (c : UInt8) : (step r c).out.length = 7 := by
  unfold step close
  split
  · split
    · exact h
    · split
      · exact orL_len h (lettersIn_len _)
      · exact h
  · exact h
theorem go_len : ∀ (s : Tx) (r : RS), r.out.length = 7 → (go r s).out.length = 7
  | [], _, h => h
  | c :: s, r, h => go_len s (step r c) (step_len h c)
/-- Options that were there stay, and join. -/
def plus (o : List Bool) (b : Bool) (r : RS) : RS := ⟨r.word, orL o r.out, b || r.bad⟩
theorem step_plus (o : List Bool) (b : Bool) (r : RS) (c : UInt8) : step (plus o b r) c = plus o b (step r c) := by
  unfold step
  by_cases h : c = 32
  · rw [if_pos h, if_pos h]
    unfold close plus
    by_cases hw : r.word = []
    · simp [hw]
    · by_cases ho : okW r.word = true
      · simp [hw, ho, orL_assoc]
      · simp [hw, ho]
  · rw [if_neg h, if_neg h]; rfl
theorem go_plus (o : List Bool) (b : Bool) : ∀ (s : Tx) (r : RS), go (plus o b r) s = plus o b (go r s)
  | [], _ => rfl
  | c :: s, r => by
    show go (step (plus o b r) c) s = plus o b (go (step r c) s)
    rw [step_plus, go_plus o b s]
def start : RS := ⟨[], none7, false⟩
theorem as_plus {r : RS} (hw : r.word = []) (hl : r.out.length = 7) : r = plus r.out r.bad start := by
  unfold plus start
  rw [orL_none hl, Bool.or_false, ← hw]
/-- The options of a text, or none. -/
def readO (s : Tx) : Option (List Bool) := if (go start (s ++ [32])).bad then none else some (go start (s ++ [32])).out
/-- Two texts with blanks between. -/
theorem go_join (s t : Tx) : go start (s ++ [32, 32] ++ t ++ [32] ++ [32]) = plus (go start (s ++ [32])).out (go start (s ++ [32])).bad (go start (t ++ [32])) := by
  have h1 : go start (s ++ [32, 32] ++ t ++ [32] ++ [32]) = go (go (go start (s ++ [32])) [32]) (t ++ [32] ++ [32]) := by
    rw [← go_append, ← go_append]
    congr 1
    simp
  have hb : ∀ r : RS, r.word = [] → go r [32] = r := fun r hr => by
    show step r 32 = r
    unfold step close
    rw [if_pos rfl, if_pos hr]
  rw [h1, hb _ (go_blank _ _), go_append _ (t ++ [32])]
  have hp := as_plus (go_blank start s) (go_len (s ++ [32]) start rfl)
  rw [hp, go_plus]
  have h2 : (plus (go start (s ++ [32])).out (go start (s ++ [32])).bad (go start (t ++ [32]))).word = [] := go_blank start t
  rw [hb _ h2, ← hp]
theorem read_join (s t : Tx) : readO (s ++ [32, 32] ++ t ++ [32]) = match readO s, readO t with | some a, some b => some (orL a b) | _, _ => none := by
  unfold readO
  rw [go_join]
  unfold plus
  cases (go start (s ++ [32])).bad <;> cases (go start (t ++ [32])).bad <;> simp
/-- The text of options. -/
def showO (o : List Bool) : Tx :=
  let l := ((letters.zip o).filter fun p => p.2).map fun p => p.1
  if l = [] then [] else 45 :: l
theorem read_show : ∀ a b c d e f g : Bool, readO (showO [a, b, c, d, e, f, g]) = some [a, b, c, d, e, f, g] := by decide +kernel
/-- Their number. -/
def bitsO (o : List Bool) : Nat := o.foldr (fun b n => (if b then 1 else 0) + 2 * n) 0
def ofO (n : Nat) : List Bool := (List.range 7).map fun k => decide (n / 2 ^ k % 2 = 1)
theorem of_bits : ∀ a b c d e f g : Bool, ofO (bitsO [a, b, c, d, e, f, g]) = [a, b, c, d, e, f, g] := by decide +kernel
theorem bits_of : ∀ n : Fin 256, bitsO (ofO n.val) = n.val % 128 := by decide +kernel
theorem of_mod : ∀ n : Fin 256, ofO n.val = ofO (n.val % 128) := by decide +kernel
theorem bits_lt : ∀ a b c d e f g : Bool, bitsO [a, b, c, d, e, f, g] < 128 := by decide +kernel
/-- Do they not go together? -/
def badO (o : List Bool) : Bool := (o.getD 3 false && o.getD 5 false) || (o.getD 3 false && o.getD 6 false) || (o.getD 4 false && o.getD 6 false)
/-- Without one of them they still do. -/
theorem bad_less : ∀ (a b c d e f g : Bool) (k : Fin 7), badO ([a, b, c, d, e, f, g].set k.val false) = true → badO [a, b, c, d, e, f, g] = true := by decide +kernel
theorem bad_one : ∀ k : Fin 7, badO (none7.set k.val true) = false := by decide +kernel
theorem bad_without : ∀ a b c e f : Bool, badO [a, b, c, false, e, f, false] = false := by decide +kernel
end Go.Proofs.Ytjccnhipdhpkoaa.Opt
