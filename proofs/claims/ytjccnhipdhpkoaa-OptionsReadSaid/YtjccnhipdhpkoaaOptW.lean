/- Mathematics of words: what stands between blanks, by bytes and by runes. -/
import Derived.Test.YtjccnhipdhpkoaaOptA1
import Derived.Lib.FieldsP
namespace Go.Proofs.Ytjccnhipdhpkoaa.Opt
open Go.Lib
set_option maxRecDepth 100000

/-- The words of a text, byte by byte. -/
def wgo (cur : Tx) : List Tx → Tx → List Tx
  | acc, [] => if cur = [] then acc else acc ++ [cur]
  | acc, c :: s => if c = 32 then (if cur = [] then wgo [] acc s else wgo [] (acc ++ [cur]) s) else wgo (cur ++ [c]) acc s
def wordsO (s : Tx) : List Tx := wgo [] [] s
theorem wgo_skip : ∀ (t : Tx) (cur : Tx) (acc : List Tx) (r : Tx), (∀ c ∈ t, c ≠ 32) → wgo cur acc (t ++ r) = wgo (cur ++ t) acc r
  | [], cur, acc, r, _ => by simp
  | c :: t, cur, acc, r, h => by
    have hc : c ≠ 32 := h c (by simp)
    rw [List.cons_append, wgo, if_neg hc, wgo_skip t _ acc r (fun x hx => h x (by simp [hx]))]
    simp
theorem wgo_acc : ∀ (s cur : Tx) (acc : List Tx), wgo cur acc s = acc ++ wgo cur [] s
  | [], cur, acc => by
    unfold wgo
    split <;> simp
  | c :: s, cur, acc => by
    unfold wgo
    split
    · split
      · exact wgo_acc s [] acc
      · rw [wgo_acc s [] (acc ++ [cur]), wgo_acc s [] ([] ++ [cur])]
        simp
    · exact wgo_acc s _ acc
/-- The options of words. -/
def outW (o : List Bool) (ws : List Tx) : List Bool := ws.foldl (fun o w => orL o (lettersIn w)) o
theorem go_words : ∀ (s cur : Tx) (o : List Bool) (b : Bool),
    (go ⟨cur, o, b⟩ (s ++ [32])).bad = (b || !(wgo cur [] s).all okW) ∧ ((wgo cur [] s).all okW = true → (go ⟨cur, o, b⟩ (s ++ [32])).out = outW o (wgo cur [] s))
  | [], cur, o, b => by
    by_cases hc : cur = []
    · subst hc; simp [go, step, close, wgo, outW]
    · by_cases ho : okW cur = true
      · simp [go, step, close, wgo, hc, ho, outW]
      · simp [go, step, close, wgo, hc, ho]
  | c :: s, cur, o, b => by
    have e : go ⟨cur, o, b⟩ ((c :: s) ++ [32]) = go (step ⟨cur, o, b⟩ c) (s ++ [32]) := rfl
    rw [e]
    by_cases h : c = 32
    · by_cases hc : cur = []
      · subst hc
        have e2 : step ⟨[], o, b⟩ c = ⟨[], o, b⟩ := by simp [step, close, h]
        rw [e2, show wgo [] [] (c :: s) = wgo [] [] s by simp [wgo, h]]
        exact go_words s [] o b
      · have e3 : wgo cur [] (c :: s) = cur :: wgo [] [] s := by
          rw [show wgo cur [] (c :: s) = wgo [] [cur] s by simp [wgo, h, hc], wgo_acc]
          rfl
        rw [e3]
        by_cases ho : okW cur = true
        · have e2 : step ⟨cur, o, b⟩ c = ⟨[], orL o (lettersIn cur), b⟩ := by simp [step, close, h, hc, ho]
          rw [e2]
          have ih := go_words s [] (orL o (lettersIn cur)) b
          simp only [List.all_cons, ho, Bool.true_and]
          exact ih
        · have e2 : step ⟨cur, o, b⟩ c = ⟨[], o, true⟩ := by simp [step, close, h, hc, ho]
          rw [e2]
          have ih := go_words s [] o true
          simp [ho, ih.1]
    · have e2 : step ⟨cur, o, b⟩ c = ⟨cur ++ [c], o, b⟩ := by simp [step, h]
      rw [e2, show wgo cur [] (c :: s) = wgo (cur ++ [c]) [] s by simp [wgo, h]]
      exact go_words s _ o b
theorem read_words (s : Tx) : readO s = if (wordsO s).all okW = true then some (outW none7 (wordsO s)) else none := by
  have h := go_words s [] none7 false
  unfold readO wordsO start
  rw [h.1]
  by_cases ha : (wgo [] [] s).all okW = true
  · rw [if_neg (by simp [ha]), if_pos ha, h.2 ha]
  · rw [if_pos (by simpa using ha), if_neg ha]

theorem dec_cont (n b0 b1 b2 b3 : Nat) (h : 128 ≤ b0) : (2 ≤ (decodeN n b0 b1 b2 b3).2 → 128 ≤ b1) ∧ (3 ≤ (decodeN n b0 b1 b2 b3).2 → 128 ≤ b2) ∧ (4 ≤ (decodeN n b0 b1 b2 b3).2 → 128 ≤ b3) ∧ (decodeN n b0 b1 b2 b3).2 ≤ 4 ∧ 128 ≤ (decodeN n b0 b1 b2 b3).1 := by
  unfold decodeN
  repeat' split
  all_goals (refine ⟨fun _ => ?_, fun _ => ?_, fun _ => ?_, ?_, ?_⟩ <;> simp_all <;> omega)
theorem get_list (s : ByteArray) (i : Nat) (h : i < s.size) : s.data.toList[i]? = some (s.get! i) := by
  have e : s.get! i = s.data[i]'(by exact h) := by
    show s.data[i]! = _
    rw [getElem!_pos s.data i h]
  rw [e, Array.getElem?_toList, Array.getElem?_eq_getElem]
theorem drop_cons (s : ByteArray) (i : Nat) (h : i < s.size) : s.data.toList.drop i = s.get! i :: s.data.toList.drop (i + 1) := by
  have hl : i < s.data.toList.length := by rw [Array.length_toList]; exact h
  rw [List.drop_eq_getElem_cons hl]
  congr 1
  have := get_list s i h
  rw [List.getElem?_eq_getElem hl] at this
  exact Option.some.inj this
/-- Where a rune stands: a byte below 128 is it; else all its bytes are 128 or above, and so is it. -/
theorem rune_at (s : ByteArray) (i : Nat) (h : i < s.size) : ((s.get! i).toNat < 128 ∧ Utf8.decode s i = ((s.get! i).toNat, 1)) ∨ (128 ≤ (Utf8.decode s i).1 ∧ ∀ c ∈ (s.data.toList.drop i).take (Utf8.decode s i).2, 128 ≤ c.toNat) := by
  by_cases h0 : (s.get! i).toNat < 128
  · left
    refine ⟨h0, ?_⟩
    rw [decode_at]
    unfold decodeN
    rw [if_pos h0]
  · right
    have hd := dec_cont (s.size - i) (s.get! i).toNat (s.get! (i + 1)).toNat (s.get! (i + 2)).toNat (s.get! (i + 3)).toNat (by omega)
    rw [← decode_at] at hd
    have hn : i + (Utf8.decode s i).2 ≤ s.size := by
      have := decodeN_le_n' (s.size - i) (s.get! i).toNat (s.get! (i + 1)).toNat (s.get! (i + 2)).toNat (s.get! (i + 3)).toNat (by omega)
      rw [← decode_at] at this
      omega
    obtain ⟨K, hK⟩ : ∃ K, (Utf8.decode s i).2 = K := ⟨_, rfl⟩
    rw [hK] at hd hn ⊢
    refine ⟨hd.2.2.2.2, fun c hc => ?_⟩
    obtain ⟨j, hj⟩ := List.mem_iff_getElem?.1 hc
    have hjK : j < K := by
      rcases Nat.lt_or_ge j K with h1 | h1
      · exact h1
      · rw [List.getElem?_eq_none (by rw [List.length_take]; omega)] at hj; cases hj
    rw [List.getElem?_take_of_lt hjK, List.getElem?_drop, get_list s (i + j) (by omega)] at hj
    obtain rfl := Option.some.inj hj
    have h4 := hd.2.2.2.1
    match j, hjK with
    | 0, _ => exact Nat.le_of_not_lt h0
    | 1, h1 => exact hd.1 (by omega)
    | 2, h1 => exact hd.2.1 (by omega)
    | 3, h1 => exact hd.2.2.1 (by omega)
    | n + 4, h1 => omega
theorem spans_words (s : ByteArray) : ∀ (f pos : Nat) (st : Option Nat) (acc : List (Nat × Nat)), s.size ≤ pos + f → pos ≤ s.size → (∀ a, st = some a → a < pos) →
    (closeSpans s (spansFromP (fun r => r == 32) s f pos st acc)).map (fun p => pieceU s.data.toList p.1 p.2) = wgo (openPiece s.data.toList st pos) (acc.map (fun p => pieceU s.data.toList p.1 p.2)) (s.data.toList.drop pos)
  | 0, pos, st, acc, h, hp, hst => by
    obtain rfl : pos = s.size := by omega
    have hd : s.data.toList.drop s.size = [] := List.drop_eq_nil_of_le (by rw [← size_eq]; exact Nat.le_refl _)
    rw [hd]
    cases st with
    | none => simp [spansFromP, closeSpans, openPiece, wgo]
    | some a =>
      have := pieceU_ne s.data.toList a s.size (hst a rfl) (by rw [← size_eq]; exact Nat.le_refl _)
      simp [spansFromP, closeSpans, openPiece, wgo, this]
  | f + 1, pos, st, acc, h, hp, hst => by
    by_cases hlt : pos < s.size
    · have hw := width_pos s pos
      have hwn : pos + (Utf8.decode s pos).2 ≤ s.size := by
        have := decodeN_le_n' (s.size - pos) (s.get! pos).toNat (s.get! (pos + 1)).toNat (s.get! (pos + 2)).toNat (s.get! (pos + 3)).toNat (by omega)
        rw [← decode_at] at this
        omega
      have hra := rune_at s pos hlt
      simp only [spansFromP, if_pos hlt]
      by_cases h32 : (Utf8.decode s pos).1 = 32
      · obtain ⟨h128, hdec⟩ : (s.get! pos).toNat < 128 ∧ Utf8.decode s pos = ((s.get! pos).toNat, 1) := by
          rcases hra with h1 | h1
          · exact h1
          · omega
        have hc : s.get! pos = 32 := by
          apply UInt8.toNat_inj.1
          rw [hdec] at h32
          exact h32
        rw [drop_cons s pos hlt, hc]
        rw [hdec] at hwn ⊢
        have h32' : (s.get! pos).toNat = 32 := by rw [hc]; rfl
        simp only [h32', beq_self_eq_true, if_true]
        cases st with
        | none =>
          rw [spans_words s f (pos + 1) none acc (by omega) hwn (fun a h => by cases h)]
          simp [openPiece, wgo]
        | some a =>
          have hpn := pieceU_ne s.data.toList a pos (hst a rfl) (by rw [← size_eq]; omega)
          rw [spans_words s f (pos + 1) none (acc ++ [(a, pos)]) (by omega) hwn (fun a h => by cases h)]
          simp [openPiece, wgo, hpn]
      · have hpf : ((Utf8.decode s pos).1 == 32) = false := by simp [h32]
        simp only [hpf, Bool.false_eq_true, if_false]
        have hno : ∀ c ∈ (s.data.toList.drop pos).take (Utf8.decode s pos).2, c ≠ 32 := by
          intro c hc e
          subst e
          rcases hra with ⟨h1, h2⟩ | ⟨_, h2⟩
          · rw [h2, drop_cons s pos hlt] at hc
            simp at hc
            rw [h2] at h32
            exact h32 (by rw [← hc]; rfl)
          · have := h2 _ hc
            revert this; decide
        have hsplit : s.data.toList.drop pos = (s.data.toList.drop pos).take (Utf8.decode s pos).2 ++ s.data.toList.drop (pos + (Utf8.decode s pos).2) := by
          rw [← List.drop_drop, List.take_append_drop]
        rw [hsplit, wgo_skip _ _ _ _ hno]
        cases st with
        | none =>
          rw [spans_words s f (pos + (Utf8.decode s pos).2) (some pos) acc (by omega) hwn (fun a h => by cases h; omega)]
          congr 1
          simp only [openPiece, List.nil_append]
          unfold pieceU
          rw [Nat.add_sub_cancel_left]
        | some a =>
          rw [spans_words s f (pos + (Utf8.decode s pos).2) (some a) acc (by omega) hwn (fun b h => by cases h; have := hst a rfl; omega)]
          congr 1
          simp only [openPiece]
          rw [pieceU_grow _ _ _ _ (Nat.le_of_lt (hst a rfl))]
    · obtain rfl : pos = s.size := by omega
      have hd : s.data.toList.drop s.size = [] := List.drop_eq_nil_of_le (by rw [← size_eq]; exact Nat.le_refl _)
      rw [hd, spansFromP_end _ s _ _ _ _ hlt]
      cases st with
      | none => simp [closeSpans, openPiece, wgo]
      | some a =>
        have := pieceU_ne s.data.toList a s.size (hst a rfl) (by rw [← size_eq]; exact Nat.le_refl _)
        simp [closeSpans, openPiece, wgo, this]
theorem fields_words (s : Tx) : goFieldsP (fun r => r == 32) (str s) = (wordsO s).map str := by
  have h := spans_words (str s) (str s).size 0 none [] (by omega) (Nat.zero_le _) (fun a h => by cases h)
  have e : (str s).data.toList = s := rfl
  rw [e] at h
  simp only [openPiece, List.map_nil, List.drop_zero] at h
  unfold goFieldsP spansOfP wordsO
  rw [← h, List.map_map]
  apply List.map_congr_left
  intro p _
  apply ByteArray.ext
  rw [ByteArray.data_extract]
  simp [str, pieceU, List.extract_eq_take_drop]
end Go.Proofs.Ytjccnhipdhpkoaa.Opt
