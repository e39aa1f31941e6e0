/- Lines of all bytes, beside a stream. -/
import Derived.Test.YtcekifknbljbiaaStrC4
import Derived.Test.YtcekifknbljbiaaWg
namespace Go.Proofs.Ytcekifknbljbiaa.Str
open Go.Proofs.Ytcekifknbljbiaa.Stm Go.Proofs.Ytcekifknbljbiaa.Reg Go.RowKit Go.Maps
set_option maxRecDepth 100000
set_option linter.unusedVariables false

theorem split_ls (t : Tx) (a : Option Addr) (cap n : Nat) (w : World) (hn : t.length = n) (ht : t.length ≤ 1000000000) (hb : Bs w w.heap.size a t) :
    Calls Try.prog 24 #[.slice a n cap] w fun e w' => ∃ a1 c1, ∃ xs : List LnV, e = .returned (.slice a1 xs.length c1) ∧ xs.map LnV.ln = linesOf t ∧ Ls w' a1 xs ∧ Below w.heap.size w w' := by
  subst hn
  refine (split_any t a cap w ht hb).mono ?_
  rintro e w1 ⟨v, xs, rfl, hm, hown, htx, hbel⟩
  obtain ⟨a1, c1, rfl, hc, hls⟩ := own_ls hown htx
  exact ⟨a1, c1, xs, rfl, hm, hls, hbel⟩
theorem tw_lt {α : Type} (p : α → Bool) : ∀ (l : List α) (k : Nat) (h : k < (l.takeWhile p).length) (hk : k < l.length), p l[k] = true
  | [], k, h, _ => by simp at h
  | x :: l, k, h, hk => by
    rw [List.takeWhile_cons] at h
    by_cases hp : p x = true
    · rw [if_pos hp, List.length_cons] at h
      cases k with
      | zero => exact hp
      | succ k => exact tw_lt p l k (by omega) (by simpa using hk)
    · rw [if_neg hp] at h; simp at h
theorem tw_at {α : Type} (p : α → Bool) : ∀ (l : List α) (h : (l.takeWhile p).length < l.length), p l[(l.takeWhile p).length] = false
  | [], h => by simp at h
  | x :: l, h => by
    by_cases hp : p x = true
    · have e : (x :: l).takeWhile p = x :: l.takeWhile p := by rw [List.takeWhile_cons, if_pos hp]
      have h' : (l.takeWhile p).length < l.length := by rw [e] at h; simpa using h
      have := tw_at p l h'
      simp only [e, List.length_cons, List.getElem_cons_succ]
      exact this
    · have e : (x :: l).takeWhile p = [] := by rw [List.takeWhile_cons, if_neg hp]
      simp only [e, List.length_nil, List.getElem_cons_zero]
      exact Bool.eq_false_iff.2 hp
/-- A stream fails just if a line is too long. -/
theorem cap_facts (M : Nat) (l : List Tx) : ∃ K, K ≤ (linesOf l.flatten).length ∧ (∀ k (h : k < (linesOf l.flatten).length), k < K → (linesOf l.flatten)[k].text.length ≤ M) ∧ (∀ h : K < (linesOf l.flatten).length, ¬ (linesOf l.flatten)[K].text.length ≤ M) ∧
    (runs (stNew M) l).2.length = K ∧ (K = (linesOf l.flatten).length → errOf (runs (stNew M) l).1 = 0 ∧ badNum (runs (stNew M) l).1 = 0) ∧ (K < (linesOf l.flatten).length → errOf (runs (stNew M) l).1 = 15 ∧ badNum (runs (stNew M) l).1 = (K : Int)) := by
  obtain ⟨h1, h2, _, h4⟩ := runs_new M l
  rw [h1]
  unfold errOf badNum linesOf
  rw [h2]
  generalize l.flatten = t at *
  cases hf : fails M [] t with
  | false =>
    have hl := fails_long M t 0 [] (Nat.zero_le _) hf
    rw [full_lines M t 0 0 [] hf, numb_len]
    refine ⟨_, Nat.le_refl _, fun k h _ => hl _ (List.getElem_mem h), fun h => absurd h (Nat.lt_irrefl _), rfl, fun _ => ⟨rfl, rfl⟩, fun h => absurd h (Nat.lt_irrefl _)⟩
  | true =>
    obtain ⟨q1, q2, q3⟩ := told_cap M t 0 0 [] (Nat.zero_le _) hf
    refine ⟨((goes 0 [] t).takeWhile fun x => decide (x.text.length ≤ M)).length, Nat.le_of_lt q3, fun k h hk => ?_, fun h => ?_, ?_, fun e => by omega, fun _ => ⟨rfl, ?_⟩⟩
    · exact of_decide_eq_true (tw_lt (fun x : Ln => decide (x.text.length ≤ M)) _ k hk h)
    · exact of_decide_eq_false (tw_at (fun x : Ln => decide (x.text.length ≤ M)) _ h)
    · rw [full, hf, q1]
      simp [numb_len]
    · rw [if_pos rfl, h4 hf, q2]
      simp
theorem field_hu (a b c d : Int) (w : World) : (Instr.field 44 (.agg #[.int .i64 a, .int .i64 b, .int .i64 c, .int .i64 d]) 2).run Try.prog w = .ok (.int .i64 c) w := by
  simp [Instr.field, asAgg, go_sem]
theorem field_mo (a b c d : Int) (w : World) : (Instr.field 44 (.agg #[.int .i64 a, .int .i64 b, .int .i64 c, .int .i64 d]) 3).run Try.prog w = .ok (.int .i64 d) w := by
  simp [Instr.field, asAgg, go_sem]
/-- What is newer has changed. -/
theorem Sm.newer {W0 W W' : World} {p g : Nat} {mp : Option Addr} {d : Option Nat} {s : St} (h : Sm W0 W p mp g d s) {X : Nat → Prop} (hc : Ch W W' X) (N : Nat) (hN : ∀ k, Str.Own p g d mp k → k < N) (hX : ∀ k, X k → N ≤ k) (hW : W0.heap.size ≤ N) : Sm W0 W' p mp g d s :=
  h.ch hc (fun k e => ⟨by have := hX k e; omega, fun ho => by have := hX k e; have := hN k ho; omega⟩)
theorem whole_new (t : Tx) : (((stNew t.length).feed (t ++ [10])).1.hunt = t.length + 1) ∧ ((stNew t.length).feed (t ++ [10])).1.w.move = 0 := by
  have e : (stNew t.length).feed (t ++ [10]) = (stNew t.length).go [] (t ++ [10]) := by rw [St.feed]; rfl
  rw [e]
  obtain ⟨_, q2, _⟩ := go_is (t ++ [10]) (stNew t.length) []
  have hf : fails t.length [] (t ++ [10]) = false := by
    rw [fails_append, short_fails t.length t [] (by simp)]
    simp [fails]
  refine ⟨?_, ?_⟩
  · rw [q2]
    show 0 + reads t.length [] (t ++ [10]) = _
    rw [reads_all _ _ _ hf]
    simp
  · rw [go_whole t (stNew t.length) [] rfl]
    rfl
/-- One byte, and then none. -/
theorem byte_feed {s : St} {n : Nat} (h : WInv n s.w) (ho : s.over = false) (c : UInt8) (hm : s.w.held.length + 1 ≤ s.most) :
    WInv (n + if c = 10 then 0 else 1) (s.feed [c]).1.w ∧ (s.feed [c]).1.over = false ∧ (s.feed [c]).1.most = s.most ∧ (s.feed [c]).1.hunt = s.hunt + 1 := by
  have e : s.feed [c] = s.go [] [c] := by rw [St.feed, ho]; rfl
  have hf : fails s.most (s.w.held ++ []) [c] = false := by
    rw [List.append_nil, fails]
    split
    · rfl
    · rw [if_neg (by omega)]; rfl
  obtain ⟨_, q2, q3, _, _, _, q7⟩ := go_is [c] s []
  refine ⟨byte_inv h ho c hm, ?_, ?_, ?_⟩
  · rw [e, (q7 hf).1]; exact ho
  · rw [e]; exact q3
  · rw [e, q2, reads_all _ _ _ hf]; rfl
theorem feed_nil (s : St) : (s.feed []).1 = s := by
  rw [St.feed]
  split
  · rfl
  · rw [St.go]
    have : s.w.add [] = s.w := if_pos rfl
    simp only [this]
def bareTo (t : Tx) (k : Nat) : Nat := ((t.take k).filter fun c => decide (c ≠ 10)).length
theorem bare_succ (t : Tx) (k : Nat) (h : k < t.length) : bareTo t (k + 1) = bareTo t k + if t[k] = 10 then 0 else 1 := by
  unfold bareTo
  rw [List.take_succ_eq_append_getElem h, List.filter_append, List.length_append]
  by_cases e : t[k] = 10
  · simp [e]
  · simp [e]
theorem bare_le (t : Tx) (k : Nat) : bareTo t k ≤ k := by
  unfold bareTo
  exact Nat.le_trans (List.length_filter_le _ _) (by simp; omega)
/-- Bytes that were there ahead of a new stream. -/
theorem new_bx {W W' : World} {p g : Nat} {mp a : Option Addr} {b : Tx} (hb : Bs W W.heap.size a b) (hW : Below W.heap.size W W') (hp : W.heap.size ≤ p) (hg : W.heap.size ≤ g) (hm : ∀ k, Met.blk mp = some k → W.heap.size ≤ k) : Bx W' p g none mp a b := by
  refine ⟨(hb.keep hW).more hW.size, fun h0 ad e ho => ?_⟩
  have h1 := bs_at hb h0 e
  rcases ho with h | h | h | h
  · omega
  · omega
  · cases h
  · have := hm _ h; omega
theorem own_lt2 {W : World} {base base2 : Nat} {v : Value} {xs : List SlV} (h : W.ownsRow base 47 3 v xs.length (xs.flatMap scells)) (ht : ∀ x ∈ xs, Txt W base2 x.a x.sl.text) :
    ∃ a cap, v = .slice a xs.length cap ∧ Lt W a xs ∧ (∀ ad : Addr, a = some ad → base ≤ ad.block) ∧ ∀ x ∈ xs, 0 < x.sl.text.length → ∀ ad : Addr, x.a = some ad → base2 ≤ ad.block := by
  obtain ⟨a, cap, rfl, hl⟩ := own_lt h ht
  refine ⟨a, cap, rfl, hl, fun ad e => ?_, fun x hx h0 ad e => ?_⟩
  · subst e
    exact (own_block_lt h rfl).1
  · obtain ⟨k, cs, e2, hk, _⟩ := ht x hx h0
    rw [e2] at e; cases e
    exact hk
/-- Which blocks a new stream has. -/
theorem own_two {p g k : Nat} (h : Str.Own p g none none k) : k = p ∨ k = g := by
  rcases h with h | h | h | h
  · exact .inl h
  · exact .inr h
  · cases h
  · cases h
theorem own_none {p g k : Nat} {mp : Option Addr} (h : Str.Own p g none mp k) : k = p ∨ k = g ∨ Met.blk mp = some k := by
  rcases h with h | h | h | h
  · exact .inl h
  · exact .inr (.inl h)
  · cases h
  · exact .inr (.inr h)
/-- Each line stands in all bytes where it is told to begin. -/
def Chain (M : Nat) (b : Tx) : Nat → Nat → List Sl → Prop
  | _, _, [] => True
  | i, at', x :: F => x.num = i ∧ x.off = at' ∧ x.text.length ≤ M ∧ at' + x.text.length ≤ b.length ∧ (b.drop at').take x.text.length = x.text ∧ (at' + x.text.length + 1 ≤ b.length → b[at' + x.text.length]? = some 10) ∧ Chain M b (i + 1) (at' + x.text.length + 1) F
def endAt : Nat → List Sl → Nat
  | n, [] => n
  | n, x :: F => endAt (n + x.text.length + 1) F
theorem endAt_take : ∀ (F : List Sl) (n k : Nat) (h : k < F.length), endAt n (F.take (k + 1)) = endAt n (F.take k) + F[k].text.length + 1
  | [], _, _, h => by simp at h
  | x :: F, n, 0, _ => rfl
  | x :: F, n, k + 1, h => by
    have := endAt_take F (n + x.text.length + 1) k (by simpa using h)
    simpa [endAt] using this
theorem chain_at (M : Nat) (b : Tx) : ∀ (F : List Sl) (i n : Nat), Chain M b i n F → ∀ k (h : k < F.length), F[k].num = i + k ∧ F[k].off = endAt n (F.take k) ∧ F[k].text.length ≤ M ∧ endAt n (F.take k) + F[k].text.length ≤ b.length ∧ (b.drop (endAt n (F.take k))).take F[k].text.length = F[k].text ∧ (endAt n (F.take k) + F[k].text.length + 1 ≤ b.length → b[endAt n (F.take k) + F[k].text.length]? = some 10)
  | [], _, _, _, k, h => by simp at h
  | x :: F, i, n, hc, 0, _ => by
    obtain ⟨h1, h2, h3, h4, h5, h6, _⟩ := hc
    exact ⟨h1, h2, h3, h4, h5, h6⟩
  | x :: F, i, n, hc, k + 1, h => by
    obtain ⟨_, _, _, _, _, _, h7⟩ := hc
    have := chain_at M b F (i + 1) (n + x.text.length + 1) h7 k (by simpa using h)
    simp only [List.getElem_cons_succ, List.take_succ_cons, endAt]
    refine ⟨by omega, this.2⟩
theorem full_chain (M : Nat) (b : Tx) : ∀ (t pre cur : Tx) (num off : Nat), b = pre ++ cur ++ t → off = pre.length → cur.length ≤ M → Chain M b num off (full M num off cur t) ∧ (fails M cur t = false → b.length ≤ endAt off (full M num off cur t))
  | [], pre, cur, num, off, hb, ho, hc => by
    subst hb; subst ho
    rw [full, told, fails, cur', num', off']
    by_cases h : cur = []
    · subst h
      simp [Chain, endAt]
    · simp [h, Chain, endAt]
      omega
  | c :: t, pre, cur, num, off, hb, ho, hc => by
    rw [full, told, fails, cur', num', off']
    by_cases h1 : c = 10
    · subst h1
      simp only [if_true]
      have ih := full_chain M b t (pre ++ cur ++ [10]) [] (num + 1) (off + cur.length + 1) (by rw [hb]; simp) (by rw [ho]; simp; omega) (Nat.zero_le _)
      rw [full] at ih
      simp only [List.cons_append, Chain, endAt]
      refine ⟨⟨trivial, trivial, hc, ?_, ?_, fun _ => ?_, ih.1⟩, ih.2⟩
      · rw [hb, ho]; simp
      · rw [hb, ho]; simp
      · rw [hb, ho]
        rw [show pre ++ cur ++ 10 :: t = (pre ++ cur) ++ 10 :: t from rfl, ← List.length_append, List.getElem?_append_right (Nat.le_refl _)]
        simp
    · simp only [if_neg h1]
      by_cases h2 : M < cur.length + 1
      · simp [h2, Chain]
      · simp only [if_neg h2]
        have ih := full_chain M b t pre (cur ++ [c]) num off (by rw [hb]; simp) ho (by rw [List.length_append, List.length_singleton]; omega)
        rw [full] at ih
        exact ih
end Go.Proofs.Ytcekifknbljbiaa.Str
