/- A stream that goes on or is over; how large its numbers are; few, all. -/
import Derived.Test.YtcekifknbljbiaaStrB3
namespace Go.Proofs.Ytcekifknbljbiaa.Str
open Go.Proofs.Ytcekifknbljbiaa.Stm Go.Proofs.Ytcekifknbljbiaa.Reg Go.RowKit Go.Maps
set_option maxRecDepth 100000
set_option linter.unusedVariables false

/-- No number is larger. -/
structure Bd (n : Nat) (s : St) : Prop where
  bm : ∃ m, m ≤ n ∧ Rv m s.w
  bh : s.hunt ≤ n
  bn : s.num ≤ n
  bo : s.off + s.w.held.length ≤ n
  bb : s.over = false → s.bad = false
theorem Bd.more {n m : Nat} {s : St} (h : Bd n s) (hm : n ≤ m) : Bd m s := by
  obtain ⟨⟨k, hk, hr⟩, h2, h3, h4, h5⟩ := h
  exact ⟨⟨k, by omega, hr⟩, by omega, by omega, by omega, h5⟩
theorem bd_new (most : Nat) : Bd 0 (stNew most) := ⟨⟨0, Nat.le_refl _, rv_new⟩, Nat.le_refl _, Nat.le_refl _, Nat.le_refl _, fun _ => rfl⟩
theorem go_bd : ∀ (t : Tx) (s : St) (part : Tx) (m : Nat), Rv m s.w → (s.over = false → s.bad = false) → (∃ m', Rv m' (s.go part t).1.w ∧ m' ≤ m + part.length + t.length) ∧ (s.go part t).1.hunt ≤ s.hunt + t.length ∧ (s.go part t).1.num ≤ s.num + t.length ∧
    (s.go part t).1.off + (s.go part t).1.w.held.length ≤ s.off + s.w.held.length + part.length + t.length ∧ ((s.go part t).1.over = false → (s.go part t).1.bad = false)
  | [], s, part, m, h, hb => by
    refine ⟨⟨m + part.length, h.add part, Nat.le_refl _⟩, Nat.le_refl _, Nat.le_refl _, ?_, hb⟩
    show s.off + (s.w.add part).held.length ≤ _
    rw [Wn.add_held, List.length_append, List.length_nil]
    omega
  | c :: t, s, part, m, h, hb => by
    rw [St.go, List.length_cons]
    by_cases h1 : c = 10
    · simp only [if_pos h1]
      obtain ⟨k, hk, hkm⟩ := line_rv (s := { s with hunt := s.hunt + 1 }) h part
      have he := line_len { s with hunt := s.hunt + 1 } part
      have ho : (({ s with hunt := s.hunt + 1 } : St).line part).off = s.off + (s.w.held.length + part.length) + 1 := by
        show s.off + (s.w.held ++ part).length + 1 = _
        rw [List.length_append]
      have hnu : (({ s with hunt := s.hunt + 1 } : St).line part).num = s.num + 1 := rfl
      have hhu : (({ s with hunt := s.hunt + 1 } : St).line part).hunt = s.hunt + 1 := rfl
      obtain ⟨⟨m', q1, q2⟩, q3, q4, q5, q6⟩ := go_bd t (({ s with hunt := s.hunt + 1 } : St).line part) [] k hk hb
      rw [he, ho] at q5
      rw [hnu] at q4
      rw [hhu] at q3
      simp only [List.length_nil] at q2 q5
      exact ⟨⟨m', q1, by omega⟩, by omega, by omega, by omega, q6⟩
    · simp only [if_neg h1]
      by_cases h2 : s.most < s.w.held.length + part.length + 1
      · simp only [if_pos h2]
        exact ⟨⟨m, h, by omega⟩, by omega, by omega, by omega, fun e => by cases e⟩
      · simp only [if_neg h2]
        obtain ⟨⟨m', q1, q2⟩, q3, q4, q5, q6⟩ := go_bd t ({ s with hunt := s.hunt + 1 } : St) (part ++ [c]) m h hb
        rw [List.length_append, List.length_singleton] at q2 q5
        simp only at q3 q4 q5
        exact ⟨⟨m', q1, by omega⟩, by omega, by omega, by omega, q6⟩
theorem Bd.feed {n : Nat} {s : St} (h : Bd n s) (t : Tx) : Bd (n + t.length) (s.feed t).1 := by
  rw [St.feed]
  split
  · exact h.more (by omega)
  · obtain ⟨⟨k, hk, hr⟩, h2, h3, h4, h5⟩ := h
    obtain ⟨⟨m', q1, q2⟩, q3, q4, q5, q6⟩ := go_bd t s [] k hr h5
    simp only [List.length_nil] at q2 q5
    exact ⟨⟨m', by omega, q1⟩, by omega, by omega, by omega, q6⟩
theorem Bd.fin {n : Nat} {s : St} (h : Bd n s) : Bd (n + 1) s.fin.1 := by
  obtain ⟨⟨k, hk, hr⟩, h2, h3, h4, h5⟩ := h
  unfold St.fin
  split
  · exact ⟨⟨k, by omega, hr⟩, by show s.hunt ≤ _; omega, by show s.num ≤ _; omega, by show s.off + s.w.held.length ≤ _; omega, h5⟩
  · split
    · exact ⟨⟨k, by omega, hr⟩, by show s.hunt ≤ _; omega, by show s.num ≤ _; omega, by show s.off + s.w.held.length ≤ _; omega, fun e => by cases e⟩
    · obtain ⟨m, hm, hmk⟩ := line_rv (s := { s with over := true }) hr []
      have he := line_len { s with over := true } []
      have ho : (({ s with over := true } : St).line []).off = s.off + (s.w.held.length + 0) + 1 := by
        show s.off + (s.w.held ++ []).length + 1 = _
        rw [List.length_append]; rfl
      simp only [List.length_nil] at hmk
      refine ⟨⟨m, by omega, hm⟩, by show s.hunt ≤ _; omega, by show s.num + 1 ≤ _; omega, ?_, fun e => by cases e⟩
      show (({ s with over := true } : St).line []).off + _ ≤ _
      rw [he, ho]; simp only [List.length_nil]; omega
theorem Bd.small {n : Nat} {s : St} (h : Bd n s) (hn : n ≤ 100000) : Small s := by
  obtain ⟨⟨k, hk, hr⟩, h2, h3, h4, h5⟩ := h
  have h6 := hr.rinv.came
  have h7 := hr.rinv.most
  have h8 := hr.rroom
  exact ⟨by omega, by omega, by omega, by omega, by omega, by omega⟩
/-- Feed and End, whether it is over or not. -/
theorem sfeed_all (W0 w : World) (p : Nat) (mp : Option Addr) (g : Nat) (d : Option Nat) (s : St) (h : Sm W0 w p mp g d s) (n : Nat) (hB : Bd n s) (hn : n ≤ 100000) (b : Tx) (a : Option Addr) (k c : Nat) (hk : b.length = k) (hb : Bx w p g d mp a b) (hl : b.length ≤ 100000) (hbc : b.length ≤ c) (hac : a = none → c = 0) :
    Calls Try.prog 15 #[.pointer (some ⟨p, 0, none⟩), .slice a k c] w (GivesFeed W0 w p mp g d s b) := by
  subst hk
  cases ho : s.over with
  | true => exact sfeed_over W0 w p mp g d s h ho b a _ c
  | false =>
    obtain ⟨⟨m, hm, hr⟩, h2, h3, h4, h5⟩ := hB
    exact sfeed_any W0 w p mp g d s h ho (h5 ho) m hr (by omega) (by omega) (by omega) (by omega) b a c hb hl hbc hac
theorem send_all (W0 w : World) (p : Nat) (mp : Option Addr) (g : Nat) (d : Option Nat) (s : St) (h : Sm W0 w p mp g d s) (n : Nat) (hB : Bd n s) (hn : n ≤ 100000) :
    Calls Try.prog 17 #[.pointer (some ⟨p, 0, none⟩)] w (GivesEnd W0 w p mp g d s) := by
  cases ho : s.over with
  | true => exact send_over W0 w p mp g d s h ho
  | false =>
    obtain ⟨⟨m, hm, hr⟩, h2, h3, h4, h5⟩ := hB
    exact send_any W0 w p mp g d s h ho (h5 ho) m hr (by omega) (by omega) (by omega) (by omega)
theorem rsfeed_all (w : World) (s : St) (n : Nat) (hB : Bd n s) (hn : n ≤ 100000) (b : Tx) (hl : b.length ≤ 100000) : Calls Try.prog 16 #[rv s, .string (str b)] w (GivesR w (s.feed b)) := by
  cases ho : s.over with
  | true => exact rsfeed_over w s ho b
  | false =>
    obtain ⟨⟨m, hm, hr⟩, h2, h3, h4, h5⟩ := hB
    exact rsfeed_any w s ho m hr (by omega) (by omega) (by omega) (by omega) b hl
theorem rsend_all (w : World) (s : St) (n : Nat) (hB : Bd n s) (hn : n ≤ 100000) : Calls Try.prog 18 #[rv s] w (GivesR w s.fin) := by
  cases ho : s.over with
  | true => exact rsend_over w s ho
  | false => exact rsend_any w s ho (hB.small hn)
/-- The texts. -/
def tx (xs : List TxV) : List Tx := xs.map TxV.text
def total (xs : List TxV) : Nat := (tx xs).flatten.length
theorem tx_succ (xs : List TxV) (k : Nat) (h : k < xs.length) : tx (xs.take (k + 1)) = tx (xs.take k) ++ [xs[k].text] := by
  unfold tx
  rw [List.take_succ_eq_append_getElem h, List.map_append]
  rfl
theorem total_succ (xs : List TxV) (k : Nat) (h : k < xs.length) : total (xs.take (k + 1)) = total (xs.take k) + xs[k].text.length := by
  unfold total
  rw [tx_succ xs k h, List.flatten_append, List.length_append]
  simp
theorem total_le (xs : List TxV) (k : Nat) : total (xs.take k) ≤ total xs := by
  have : total xs = total (xs.take k) + total (xs.drop k) := by
    unfold total tx
    rw [← List.length_append, ← List.flatten_append, ← List.map_append, List.take_append_drop]
  omega
/-- What few lets through. -/
def Fw (l : List TxV) : Prop := l.length ≤ 200 ∧ total l ≤ 1500 ∧ ∀ y ∈ l, y.text.length ≤ 1000
def GivesFew (w : World) (xs : List TxV) (e : Ending) (w' : World) : Prop := ∃ z : Bool, e = .returned (.bool z) ∧ w' = w ∧ (z = true → Fw xs)
set_option maxHeartbeats 4000000 in
theorem few_any (w : World) (a : Option Addr) (c : Nat) (xs : List TxV) (hs : Ts w a xs) (hl : xs.length ≤ maxLen) (hx : ∀ y ∈ xs, y.text.length ≤ maxLen) :
    Calls Try.prog 11 #[.slice a xs.length c] w (GivesFew w xs) := by
  have HS := Lib.hid hs
  have HX := Lib.hid hx
  unfold maxLen at hl
  clear hs hx
  go_enter Try.func11, Try.ntmps11
  go_wp2_with fail
  go_loopw [3, 4] (fun v i wr => ∃ k : Nat, k ≤ xs.length ∧ i = .int .i64 (k : Int) ∧ v = .int .i64 ((total (xs.take k) : Nat) : Int) ∧ wr = w ∧ total (xs.take k) ≤ 1500 ∧ Hid (∀ y ∈ xs.take k, y.text.length ≤ 1000)) (fun _ i _ => xs.length - (intOf i).toNat)
  case atStart => exact ⟨0, Nat.zero_le _, rfl, rfl, rfl, by simp [total, tx], Lib.hid (by simp)⟩
  case round =>
    obtain ⟨k, hk, rfl, rfl, rfl, ha, hh⟩ := hrel
    by_cases hlt : k < xs.length
    · have hkl : (k : Int) < (xs.length : Int) := by omega
      obtain ⟨b, off, rfl, hbl, hc⟩ := HS.out.1 (by omega)
      have c0 := hc k hlt
      have hz := HX.out _ (List.getElem_mem hlt)
      unfold maxLen at hz
      have hsu := total_succ xs k hlt
      by_cases h1 : xs[k].text.length ≤ 1000
      · by_cases h2 : total (xs.take (k + 1)) ≤ 1500
        · have h1i : (xs[k].text.length : Int) ≤ 1000 := by omega
          have h2i : ((total (xs.take k) : Nat) : Int) + (xs[k].text.length : Int) ≤ 1500 := by omega
          have HN := Lib.hid h2
          have HT : Hid (∀ y ∈ xs.take (k + 1), y.text.length ≤ 1000) := Lib.hid (by
            rw [List.take_succ_eq_append_getElem hlt]
            intro y hy
            rcases List.mem_append.1 hy with h | h
            · exact hh.out y h
            · rw [List.mem_singleton.1 h]; exact h1)
          have HU := Lib.hid hsu
          clear h2 hsu
          go_wp2_with fail
          go_round
          case rel => exact ⟨k + 1, by omega, by go_num, by rw [HU.out]; go_num, trivial, HN.out, HT⟩
          case measure => simp [intOf]; omega
        · have h1i : (xs[k].text.length : Int) ≤ 1000 := by omega
          have h2i : ¬ ((total (xs.take k) : Nat) : Int) + (xs[k].text.length : Int) ≤ 1500 := by omega
          clear h2 hsu
          go_wp2_with fail
          go_ret
          exact ⟨false, rfl, rfl, fun h => by cases h⟩
      · have h1i : ¬ (xs[k].text.length : Int) ≤ 1000 := by omega
        clear hsu
        go_wp2_with fail
        go_ret
        exact ⟨false, rfl, rfl, fun h => by cases h⟩
    · obtain rfl : k = xs.length := by omega
      rw [List.take_length] at ha hh
      have HA := Lib.hid ha
      clear ha
      by_cases h3 : xs.length ≤ 200
      · have h3i : (xs.length : Int) ≤ 200 := by omega
        go_wp2
        go_ret
        exact ⟨true, ret_bool (by simp), rfl, fun _ => ⟨h3, HA.out, hh.out⟩⟩
      · have h3i : ¬ (xs.length : Int) ≤ 200 := by omega
        go_wp2
        go_ret
        exact ⟨false, ret_bool (by simp), rfl, fun h => by cases h⟩
set_option maxHeartbeats 2000000 in
/-- all: the chunks, one behind the other, in memory of its own. -/
theorem sall_any (w : World) (a : Option Addr) (c : Nat) (xs : List TxV) (hs : Ts w a xs) (hl : xs.length ≤ 200) (ht : total xs ≤ 1500) :
    Calls Try.prog 21 #[.slice a xs.length c] w (GivesText w (tx xs).flatten) := by
  have HS := Lib.hid hs
  clear hs
  go_enter Try.func21, Try.ntmps21
  go_wp2_with fail
  go_loopw [3, 4] (fun v i wr => ∃ k : Nat, k ≤ xs.length ∧ i = .int .i64 (k : Int) ∧ wr.ownsRow w.heap.size 5 1 v (total (xs.take k)) (vals (tx (xs.take k)).flatten) ∧ Below w.heap.size w wr) (fun _ i _ => xs.length - (intOf i).toNat)
  case atStart => exact ⟨0, Nat.zero_le _, rfl, World.ownsRow_nil _ _ _ _, Below.refl _ _⟩
  case round =>
    obtain ⟨k, hk, rfl, hown, hbel⟩ := hrel
    by_cases hlt : k < xs.length
    · have hkl : (k : Int) < (xs.length : Int) := by omega
      have hts := HS.out.keep hbel
      obtain ⟨b, off, rfl, hbl, hc⟩ := hts.1 (by omega)
      have c0 := hc k hlt
      have hbs := hts.2 _ (List.getElem_mem hlt)
      have hle := total_le xs k
      have hle2 := total_le xs (k + 1)
      have hsu := total_succ xs k hlt
      have hni := xs[k].nil0
      have HSU := Lib.hid hsu
      have HOW := Lib.hid hown
      have hsz := hbel.size
      clear hc hsu hts
      go_wp2_with (at_builtin; refine app_bs rfl (.tmp 11) (.tmp 15) rfl w.heap.size _ (total (xs.take k)) (vals (tx (xs.take k)).flatten) rfl HOW.out xs[k].a xs[k].text xs[k].cap wr.heap.size rfl hbs hni (by have := HSU.out; omega) hsz ?_; intro v' w2 hown2 hg2)
      go_roundw
      case rel =>
        refine ⟨k + 1, hlt, by go_num, ?_, app_below hbel hown hg2 hsz (Nat.le_refl _)⟩
        rw [HSU.out, tx_succ xs k hlt]
        have e : vals ((tx (xs.take k) ++ [xs[k].text]).flatten) = vals (tx (xs.take k)).flatten ++ vals xs[k].text := by simp [vals]
        rw [e]
        exact hown2
      case measure => simp [intOf]; omega
    · obtain rfl : k = xs.length := by omega
      rw [List.take_length] at hown
      go_wp2
      go_ret
      obtain ⟨hown2, a2, cap2, rfl, htx, hcap⟩ := own_text hown rfl
      obtain ⟨_, _, e, _, hle, _⟩ := own_txt hown
      cases e
      exact ⟨a2, cap2, rfl, htx, hle, hcap, hbel⟩
end Go.Proofs.Ytcekifknbljbiaa.Str
