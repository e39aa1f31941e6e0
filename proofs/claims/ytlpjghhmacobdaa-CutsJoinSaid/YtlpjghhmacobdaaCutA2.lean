/- What package cuts answers: Pieces. -/
import Derived.Test.YtlpjghhmacobdaaCutA1
namespace Go.Proofs.Ytlpjghhmacobdaa.Cts
open Go.Proofs.Ytlpjghhmacobdaa.Tri Go.Proofs.Ytlpjghhmacobdaa.Lnk Go.Proofs.Ytlpjghhmacobdaa.Reg Go.RowKit Go.Maps
set_option maxRecDepth 100000
set_option linter.unusedVariables false

/-- A call that hands out pieces, in new memory, none of them longer than its capacity. -/
def GivesPcs (w : World) (ps : List Tx) (e : Ending) (w' : World) : Prop :=
  ∃ (xs : List TxV) (a : Option Addr) (c : Nat), e = .returned (.slice a xs.length c) ∧ xs.map TxV.text = ps ∧ Ts w' a xs ∧ (∀ x ∈ xs, x.cap = x.text.length) ∧ (∀ x ∈ xs, 0 < x.text.length → ∀ ad : Addr, x.a = some ad → w.heap.size ≤ ad.block) ∧ Below w.heap.size w w'
/-- Where each piece ends. -/
def stops (t : Tx) (l : List Int) : List Nat := places t.length l ++ [t.length]
theorem stops_len (t : Tx) (l : List Int) : (stops t l).length = l.length + 1 := by simp [stops, places_len]
theorem pieces_stops (t : Tx) (l : List Int) : pieces t l = mids t 0 (stops t l) := by
  unfold pieces stops
  rw [mids_snoc, show lastP 0 (places t.length l) = lastOf t.length 0 l from lastP_places t.length l 0]
  congr 2
  rw [List.take_of_length_le]
  rw [List.length_drop]
  exact Nat.le_refl _
theorem Up.snoc {n : Nat} : ∀ {ps : List Nat} {last : Nat}, Up n last ps → Up n last (ps ++ [n])
  | [], _, h => ⟨h, Nat.le_refl _⟩
  | _ :: _, _, h => ⟨h.1, Up.snoc h.2⟩
theorem Up.at {n : Nat} : ∀ {ps : List Nat} {last : Nat}, Up n last ps → ∀ k (h : k < ps.length), lastP last (ps.take k) ≤ ps[k] ∧ ps[k] ≤ n
  | p :: ps, last, h, 0, _ => ⟨h.1, h.2.le⟩
  | p :: ps, last, h, k + 1, hk => Up.at h.2 k (by simpa using hk)
theorem stops_up (t : Tx) (l : List Int) : Up t.length 0 (stops t l) := (up_places l 0 (Nat.zero_le _)).snoc
theorem lastP_take (ps : List Nat) (k : Nat) (h : k < ps.length) : lastP 0 (ps.take (k + 1)) = ps[k] := by
  rw [List.take_succ_eq_append_getElem h, lastP_snoc]
theorem mids_take (t : Tx) (ps : List Nat) (k : Nat) (h : k < ps.length) : mids t 0 (ps.take (k + 1)) = mids t 0 (ps.take k) ++ [(t.drop (lastP 0 (ps.take k))).take (ps[k] - lastP 0 (ps.take k))] := by
  rw [List.take_succ_eq_append_getElem h, mids_snoc]
/-- A row of numbers, as a block that is known whole. -/
def Nums (w : World) (g : Nat) (l : List Int) : Prop := ∃ cs : Array Value, w.heap[g]? = some (.cells cs 3 (0, 0)) ∧ ∀ i (h : i < l.length), cs[i]? = some (.int .i64 l[i])
theorem Nums.lt {w : World} {g : Nat} {l : List Int} (h : Nums w g l) : g < w.heap.size := by
  obtain ⟨cs, h, _⟩ := h
  exact txt_lt h
theorem Nums.same {w w' : World} {g : Nat} {l : List Int} (h : Nums w g l) (e : w'.heap[g]? = w.heap[g]?) : Nums w' g l := by
  obtain ⟨cs, h, h2⟩ := h
  exact ⟨cs, e.trans h, h2⟩
theorem Nums.cell {w : World} {g : Nat} {l : List Int} (h : Nums w g l) (i : Nat) (hi : i < l.length) : w.cell? ⟨g, i, none⟩ = some (.int .i64 l[i]) := by
  obtain ⟨cs, h, h2⟩ := h
  rw [cell_of_row w g i _ 3 (0, 0) h]
  exact h2 i hi
theorem Nums.alloc {w : World} {g : Nat} {l : List Int} (h : Nums w g l) (o : Obj) : Nums (w.alloc o) g l := h.same (Below.heap_alloc w o g h.lt)
/-- Another row grows, of slices. -/
theorem Nums.grown {w w' : World} {g : Nat} {l : List Int} (h : Nums w g l) {base k : Nat} {v : Value} {xs : List Value} (ho : w.ownsRow base 22 1 v k xs) (hg : w.grownBy w' v.ownBlock) : Nums w' g l := by
  refine h.same (hg.block g h.lt fun e => ?_)
  obtain ⟨_, _, cs, hc⟩ := own_block_lt ho e.symm
  obtain ⟨cs', h', _⟩ := h
  rw [hc] at h'
  injection h' with h'
  injection h' with _ h'
  exact absurd h' (by decide)
theorem nums_of_own {w : World} {base n : Nat} {v : Value} {l : List Int} (h : w.ownsRow base 3 1 v n (ivals l)) (h0 : 0 < n) : ∃ g cap, v = .slice (some ⟨g, 0, none⟩) n cap ∧ base ≤ g ∧ Nums w g l := by
  have hn : l.length = n := by have := h.1; simpa [ivals] using this
  rcases h.2 with ⟨_, e⟩ | ⟨g, cap, cur, rfl, hg, hh, hnc, _, hs, ht⟩
  · omega
  · refine ⟨g, cap, rfl, hg, cur, hh, fun i hi => ?_⟩
    have e : (cur.toList.take (n * 1))[i]? = (ivals l)[i]? := by rw [ht]
    rw [List.getElem?_take_of_lt (by omega)] at e
    rw [← Array.getElem?_toList, e]
    simp [ivals, hi]
theorem row_stops {W : World} {base : Nat} {v : Value} {t : Tx} {l : List Int} (h : W.ownsRow base 3 1 v ((ints (places t.length l)).length + 1) (ivals (ints (places t.length l) ++ [(t.length : Int)]))) :
    ∃ g cap, v = .slice (some ⟨g, 0, none⟩) (l.length + 1) cap ∧ base ≤ g ∧ Nums W g (ints (stops t l)) := by
  rw [← ints_snoc, ints_len, places_len] at h
  exact nums_of_own h (by omega)
theorem info22b : (Try.prog.info? 22).map (fun i => (i.zero, i.size, i.bytes)) = some (some (.slice none 0 0), 1, 24) := by kernel_rfl
/-- What is true of a piece that is handed out. -/
def Pc (s B : Nat) (W : World) (x : TxV) : Prop := x.cap = x.text.length ∧ Bs W B x.a x.text ∧ (0 < x.text.length → ∀ ad : Addr, x.a = some ad → s ≤ ad.block)
set_option maxHeartbeats 4000000 in
theorem pieces_any (w : World) (t : Tx) (at_ : Option Addr) (ct : Nat) (ht : Bs w w.heap.size at_ t) (hct : at_ = none → ct = 0) (htl : t.length ≤ 1000000) (l : List Int) (hw : ∀ i ∈ l, (Lit.int .i64 i).wf = true) (a : Option Addr) (c : Nat) (h : Is w w.heap.size a l) (hl : l.length ≤ 1000000) :
    Calls Try.prog 9 #[.slice at_ t.length ct, .slice a l.length c] w (GivesPcs w (pieces t l)) := by
  have HI := Lib.hid h
  have HW := Lib.hid hw
  have HT := Lib.hid ht
  clear h hw ht
  obtain ⟨i0, hi, hz0, hz1, hz2⟩ := info_parts info22b
  go_enter Try.func9, Try.ntmps9
  go_wp2_with (first
    | (go_at_call 15; (with_reducible refine (Met.clone_any t _ _ _ (by omega) HT.out).mono ?_); rintro e w1 ⟨a1, c1, rfl, ht1, hc1, hn1, hb1⟩; have HT1 := Lib.hid ht1; have HC1 := Lib.hid hc1; have HN1 := Lib.hid hn1; have HB1 := Lib.hid hb1; clear ht1 hc1 hn1 hb1)
    | (at_make; refine wpList_make_own _ rfl _ _ 26 rfl w1.heap.size 22 i0 (.slice none 0 0) 1 Try.underlying26 hi hz0 hz1 .i64 .i64 _ (l.length + 1) rfl rfl (by omega) (by rw [hz2]; omega) (by unfold maxLen; omega) (Nat.le_refl _) ?_))
  intro w2 hown2 hg2
  have HO2 := Lib.hid hown2
  have HB12 := Lib.hid ((Below.refl w1.heap.size w1).grown hg2 (Nat.le_refl _) (fun k hk => by cases hk))
  have HB2 := Lib.hid (HB1.out.trans (HB12.out.mono HB1.out.size))
  have HPL := Lib.hid (places_own w2 (t.length : Int) (by simp [Lit.wf, IntKind.min, IntKind.max, IntKind.bits, IntKind.signed]; omega) l HW.out a c ((HI.out.keep HB2.out).more HB2.out.size) (by omega))
  rw [Int.toNat_natCast] at HPL
  clear hown2 hg2 hi hz0 hz1 hz2
  go_wp2_with (first
    | (go_at_call 12; (with_reducible refine HPL.out.mono ?_); rintro e w3 ⟨v3, rfl, hown3, hb3⟩; have HO3 := Lib.hid hown3; have HB3 := Lib.hid hb3; have hsz3 := hb3.size; clear hown3 hb3)
    | (at_builtin; refine app_is rfl _ _ rfl w2.heap.size _ _ (ints (places t.length l)) (t.length : Int) rfl (HO3.out.alloc _) ⟨w3.heap.size, 0, none⟩ rfl (cell_new_at _ _ rfl) (by rw [ints_len, places_len]; omega) (by simp; omega) ?_; intro v4 w4 hown4 hg4; obtain ⟨g4, cap4, rfl, hge4, hnum4⟩ := row_stops hown4; have HN4 := Lib.hid hnum4; have HB4 := Lib.hid ((HB3.out.alloc hsz3 _).grown hg4 (by simp; omega) (fun q hq => own_ge HO3.out hq)); clear hown4 hg4 hnum4))
  have hs12 := HB12.out.size
  have HB14 := Lib.hid (HB12.out.trans (HB4.out.mono hs12))
  go_loopw [6, 7, 25] (fun v fr i wr => ∃ (k : Nat) (xs : List TxV), k ≤ l.length + 1 ∧ i = .int .i64 (k : Int) ∧ fr = .int .i64 ((lastP 0 ((stops t l).take k) : Nat) : Int) ∧ wr.ownsRow w1.heap.size 22 1 v xs.length (tvals xs) ∧ xs.length = k ∧ xs.map TxV.text = mids t 0 ((stops t l).take k) ∧ (∀ x ∈ xs, Pc w.heap.size w1.heap.size wr x) ∧ Nums wr g4 (ints (stops t l)) ∧ Below w1.heap.size w1 wr) (fun _ _ i _ => l.length + 1 - (intOf i).toNat)
  case atStart => exact ⟨0, [], Nat.zero_le _, rfl, rfl, own_keep HO2.out HB4.out, rfl, rfl, by simp, HN4.out, HB14.out⟩
  case round =>
    obtain ⟨k, xs, hk, rfl, rfl, hown, hxl, hxt, hxp, hnum, hbel⟩ := hrel
    have HO := Lib.hid hown
    have HX := Lib.hid hxt
    have HP := Lib.hid hxp
    have HN := Lib.hid hnum
    have HB := Lib.hid hbel
    have hsz := hbel.size
    clear hown hxt hxp hbel
    by_cases hlt : k < l.length + 1
    · have hkl : (k : Int) < (l.length : Int) + 1 := by omega
      have hks : k < (stops t l).length := by rw [stops_len]; exact hlt
      have e1 := hnum.cell k (by rw [ints_len]; exact hks)
      rw [show (ints (stops t l))[k]'(by rw [ints_len]; exact hks) = (((stops t l)[k] : Nat) : Int) from by simp [ints]] at e1
      obtain ⟨hu1, hu2⟩ := (stops_up t l).at k hks
      have HL := Lib.hid (lastP_take (stops t l) k hks)
      have HM := Lib.hid (mids_take t (stops t l) k hks)
      clear hnum
      generalize (stops t l)[k] = q at *
      generalize lastP 0 ((stops t l).take k) = p at *
      obtain ⟨x, hx1, hx2, hx3, hx4, hx5, hx6⟩ := piece_bs HT1.out HN1.out hu1 hu2
      have HPC : Hid (Calls Try.prog 16 #[.slice a1 (List.length t) c1, .int .i64 (p : Int), .int .i64 (q : Int)] wr fun e w' => e = .returned (.slice x.a x.text.length x.cap) ∧ wr = w') := Lib.hid (by rw [hx1, hx3, hx4]; exact (piece_any wr t a1 c1 HC1.out HN1.out p q hu1 hu2 htl).mono fun _ _ h => ⟨h.1, h.2.symm⟩)
      have HPX : Hid (Pc w.heap.size w1.heap.size wr x) := Lib.hid ⟨by rw [hx4, hx3], hx5.keep HB.out, hx6⟩
      rw [← hx2] at HM
      clear hx1 hx2 hx3 hx4 hx5 hx6
      go_wp2_with (first
        | (go_at_call 16; (with_reducible refine HPC.out.mono ?_); rintro e w' ⟨rfl, rfl⟩)
        | (at_builtin; refine app_ts rfl _ _ rfl w1.heap.size _ _ xs x rfl (HO.out.alloc _) ⟨wr.heap.size, 0, none⟩ rfl (cell_new_at _ _ rfl) (by omega) (by simp; omega) ?_; intro v5 w5 hown5 hg5; have HO5 := Lib.hid hown5; have HB5 := Lib.hid (((Below.refl w1.heap.size wr).alloc hsz _).grown hg5 (by simp; omega) (fun q hq => own_ge HO.out hq)); have HN5 := Lib.hid ((HN.out.alloc _).grown (HO.out.alloc _) hg5); clear hown5 hg5))
      go_roundw
      case rel => exact ⟨k + 1, xs ++ [x], by omega, by go_num, by rw [HL.out], by rw [List.length_append]; exact HO5.out, by rw [List.length_append, hxl]; rfl, by rw [List.map_append, HX.out, HM.out]; rfl, fun y hy => by
        rcases List.mem_append.1 hy with hy | hy
        · obtain ⟨q1, q2, q3⟩ := HP.out y hy
          exact ⟨q1, q2.keep HB5.out, q3⟩
        · rw [List.mem_singleton.1 hy]
          obtain ⟨q1, q2, q3⟩ := HPX.out
          exact ⟨q1, q2.keep HB5.out, q3⟩, HN5.out, HB.out.trans HB5.out⟩
      case measure => simp [intOf]; omega
    · obtain rfl : k = l.length + 1 := by omega
      have hkn : ¬ ((l.length : Int) + 1 < (l.length : Int) + 1) := by omega
      rw [← stops_len t l, List.take_length] at HX
      go_wp2
      go_ret
      obtain ⟨a5, c5, e5, hts, _, _⟩ := own_ts HO.out (fun x hx => ((HP.out x hx).2.1).more hsz)
      exact ⟨xs, a5, c5, by rw [← e5]; rfl, by rw [HX.out, pieces_stops], hts, fun x hx => (HP.out x hx).1, fun x hx => (HP.out x hx).2.2, HB1.out.trans (HB.out.mono HB1.out.size)⟩
end Go.Proofs.Ytlpjghhmacobdaa.Cts
