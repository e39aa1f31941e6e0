/- The walk of EngineEmpty. -/
import Derived.Test.YtcbhjhhajeeimaaGreatEngC
namespace Go.Proofs.YtcbhjhhajeeimaaGreat.engineEmpty
open Go.Proofs.YtcbhjhhajeeimaaGreat.Tri Go.Proofs.YtcbhjhhajeeimaaGreat.Lnk Go.Proofs.YtcbhjhhajeeimaaGreat.Prs Go.Proofs.YtcbhjhhajeeimaaGreat.Spa Go.Proofs.YtcbhjhhajeeimaaGreat.Eng Go.Proofs.YtcbhjhhajeeimaaGreat.Reg Go.RowKit Go.Maps
set_option maxRecDepth 100000
set_option linter.unusedVariables false
attribute [local go_sem ↓] Met.eql_counts
theorem mod_tag (t : UInt8) : ∃ T : Int, (t.toNat : Int) % 4 = T ∧ 0 ≤ T ∧ T ≤ 3 ∧ (Lit.int .i64 T).wf = true := by
  have h1 : 0 ≤ (t.toNat : Int) % 4 := by omega
  have h2 : (t.toNat : Int) % 4 ≤ 3 := by omega
  exact ⟨_, rfl, h1, h2, wf_nat (by omega) (by omega)⟩
theorem wrong_tag {T : Int} (h0 : 0 ≤ T) (h3 : T ≤ 3) (l : List Tx) : wrongI T l = 0 ∨ wrongI T l = 13 ∨ wrongI T l = 14 := by
  rcases wrong_cases T l with h | h | h | h
  · exact .inl h
  · unfold wrongI at h
    rw [if_neg (by omega)] at h
    split at h
    · cases h
    · split at h <;> cases h
  · exact .inr (.inl h)
  · exact .inr (.inr h)
def nilT : TxV := ⟨[], none, 0, fun _ => rfl⟩
/-- A set of texts that were gathered: of their texts, by New. -/
theorem new_of (X : World) (xs : List TxV) (a : Option Addr) (cap : Nat) (hts : Ts X a xs) (hl : xs.length ≤ 100) (hx : ∀ x ∈ xs, x.text.length ≤ 100) : Calls Tryz.prog 13 #[.slice a xs.length cap] X (Pat.GivesSet X (xs.map TxV.text)) :=
  Pat.of_any xs a cap X hts (by omega) (fun x h => Nat.le_trans (hx x h) (by omega))
theorem two_ts (w : World) (b : Nat) : Ts (w.alloc (.cells #[.slice none 0 0, .slice (some ⟨b, 0, none⟩) 0 0] 23)) (some ⟨w.heap.size, 0, none⟩) [nilT, ⟨[], some ⟨b, 0, none⟩, 0, fun e => by cases e⟩] := by
  refine ⟨fun _ => ⟨_, _, rfl, by simp, fun i hi => ?_⟩, fun x hx => ?_⟩
  · have hh := heap_alloc_new w (.cells #[.slice none 0 0, .slice (some ⟨b, 0, none⟩) 0 0] 23)
    rw [cell_of_row _ _ _ _ 23 (0, 0) hh]
    have hi' : i < 2 := hi
    rcases i with _ | _ | i
    · rfl
    · rfl
    · omega
  · simp only [List.mem_cons, List.not_mem_nil, or_false] at hx
    rcases hx with rfl | rfl <;> exact fun h => absurd h (by simp [nilT])
/-- The texts that aren't empty, of the first i. -/
def plainX (xs : List TxV) (i : Nat) : List TxV := (xs.take i).filter fun x => decide (0 < x.text.length)
theorem plainX_succ (xs : List TxV) {i : Nat} (h : i < xs.length) : plainX xs (i + 1) = plainX xs i ++ if 0 < xs[i].text.length then [xs[i]] else [] := by
  unfold plainX
  rw [List.take_succ_eq_append_getElem h, List.filter_append]
  congr 1
  by_cases hp : 0 < xs[i].text.length
  · rw [if_pos hp, List.filter_cons_of_pos (by simpa using hp)]; rfl
  · rw [if_neg hp, List.filter_cons_of_neg (by simpa using hp)]; rfl
theorem plainX_len (xs : List TxV) (i : Nat) : (plainX xs i).length ≤ xs.length := by
  unfold plainX
  exact Nat.le_trans (List.length_filter_le _ _) (by rw [List.length_take]; omega)
theorem plainX_mem {xs : List TxV} {x : TxV} (h : x ∈ plainX xs xs.length) : x ∈ xs := by
  unfold plainX at h
  rw [List.take_length] at h
  exact (List.mem_filter.1 h).1
theorem plainX_map (xs : List TxV) : (plainX xs xs.length).map TxV.text = (xs.map TxV.text).filter fun x => decide (0 < x.length) := by
  unfold plainX
  rw [List.take_length, List.filter_map]
  rfl
theorem ex_none (T : Int) (h2 : T ≠ 2) (h0 : 0 ≤ T) (h3 : T ≤ 3) : wrongI T [[], []] = 0 := by
  have hp : Pat.pats [[], []] = [] := by decide
  unfold wrongI
  rw [hp, if_neg (by omega), if_neg (by rintro ⟨h, _⟩; exact h2 h)]
  split
  · rename_i h; exact absurd h.2 (by decide)
  · rfl
theorem none_find (line : Tx) : findOf [[], []] line = empties (line.length + 1) := by
  unfold findOf emp
  rw [if_pos (by simp), scan_none (by simp), List.nil_append, norm_of_rise (rise_empties _)]
theorem none_scan (T : Int) (line : Tx) : scanN T [[], []] line = 0 ∧ lookN T [[], []] line = 0 := by
  have hp : Pat.pats [[], []] = [] := by decide
  unfold scanN lookN
  rw [hp, if_pos (.inl rfl), if_pos (.inl rfl)]; exact ⟨rfl, rfl⟩

set_option maxHeartbeats 8000000 in
theorem small (w : World) (xs : List TxV) (a0 : Option Addr) (cap0 : Nat) (hts : Ts w a0 xs) (h0 : xs.length ≤ 12) (hx : ∀ x ∈ xs, x.text.length ≤ 40) (hn0 : a0 = none → cap0 = 0) (line : Tx) (aline : Option Addr) (cline : Nat) (hmline : line.length ≤ maxLen) (hbline : Bs w w.heap.size aline line) (hnline : aline = none → cline = 0) (hcline : line.length ≤ cline) (ta : UInt8) :
    Calls Tryz.prog 5 #[.slice a0 xs.length cap0, .slice aline line.length cline, .int .u8 (ta.toNat : Int)] w fun e w' => e = .returned (.bool true) ∧ Below w.heap.size w w' := by
  have Kline : Hid (Bs w w.heap.size aline line ∧ line.length ≤ cline ∧ (aline = none → cline = 0)) := Lib.hid ⟨hbline, hcline, hnline⟩
  clear hbline hcline hnline hmline
  have hx' : ∀ x ∈ xs, x.text.length ≤ maxLen := fun x h => Nat.le_trans (hx x h) (by unfold maxLen; omega)
  have htot := Spa.few_tot h0 hx
  have HX := Lib.hid hx
  have HX' := Lib.hid hx'
  have HAW := Lib.hid (Eng.awake_any w)
  clear hx hx'
  go_enter Tryz.func5, Tryz.ntmps5
  go_wp2_with fail
  refine HAW.out.mono ?_
  rintro e' w1 ⟨rfl, hb2⟩
  have ts1 := hts.keep hb2
  go_wp2_with fail
  refine (ltexts_any xs a0 cap0 w1 ts1 (by omega) HX'.out).mono ?_
  rintro e' w2 ⟨hb3, hcase⟩
  rcases hcase with ⟨hbad, _⟩ | ⟨_, aL, cL, rfl, hsL⟩
  · exact absurd HX.out hbad
  rw [decide_eq_true h0]
  have HTS := Lib.hid (ts1.keep hb3)
  have HB := Lib.hid (hb2.trans (hb3.mono hb2.size))
  have hszw := HB.out.size
  obtain ⟨l, hl⟩ : ∃ l, l = xs.map TxV.text := ⟨_, rfl⟩
  have HLN : Hid (xs.length = l.length) := Lib.hid (by rw [hl]; simp)
  have HLL := Lib.hid hl
  have HL40 : Hid (∀ x ∈ l, x.length ≤ 40) := Lib.hid fun x h => by
    rw [hl] at h
    obtain ⟨y, hy, rfl⟩ := List.mem_map.1 h
    exact HX.out y hy
  rw [← hl] at hsL htot
  have HSL := Lib.hid hsL
  have hpl : (Pat.pats l).length ≤ 12 := by have h1 := Pat.pats_len l; have h2 := HLN.out; omega
  have HP40 : Hid (∀ x ∈ Pat.pats l, x.length ≤ 40) := Lib.hid fun x h => HL40.out x ((Pat.mem_pats l x).1 h).1
  have htp : tot (Pat.pats l) ≤ 480 := by have h1 : Pat.bytesIn (Pat.pats l) ≤ _ := Pat.bytesIn_le (Pat.pats l) 40 HP40.out; rw [bytes_tot] at h1; have := Nat.mul_le_mul_right 40 hpl; omega
  have HOF : Hid (∀ X, Below w2.heap.size w2 X → Calls Tryz.prog 13 #[.slice a0 xs.length cap0] X (Pat.GivesSet X l)) := Lib.hid fun X hX => by
    have := Pat.of_any xs a0 cap0 X (HTS.out.keep hX) (by omega) (fun x h => Nat.le_trans (HX.out x h) (by omega))
    rwa [← HLL.out] at this
  have HNEW : Hid (∀ X m a c, Pat.IsSet X m a l → ∀ tag : Int, (Lit.int .i64 tag).wf = true → Calls Tryz.prog 12 #[.int .i64 tag, .agg #[.map m, .slice a (Pat.pats l).length c]] X (GivesEn X tag l)) := Lib.hid fun X m a c hs tag ht => enew_any X tag ht m a c l hs (by have := HLN.out; omega) (fun x h => Nat.le_trans (HL40.out x h) (by omega)) (by omega)
  have Lline : Hid (∀ X, Below w2.heap.size w2 X → Bs X X.heap.size aline line) := Lib.hid fun X hX => ((Kline.out.1.keep HB.out).keep (hX.mono hszw)).more (Nat.le_trans hszw hX.size)
  have hcapline := Kline.out.2.1
  have Hnilline := Lib.hid Kline.out.2.2
  clear HX HX' HAW hb2 hb3 ts1 hsL hts hl Kline
  have HN0 := Lib.hid hn0
  obtain ⟨T, hT, hT0, hT3, wT⟩ := mod_tag ta
  by_cases hf : line.length ≤ 300
  · have hfi : decide ((300 : Int) < (line.length : Int)) = false := decide_eq_false (by omega)
    by_cases h2 : T = 2
    · subst h2
      go_wp2
      go_ret
      exact ⟨rfl, HB.out⟩
    · have h2b : (T == 2) = false := by rw [beq_eq_false_iff_ne]; exact h2
      have HH2 := Lib.hid h2
      have HH0 := Lib.hid hT0
      have HH3 := Lib.hid hT3
      have hHX : ∀ x ∈ xs, x.text.length ≤ 40 := fun x h => HL40.out _ (by rw [HLL.out]; exact List.mem_map_of_mem h)
      have HXX := Lib.hid hHX
      clear h2 hn0 hT0 hT3 hHX
      go_wp2_with (first
        | (at_builtin; (refine app_tsl rfl _ _ rfl w2.heap.size (.slice none 0 0) 0 [] rfl (World.ownsRow_nil _ _ _ _) a0 xs cap0 rfl HTS.out HN0.out (by omega) (Nat.le_refl _) ?_); intro v4 w4 hown4 hg4; have HO4 := Lib.hid hown4; have B4 := Lib.hid ((Below.refl _ _).grown hg4 (Nat.le_refl _) (fun k hk => by cases hk)); clear hown4 hg4)
        | (at_builtin; (refine app_ts rfl _ _ rfl w2.heap.size v4 _ _ nilT rfl (HO4.out.alloc _) ⟨w4.heap.size, 0, none⟩ rfl (cell_new1 w4 _ 23) (by omega) (by have := B4.out.size; simp; omega) ?_); intro v5 w5 hown5 hg5; have HO5 := Lib.hid hown5; have B5 := Lib.hid ((B4.out.alloc B4.out.size _).grown hg5 (by have := B4.out.size; simp; omega) (fun k hk => own_ge HO4.out hk)); clear hown5 hg5))
      obtain ⟨ys, hys⟩ : ∃ ys, ys = xs ++ [nilT] := ⟨_, rfl⟩
      have hO5 : w5.ownsRow w2.heap.size 23 1 v5 (0 + xs.length + 1) (tvals ys) := by rw [hys]; exact HO5.out
      obtain ⟨A5, c5, rfl, hts5, _, _⟩ := own_ts hO5 (fun x hx => by
        rw [hys] at hx
        rcases List.mem_append.1 hx with hx | hx
        · exact ((HTS.out.2 x hx).keep B5.out).more B5.out.size
        · rw [List.mem_singleton.1 hx]; exact fun h => absurd h (by simp [nilT]))
      have hyl : ys.length ≤ 13 := by rw [hys, List.length_append, List.length_singleton]; omega
      obtain ⟨l2, hl2⟩ : ∃ l2, l2 = ys.map TxV.text := ⟨_, rfl⟩
      have HL2 : Hid (l2 = l ++ [[]]) := Lib.hid (by rw [hl2, hys, List.map_append, HLL.out]; rfl)
      have hy40 : ∀ y ∈ ys, y.text.length ≤ 40 := fun y hy => by
        rw [hys] at hy
        rcases List.mem_append.1 hy with hy | hy
        · exact HXX.out y hy
        · rw [List.mem_singleton.1 hy]; exact Nat.zero_le _
      have HOF2 := Lib.hid (new_of w5 ys A5 c5 hts5 (by omega) (fun y hy => Nat.le_trans (hy40 y hy) (by omega)))
      rw [← hl2] at HOF2
      have hl2n : l2.length ≤ 13 := by rw [hl2, List.length_map]; exact hyl
      have HL240 : Hid (∀ x ∈ l2, x.length ≤ 40) := Lib.hid fun x h => by
        rw [hl2] at h
        obtain ⟨y, hy, rfl⟩ := List.mem_map.1 h
        exact hy40 y hy
      have ht2 : tot l2 ≤ 600 := by have h1 : Pat.bytesIn l2 ≤ _ := Pat.bytesIn_le l2 40 HL240.out; rw [bytes_tot] at h1; have := Nat.mul_le_mul_right 40 hl2n; omega
      have HZ2 : Hid (wrongI T l2 = wrongI T l) := Lib.hid (by rw [HL2.out]; exact wrong_nil l HH2.out)
      clear hO5 hts5 HO5 HO4 B4 hy40 hl2 hys hyl HN0
      go_wp2_with fail
      refine HOF2.out.mono ?_
      rintro e' w6 ⟨m6, a6, c6, rfl, hset6, hb6⟩
      have HB6 := Lib.hid (B5.out.trans (hb6.mono B5.out.size))
      have HS6 := Lib.hid hset6
      clear hset6 hb6 HOF2
      have HNW := Lib.hid (enew_any w6 T wT m6 a6 c6 l2 HS6.out (by omega) (fun x h => Nat.le_trans (HL240.out x h) (by omega)) (by omega))
      go_wp2_with fail
      refine HNW.out.mono ?_
      rintro e' w7 ⟨p, rfl, hpn, hpe, hb7⟩
      rw [HZ2.out] at hpn hpe ⊢
      have HB7 := Lib.hid (HB6.out.trans (hb7.mono HB6.out.size))
      have HPN := Lib.hid hpn
      have HPE := Lib.hid hpe
      clear hpn hpe hb7 HNW HS6 HB6 B5
      go_wp2_with fail
      have b8 : Below w7.heap.size w7 ((w7.alloc (.cells #[] 5)).alloc (.cells #[.slice none 0 0, .slice (some ⟨w7.heap.size, 0, none⟩) 0 0] 23)) := ((Below.refl _ _).alloc (Nat.le_refl _) _).alloc (by simp) _
      have hof8 := new_of _ [nilT, ⟨[], some ⟨w7.heap.size, 0, none⟩, 0, fun e => by cases e⟩] _ 2 (two_ts (w7.alloc (.cells #[] 5)) w7.heap.size) (by show 2 ≤ 100; omega) (by intro x hx; simp only [List.mem_cons, List.not_mem_nil, or_false] at hx; rcases hx with rfl | rfl <;> exact Nat.zero_le _)
      rw [World.size_alloc] at hof8
      generalize ((w7.alloc (.cells #[] 5)).alloc (.cells #[.slice none 0 0, .slice (some ⟨w7.heap.size, 0, none⟩) 0 0] 23)) = w8 at *
      have HB8 := Lib.hid (HB7.out.trans (b8.mono HB7.out.size))
      have HPE8 : Hid (wrongI T l = 0 → En w8 p T l2) := Lib.hid fun h => (HPE.out h).keep b8
      clear b8 HPE HB7
      refine Calls.mono hof8 ?_
      rintro e' w9 ⟨m9, a9, c9, rfl, hset9, hb9⟩
      have HB9 := Lib.hid (HB8.out.trans (hb9.mono HB8.out.size))
      have HPE9 : Hid (wrongI T l = 0 → En w9 p T l2) := Lib.hid fun h => (HPE8.out h).keep hb9
      have HNN := Lib.hid (enew_any w9 T wT m9 a9 c9 [[], []] hset9 (by decide) (by intro x hx; simp only [List.mem_cons, List.not_mem_nil, or_false] at hx; rcases hx with rfl | rfl <;> exact Nat.zero_le _) (by decide))
      clear hof8 hset9 hb9 HB8 HPE8
      have hex := ex_none T HH2.out HH0.out HH3.out
      go_wp2_with fail
      refine HNN.out.mono ?_
      rintro e' w10 ⟨q, rfl, _, hqe, hb10⟩
      rw [hex]
      have HQE := Lib.hid (hqe hex)
      obtain ⟨gq, rfl⟩ := HQE.out.some
      have HB10 := Lib.hid (HB9.out.trans (hb10.mono HB9.out.size))
      have HPE10 : Hid (wrongI T l = 0 → En w10 p T l2) := Lib.hid fun h => (HPE9.out h).keep hb10
      clear hqe hb10 HNN HPE9 HB9 hex
      by_cases hz : wrongI T l = 0
      · have HEN := Lib.hid (HPE10.out hz)
        obtain ⟨gp, rfl⟩ := HEN.out.some
        have HZ := Lib.hid hz
        rw [hz]
        clear hz HPE10 HPN
        go_wp2_with fail
        refine (Met.new_any w10).mono ?_
        rintro e9 w11 ⟨rfl, hw11⟩
        have b11 : Below w10.heap.size w10 w11 := by rw [hw11]; exact below_new _ _
        have m11 : Met.Cnt w11 w10.heap.size 0 0 0 0 := by rw [hw11]; exact cnt_new w10
        have hsz10 := HB10.out.size
        have B11 := HB10.out.trans (b11.mono hsz10)
        clear hw11
        have CF := efind_any w11 (some gq) T [[], []] (HQE.out.keep b11) (some ⟨w10.heap.size, 0, none⟩) line aline cline (Lline.out w11 B11) hcapline Hnilline.out (by omega) 0 0 0 0 (.inr ⟨_, rfl, m11⟩) (by omega) (by omega) (by omega) (by omega)
        rw [none_find, (none_scan T line).1, (none_scan T line).2] at CF
        go_wp2_with fail
        refine CF.mono ?_
        rintro e10 w12 ⟨An, cAn, rfl, _, _, hM, hg⟩
        rw [empties_length]
        have hcn : Met.Cnt w12 w10.heap.size (0 + ((0 : Nat) : Int)) (0 + ((0 : Nat) : Int)) 0 0 := by
          rcases hM with h | ⟨g, h, hh⟩
          · cases h
          · cases h; exact hh
        have hb12 := grown_below b11 hg (Nat.le_refl _)
        have HB12 := Lib.hid (HB10.out.trans (hb12.mono hsz10))
        have HEN12 := Lib.hid (HEN.out.keep hb12)
        have HCT := Lib.hid (Met.counts_some w12 _ _ _ _ _ hcn)
        obtain ⟨N, hN⟩ : ∃ N, N = line.length + 1 := ⟨_, rfl⟩
        have hNi : (line.length : Int) + 1 = (N : Int) := by omega
        have hwN : IntKind.i64.wrap (N : Int) = (N : Int) := by rw [IntWalk.i64_in _ (by omega)]
        rw [← hN]
        have HN := Lib.hid hN
        have hNb : N ≤ 301 := by omega
        clear hM hg hb12 B11 b11 m11 CF hcn HEN hN HQE
        go_wp2_with (go_at_call 18; (with_reducible refine HCT.out.mono ?_); rintro e13 w13 ⟨rfl, hb13⟩; have HB13 := Lib.hid (HB12.out.trans (hb13.mono HB12.out.size)); have HEN13 := Lib.hid (HEN12.out.keep hb13); clear hb13)
        have CG := efind_any w13 (some gp) T l2 HEN13.out none line aline cline (Lline.out w13 HB13.out) hcapline Hnilline.out (by omega) 0 0 0 0 (.inl rfl) (by omega) (by omega) (by omega) (by omega)
        refine CG.mono ?_
        rintro e14 w14 ⟨AG, cG, rfl, hpG, _, _, hg14⟩
        have hb14 := Met.below_none hg14
        have HB14 := Lib.hid (HB13.out.trans (hb14.mono HB13.out.size))
        have HFE : Hid ((findOf l2 line).filter isE = empties N) := Lib.hid (by rw [HL2.out, find_eq, HN.out])
        have HFN : Hid ((findOf l2 line).filter (fun p => !isE p) = scanOf l line) := Lib.hid (by rw [HL2.out, find_ne])
        have hGl := find_length l2 line (by omega)
        generalize findOf l2 line = G at *
        have HPG := Lib.hid hpG
        clear hg14 hb14 hpG CG HEN13 HB13 HB12 HCT HEN12
        go_wp2
        go_loopw [19, 20, 21] (fun vr vk vi wr => ∃ i : Nat, i ≤ G.length ∧ vi = .int .i64 (i : Int) ∧ vk = .int .i64 (((G.take i).filter isE).length : Int) ∧ wr.ownsRow w14.heap.size 57 2 vr ((G.take i).filter fun p => !isE p).length (cellsOf ((G.take i).filter fun p => !isE p)) ∧ Below w14.heap.size w14 wr) (fun _ _ vi _ => G.length - (intOf vi).toNat)
        case atStart => exact ⟨0, Nat.zero_le _, rfl, rfl, World.ownsRow_nil _ _ _ _, Below.refl _ _⟩
        case round =>
          obtain ⟨i, hi, rfl, rfl, hown, hbel⟩ := hrel
          have HO := Lib.hid hown
          have HBL := Lib.hid hbel
          clear hown hbel
          by_cases hlt : i < G.length
          · have hlt2 : (i : Int) < (G.length : Int) := by omega
            obtain ⟨bG, oG, rfl, hbG, hcG⟩ := HPG.out (by omega)
            have k0 := (HBL.out.cell (p := ⟨bG, oG + i * 2, none⟩) hbG).trans (hcG i hlt).1
            have k1 := (HBL.out.cell (p := ⟨bG, oG + i * 2 + 1, none⟩) hbG).trans (hcG i hlt).2
            have HFT1 := Lib.hid (filter_take isE hlt)
            have HFT2 := Lib.hid (filter_take (fun p => !isE p) hlt)
            have HNE := Lib.hid (fun h => next_empty HFE.out hlt h)
            have hkl : ((G.take i).filter isE).length ≤ G.length := Nat.le_trans (List.length_filter_le _ _) (by rw [List.length_take]; omega)
            have hrl : ((G.take i).filter fun p => !isE p).length ≤ G.length := Nat.le_trans (List.length_filter_le _ _) (by rw [List.length_take]; omega)
            clear hcG
            obtain ⟨pr, hpr⟩ : ∃ pr, pr = G[i] := ⟨_, rfl⟩
            rw [← hpr] at k0 k1 HFT1 HFT2 HNE
            by_cases he : isE pr = true
            · have hse : (pr.s == pr.e) = true := by have := of_decide_eq_true he; rw [beq_iff_eq]; exact this
              have hnx := (HNE.out he).2
              rw [if_pos he] at HFT1
              have HF2 : Hid ((G.take (i + 1)).filter (fun p => !isE p) = (G.take i).filter fun p => !isE p) := Lib.hid (by rw [HFT2.out, he]; simp)
              have HF1 : Hid (((G.take (i + 1)).filter isE).length = ((G.take i).filter isE).length + 1) := Lib.hid (by rw [HFT1.out, List.length_append]; rfl)
              clear HFT1 HFT2 HNE
              generalize ((G.take i).filter isE).length = kk at *
              rw [hnx] at k0 k1
              clear hnx he hpr hse
              go_wp2
              refine wp_region_quiet_lit (by kernel_rfl) (by kernel_rfl) ?_
              refine wpQuiet_step (fun K hK => ?_)
              go_simp
              repeat
                (generalize hX : Act.mk _ _ = X
                 refine hK _ ?_
                 clear hK K
                 refine wpQuiet_step (fun K hK => ?_)
                 subst hX
                 go_simp)
              generalize hX : Act.mk _ _ = X
              refine hK _ ?_
              clear hK K
              refine wpQuiet_nil ?_
              intro _ hw'
              obtain ⟨nq, hw''⟩ := hw'
              subst hw''
              subst hX
              go_wp2
              go_roundw
              case rel => exact ⟨i + 1, by omega, by go_num, by rw [HF1.out]; go_num, by rw [HF2.out]; exact HO.out, below_drews HBL.out nq⟩
              case measure => simp [intOf]; omega
            · have he2 : isE pr = false := by simpa using he
              have hse : (pr.s == pr.e) = false := by rw [beq_eq_false_iff_ne]; exact fun h => he (decide_eq_true h)
              have HF1 : Hid (((G.take (i + 1)).filter isE).length = ((G.take i).filter isE).length) := Lib.hid (by rw [HFT1.out, he2]; simp)
              have HF2 : Hid ((G.take (i + 1)).filter (fun p => !isE p) = ((G.take i).filter fun p => !isE p) ++ [pr]) := Lib.hid (by rw [HFT2.out, he2]; rfl)
              clear HFT1 HFT2 HNE he he2 hpr hkl
              generalize ((G.take i).filter fun p => !isE p) = R at *
              generalize ((G.take i).filter isE).length = kk at *
              obtain ⟨ps, pe⟩ := pr
              go_wp2
              refine wp_region_quiet_lit (by kernel_rfl) (by kernel_rfl) ?_
              refine wpQuiet_step (fun K hK => ?_)
              go_simp
              repeat
                (generalize hX : Act.mk _ _ = X
                 refine hK _ ?_
                 clear hK K
                 refine wpQuiet_step (fun K hK => ?_)
                 subst hX
                 go_simp)
              generalize hX : Act.mk _ _ = X
              refine hK _ ?_
              clear hK K
              refine wpQuiet_nil ?_
              intro _ hw'
              obtain ⟨nq, hw''⟩ := hw'
              subst hw''
              subst hX
              go_wp2_with (at_builtin; refine app_ps rfl _ _ rfl w14.heap.size _ R.length R rfl ((own_keep HO.out (below_drews (Below.refl _ _) nq)).alloc _) (some ⟨wr.heap.size, 0, none⟩) [⟨ps, pe⟩] 1 (wr.heap.size + 1) rfl (by have := ps_one (wr.drewN nq) ⟨ps, pe⟩ (0, 0); rwa [World.size_alloc] at this) (fun e => by cases e) (by simp only [List.length_cons, List.length_nil]; omega) (by have := HBL.out.size; simp; omega) ?_; intro v7 w7' hown7 hg7)
              refine ⟨⟨i + 1, by omega, by go_num, by rw [HF1.out], by rw [HF2.out, List.length_append]; exact hown7, ?_⟩, by simp [intOf]; omega⟩
              exact (((below_drews HBL.out nq).alloc HBL.out.size _).grown hg7 (by have := HBL.out.size; simp; omega) (fun q hq => by have := Prs.own_ge HO.out hq; omega))
          · have hie : i = G.length := by omega
            have hlt2 : ¬ (i : Int) < (G.length : Int) := by omega
            have HK : Hid (((G.take i).filter isE).length = N) := Lib.hid (by rw [hie, List.take_length, HFE.out, empties_length])
            have HR : Hid ((G.take i).filter (fun p => !isE p) = scanOf l line) := Lib.hid (by rw [hie, List.take_length, HFN.out])
            rw [HR.out] at HO
            rw [HK.out]
            clear hie HK HR HFE HFN
            have HB15 := Lib.hid (HB14.out.trans (HBL.out.mono HB14.out.size))
            have hsl := scan_length l line (by omega)
            generalize wr = w15 at *
            clear HBL
            go_wp2
            go_loopw [22, 23] (fun vp vi wr => ∃ i : Nat, i ≤ xs.length ∧ vi = .int .i64 (i : Int) ∧ wr.ownsRow w15.heap.size 23 1 vp (plainX xs i).length (tvals (plainX xs i)) ∧ Below w15.heap.size w15 wr) (fun _ vi _ => xs.length - (intOf vi).toNat)
            case atStart => exact ⟨0, Nat.zero_le _, rfl, World.ownsRow_nil _ _ _ _, Below.refl _ _⟩
            case round =>
              obtain ⟨i, hi, rfl, hown, hbel⟩ := hrel
              have HO2 := Lib.hid hown
              have HBE := Lib.hid hbel
              have hsz := hbel.size
              have hpl := plainX_len xs i
              clear hown hbel
              by_cases hlt : i < xs.length
              · have hlt3 : (i : Int) < (xs.length : Int) := by omega
                obtain ⟨bx, ox, rfl, hbx, hcx⟩ := HTS.out.1 (by omega)
                have hcell := (((HB15.out.trans (HBE.out.mono HB15.out.size)).cell (p := ⟨bx, ox + i, none⟩) hbx)).trans (hcx i hlt)
                have HPS := Lib.hid (plainX_succ xs hlt)
                clear hcx
                generalize xs[i] = z at *
                by_cases hz : 0 < z.text.length
                · have hzi : (0 : Int) < (z.text.length : Int) := by omega
                  rw [if_pos hz] at HPS
                  go_wp2_with (at_builtin; refine app_ts rfl _ _ rfl _ _ _ (plainX xs i) z rfl (HO2.out.alloc _) ⟨wr.heap.size, 0, none⟩ rfl (cell_new1 wr _ 23) (by omega) (by simp; omega) ?_; intro v9 w9 hown9 hg9)
                  exact ⟨⟨i + 1, by omega, by go_num, by rw [HPS.out, List.length_append]; exact hown9, (HBE.out.alloc hsz _).grown hg9 (by simp; omega) (fun j hj => own_ge HO2.out hj)⟩, by simp [intOf]; omega⟩
                · have hzi : ¬ (0 : Int) < (z.text.length : Int) := by omega
                  rw [if_neg hz, List.append_nil] at HPS
                  go_wp2
                  exact ⟨⟨i + 1, by omega, by go_num, by rw [HPS.out]; exact HO2.out, HBE.out⟩, by simp [intOf]; omega⟩
              · have hlt3 : ¬ (i : Int) < (xs.length : Int) := by omega
                have hie : i = xs.length := by omega
                rw [hie] at HO2 hpl
                clear hie
                have hB16 := HB15.out.trans (HBE.out.mono HB15.out.size)
                have HB16 := Lib.hid hB16
                obtain ⟨ps, hps⟩ : ∃ ps, ps = plainX xs xs.length := ⟨_, rfl⟩
                rw [← hps] at HO2 hpl
                obtain ⟨Ap, cp, rfl, htsp, _, _⟩ := own_ts HO2.out (fun x hx => by
                  rw [hps] at hx
                  exact ((HTS.out.2 x (plainX_mem hx)).keep hB16).more hB16.size)
                have hp40 : ∀ x ∈ ps, x.text.length ≤ 40 := fun x hx => by rw [hps] at hx; exact HXX.out x (plainX_mem hx)
                obtain ⟨l3, hl3⟩ : ∃ l3, l3 = ps.map TxV.text := ⟨_, rfl⟩
                have HL3 : Hid (l3 = l.filter fun x => decide (0 < x.length)) := Lib.hid (by rw [hl3, hps, plainX_map, HLL.out])
                have HOF3 := Lib.hid (new_of wr ps Ap cp htsp (by omega) (fun y hy => Nat.le_trans (hp40 y hy) (by omega)))
                rw [← hl3] at HOF3
                have hl3n : l3.length ≤ 13 := by rw [hl3, List.length_map]; omega
                have HL340 : Hid (∀ x ∈ l3, x.length ≤ 40) := Lib.hid fun x h => by
                  rw [hl3] at h
                  obtain ⟨y, hy, rfl⟩ := List.mem_map.1 h
                  exact hp40 y hy
                have ht3 : tot l3 ≤ 600 := by have h1 : Pat.bytesIn l3 ≤ _ := Pat.bytesIn_le l3 40 HL340.out; rw [bytes_tot] at h1; have := Nat.mul_le_mul_right 40 hl3n; omega
                have hz3 : wrongI T l3 = 0 := by rw [HL3.out, wrong_filter l HH2.out, HZ.out]
                have HFD : Hid (findOf l3 line = scanOf l line) := Lib.hid (by rw [HL3.out, find_filter])
                have HRS := Lib.hid (own_keep HO.out HBE.out)
                clear hB16 htsp hp40 hl3 hps HO2
                go_wp2_with fail
                refine HOF3.out.mono ?_
                rintro e' w17 ⟨m17, a17, c17, rfl, hset17, hb17⟩
                have HB17 := Lib.hid (HB16.out.trans (hb17.mono HB16.out.size))
                have HNW3 := Lib.hid (enew_any w17 T wT m17 a17 c17 l3 hset17 (by omega) (fun x h => Nat.le_trans (HL340.out x h) (by omega)) (by omega))
                have HRS17 := Lib.hid (own_keep HRS.out hb17)
                clear hset17 hb17 HOF3 HRS
                go_wp2_with fail
                refine HNW3.out.mono ?_
                rintro e' w18 ⟨q3, rfl, _, hqe, hb18⟩
                rw [hz3]
                have HE3 := Lib.hid (hqe hz3)
                obtain ⟨g3, rfl⟩ := HE3.out.some
                have HB18 := Lib.hid (HB17.out.trans (hb18.mono HB17.out.size))
                have HRS18 := Lib.hid (own_keep HRS17.out hb18)
                clear hqe hb18 hz3 HNW3 HRS17 HB17
                obtain ⟨aR, cR, rfl, hcR, hnR, hpR⟩ := own_ps HRS18.out rfl
                have C3 := efind_any w18 (some g3) T l3 HE3.out none line aline cline (Lline.out w18 HB18.out) hcapline Hnilline.out (by omega) 0 0 0 0 (.inl rfl) (by omega) (by omega) (by omega) (by omega)
                rw [HFD.out] at C3
                have HC3 := Lib.hid C3
                have HPR := Lib.hid hpR
                clear C3 hpR HRS18 hcR hnR HFD
                go_wp2_with fail
                refine HC3.out.mono ?_
                rintro e19 w19 ⟨A3, cA3, rfl, hp3, _, _, hg19⟩
                have hb19 := Met.below_none hg19
                have HB19 := Lib.hid (HB18.out.trans (hb19.mono HB18.out.size))
                have HSM := Lib.hid (same_any (scanOf l line) (scanOf l line) aR A3 cR cA3 w19 (by omega) ((HPR.out.keep hb19).more hb19.size) hp3)
                clear hg19 hb19 hp3 HC3
                go_wp2_with fail
                refine HSM.out.mono ?_
                rintro e20 w20 ⟨rfl, q20, rfl⟩
                rw [decide_eq_true trivial]
                go_wp2
                go_ret
                exact ⟨rfl, below_drews (HB.out.trans (HB19.out.mono hszw)) q20⟩
      · have hz1 : T = 1 ∧ wrongI T l = 14 := by
          rcases wrong_tag HH0.out HH3.out l with h | h | h
          · exact absurd h hz
          · exfalso
            unfold wrongI at h
            rw [if_neg (by have := HH0.out; have := HH3.out; omega), if_neg (by rintro ⟨h, _⟩; exact HH2.out h)] at h
            split at h <;> cases h
          · refine ⟨?_, h⟩
            unfold wrongI at h
            rw [if_neg (by have := HH0.out; have := HH3.out; omega), if_neg (by rintro ⟨h, _⟩; exact HH2.out h)] at h
            by_cases h5 : T = 1 ∧ 160 < (paths (Pat.pats l)).length
            · exact h5.1
            · rw [if_neg h5] at h; cases h
        have hp0 := HPN.out hz
        subst hp0
        rw [hz1.2]
        have hT1 := hz1.1
        clear hz HPE10 HPN hz1 HZ2
        subst hT1
        go_wp2
        go_ret
        exact ⟨rfl, HB.out.trans (HB10.out.mono hszw)⟩
  · have hfi : decide ((300 : Int) < (line.length : Int)) = true := decide_eq_true (by omega)
    go_wp2
    go_ret
    exact ⟨rfl, HB.out⟩
set_option maxHeartbeats 8000000 in
theorem walk (w : World) (xs : List TxV) (a0 : Option Addr) (cap0 : Nat) (hz0 : xs.length ≤ 6000000000000) (hx0 : ∀ x ∈ xs, x.text.length ≤ maxLen) (hts : Ts w a0 xs) (hn0 : a0 = none → cap0 = 0) (line : Tx) (aline : Option Addr) (cline : Nat) (hmline : line.length ≤ maxLen) (hbline : Bs w w.heap.size aline line) (hnline : aline = none → cline = 0) (hcline : line.length ≤ cline) (ta : UInt8) :
    Calls Tryz.prog 5 #[.slice a0 xs.length cap0, .slice aline line.length cline, .int .u8 (ta.toNat : Int)] w fun e w' => e = .returned (.bool true) ∧ Below w.heap.size w w' := by
  by_cases hall : xs.length ≤ 12 ∧ (∀ x ∈ xs, x.text.length ≤ 40)
  · exact small w xs a0 cap0 hts hall.1 hall.2 hn0 line aline cline hmline hbline hnline hcline ta
  · clear hmline hbline hnline hcline
    have HALL := Lib.hid hall
    have HX := Lib.hid hx0
    clear hall hx0
    go_enter Tryz.func5, Tryz.ntmps5
    go_wp2_with fail
    refine (Eng.awake_any _).mono ?_
    rintro e' w1 ⟨rfl, hb2⟩
    have ts1 := hts.keep hb2
    go_wp2_with fail
    refine (ltexts_any xs a0 cap0 w1 ts1 hz0 HX.out).mono ?_
    rintro e' w2 ⟨hb3, hcase⟩
    have B2 := hb2.trans (hb3.mono hb2.size)
    rcases hcase with ⟨_, rfl⟩ | ⟨hok, aL, cL, rfl, _⟩
    · skip
      go_wp2
      go_ret
      exact ⟨rfl, B2⟩
    · have h12 : ¬ xs.length ≤ 12 := fun h => HALL.out ⟨h, hok⟩
      rw [decide_eq_false h12]
      clear HALL hok
      go_wp2
      go_ret
      exact ⟨rfl, B2⟩
end Go.Proofs.YtcbhjhhajeeimaaGreat.engineEmpty
