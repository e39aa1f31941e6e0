/- The walk of TrieOrder. -/
import Derived.Test.YtljnhkpcodecgaaTk
namespace Go.Proofs.Ytljnhkpcodecgaa.trieOrder
open Go.Proofs.Ytljnhkpcodecgaa.Tri Go.RowKit Go.Maps
attribute [local go_sem ↓] Go.wp_at_zero Go.wp_at_succ
set_option maxRecDepth 100000 in
set_option maxHeartbeats 8000000 in
/-- Texts that are few and short. -/
theorem small (w : World) (xs : List TxV) (a0 : Option Addr) (cap0 : Nat) (hts : Ts w a0 xs) (h0 : xs.length ≤ 12) (hx : ∀ x ∈ xs, x.text.length ≤ 40) (hx0 : 0 < xs.length) (c : UInt8) (b : Tx) (ab : Option Addr) (capb : Nat) (hb : Bs w w.heap.size ab b) (hb60 : b.length ≤ 60) :
    Calls Try.prog 7 #[.slice a0 xs.length cap0, .int .u8 (c.toNat : Int), .slice ab b.length capb] w fun e w' => e = .returned (.bool true) ∧ Below w.heap.size w w' := by
  have hgb : ¬ (60 : Int) < (b.length : Int) := by omega
  have hx' : ∀ x ∈ xs, x.text.length ≤ maxLen := fun x h => Nat.le_trans (hx x h) (by unfold maxLen; omega)
  have htot := few_tot h0 hx
  have hps := few_len htot
  have hsh : ∀ p ∈ paths (xs.map TxV.text), p.length ≤ 40 := fun p hp => path_short (fun x h => by
    obtain ⟨y, hy, rfl⟩ := List.mem_map.1 h
    exact hx y hy) hp
  have HSH := Lib.hid hsh
  have HX := Lib.hid hx
  have HX' := Lib.hid hx'
  clear hx hx' hsh
  go_enter Try.func7, Try.ntmps7
  go_wp2_with fail
  refine (awake_any _).mono ?_
  rintro e' w1 ⟨rfl, hb2⟩
  have ts1 := hts.keep hb2
  go_wp2_with fail
  refine (ltexts_any xs a0 cap0 w1 ts1 (by omega) HX'.out).mono ?_
  rintro e' w2 ⟨hb3, hcase⟩
  rcases hcase with ⟨hbad, _⟩ | ⟨_, aL, cL, rfl, hsL⟩
  · exact absurd HX.out hbad
  rw [decide_eq_true h0]
  have ts2 := ts1.keep hb3
  have B2 := hb2.trans (hb3.mono hb2.size)
  clear hb2 hb3 ts1 hts
  have HBB := Lib.hid ((hb.keep B2).more B2.size)
  have HB2 := Lib.hid B2
  have TS := Lib.hid ts2
  clear hb B2 ts2 hsL
  have hne : ((xs.length : Int) == 0) = false := beq_eq_false_iff_ne.2 (by omega)
  obtain ⟨n, hn⟩ : ∃ n, n = xs.length := ⟨_, rfl⟩
  have HN : Hid (n = xs.length) := Lib.hid hn
  rw [← hn] at h0 hx0 hne ⊢
  clear hn
  obtain ⟨turn, ht⟩ : ∃ turn, turn = c.toNat := ⟨_, rfl⟩
  have htl : turn < 256 := by rw [ht]; exact c.toNat_lt
  rw [← ht]
  clear ht
  obtain ⟨bx, ox, rfl, hbx, hcx⟩ := TS.out.1 (by rw [← HN.out]; exact hx0)
  have HCX := Lib.hid hcx
  clear hcx
  obtain ⟨d, hd⟩ : ∃ d : TxV, d ∈ xs := ⟨xs[0]'(by rw [← HN.out]; exact hx0), List.getElem_mem _⟩
  go_wp2
  go_loopw [10, 11] (fun v i wr => ∃ k : Nat, k ≤ n ∧ i = .int .i64 k ∧ wr.ownsRow w2.heap.size 32 1 v k (tvals (rot xs d turn k)) ∧ Below w2.heap.size w2 wr) (fun _ i _ => n - (intOf i).toNat)
  case atStart => exact ⟨0, Nat.zero_le _, rfl, World.ownsRow_nil _ _ _ _, Below.refl _ _⟩
  case round =>
    obtain ⟨k, hk, rfl, hown, hbel⟩ := hrel
    by_cases hlt : k < n
    · obtain ⟨r, hr⟩ : ∃ r, (k + turn) % n = r := ⟨_, rfl⟩
      have hrn : r < n := by rw [← hr]; exact Nat.mod_lt _ hx0
      have hri : ((k : Int) + (turn : Int)) % (n : Int) = (r : Int) := by rw [← hr]; simp
      have hrx : r < xs.length := by rw [← HN.out]; exact hrn
      have hmx : (k + turn) % xs.length < xs.length := by rw [← HN.out, hr]; exact hrn
      have HE := Lib.hid (rot_succ xs d turn k hmx)
      have HXR : Hid (xs[(k + turn) % xs.length] = xs[r]) := Lib.hid (by simp only [← HN.out, hr])
      have hcell := (hbel.cell (p := ⟨bx, ox + r, none⟩) hbx).trans (HCX.out r hrx)
      have HO := Lib.hid hown
      have HBE := Lib.hid hbel
      have hkn : (k : Int) < (n : Int) := by omega
      have hri2 : (r : Int) < (n : Int) := by omega
      have hsz := hbel.size
      clear hown hbel hr
      go_wp2_with (at_builtin; (refine app_ts rfl _ _ rfl w2.heap.size _ k (rot xs d turn k) xs[r] rfl (HO.out.alloc _) ⟨wr.heap.size, 0, none⟩ rfl (cell_new1 _ _ _) (by omega) (by simp; omega) ?_); intro v3 w3 hown3 hg3)
      go_roundw
      case rel =>
        refine ⟨k + 1, by omega, by go_num, ?_, (HBE.out.alloc hsz _).grown hg3 (by simp; omega) (fun q hq => own_ge HO.out hq)⟩
        rw [HE.out, HXR.out]
        exact hown3
      case measure => simp [intOf]; omega
    · obtain rfl : k = n := by omega
      have hx00 : 0 < xs.length := by rw [← HN.out]; exact hx0
      have hcell0 := (hbel.cell (p := ⟨bx, ox + 0, none⟩) hbx).trans (HCX.out 0 hx00)
      rw [Nat.add_zero] at hcell0
      have HO := Lib.hid hown
      have HBE := Lib.hid hbel
      have hsz := hbel.size
      have hkn : ¬ (k : Int) < (k : Int) := by omega
      have hk0 : (0 : Int) < (k : Int) := by omega
      clear hown hbel
      go_wp2_with (first | (at_builtin; (refine app_ts rfl _ _ rfl w2.heap.size _ k (rot xs d turn k) xs[0] rfl (HO.out.alloc _) ⟨wr.heap.size, 0, none⟩ rfl (cell_new1 _ _ _) (by omega) (by simp; omega) ?_); intro v3 w3 hown3 hg3) | fail)
      have HKX := HN
      obtain ⟨os, hos⟩ : ∃ os, os = rot xs d turn k ++ [xs[0]] := ⟨_, rfl⟩
      rw [← hos] at hown3
      have hol : os.length = k + 1 := by rw [hos, List.length_append, rot_length]; rfl
      have hom : ∀ x, x ∈ os ↔ x ∈ xs := fun x => by
        rw [hos, List.mem_append]
        have hrm := rot_mem xs d turn hx00 x
        rw [← HN.out] at hrm
        rw [hrm]
        exact ⟨fun h => h.elim id (fun h => by rw [List.mem_singleton] at h; rw [h]; exact List.getElem_mem hx00), .inl⟩
      have B3 := (HBE.out.alloc hsz _).grown hg3 (by simp; omega) (fun q hq => own_ge HO.out hq)
      have TS3 := TS.out.keep B3
      rw [← hol] at hown3
      obtain ⟨a3, c3, rfl, ts3, _, _⟩ := own_ts hown3 (fun x hx => TS3.2 x ((hom x).1 hx))
      obtain ⟨l, hl⟩ : ∃ l, l = xs.map TxV.text := ⟨_, rfl⟩
      obtain ⟨o, ho⟩ : ∃ o, o = os.map TxV.text := ⟨_, rfl⟩
      have hmem : ∀ x, x ∈ o ↔ x ∈ l := fun x => by
        rw [ho, hl, List.mem_map, List.mem_map]
        exact ⟨fun ⟨y, hy, e⟩ => ⟨y, (hom y).1 hy, e⟩, fun ⟨y, hy, e⟩ => ⟨y, (hom y).2 hy, e⟩⟩
      have hto : tot o ≤ 520 := by
        have := tot_le o 40 (fun x h => by
          rw [ho] at h
          obtain ⟨y, hy, rfl⟩ := List.mem_map.1 h
          exact HX.out y ((hom y).1 hy))
        have e : o.length = k + 1 := by rw [ho, List.length_map, hol]
        rw [e] at this
        omega
      have BT := build_any w3 xs (some ⟨bx, ox, none⟩) cap0 TS3 (by rw [← HN.out]; omega) (by omega)
      have BS := Lib.hid (fun (X : World) (hX : Below w3.heap.size w3 X) => build_any X os a3 c3 (ts3.keep hX) (by omega) (by rw [← ho]; omega))
      rw [← ho, hol] at BS
      rw [← hl, ← HN.out] at BT
      rw [← hl] at hps HSH htot
      have hsame := paths_same hmem
      have hslen := paths_same_len hmem
      have HMEM := Lib.hid hmem
      have HB3 := Lib.hid (HB2.out.trans (B3.mono HB2.out.size))
      have HBB3 := Lib.hid ((HBB.out.keep B3).more B3.size)
      rw [hol]
      clear hown3 hg3 HO HBE hos hom ts3 TS3 TS hl ho hmem B3 hcell0 hto htot HBB HB2 hol HKX HCX
      generalize hpp : paths l = ps at *
      generalize hpo : paths o = po at *
      clear hpp hpo
      have HSAME := Lib.hid hsame
      clear hsame
      go_wp2_with (first
        | (go_at_call 11; (with_reducible refine BT.mono ?_); rintro e w6 ⟨t, rfl, htr, hb⟩; have HTT := Lib.hid htr; have B7 := Lib.hid hb; clear htr hb)
        | (go_at_call 11; (with_reducible refine (BS.out _ B7.out).mono ?_); rintro e W0 ⟨u, rfl, htr, hb⟩; have HTU := Lib.hid htr; have B8 := Lib.hid hb; clear htr hb)
        | fail)
      have B9 := Lib.hid (B7.out.trans (B8.out.mono B7.out.size))
      have HB := Lib.hid (HB3.out.trans (B9.out.mono HB3.out.size))
      have HT : Hid (∀ X, Below W0.heap.size W0 X → Tr X w3.heap.size t ps l) := Lib.hid fun X hX => (HTT.out.keep B8.out).keep hX
      have HU : Hid (∀ X, Below W0.heap.size W0 X → Tr X w6.heap.size u po o) := Lib.hid fun X hX => HTU.out.keep hX
      have HBW : Hid (∀ X, Below W0.heap.size W0 X → Bs X X.heap.size ab b) := Lib.hid fun X hX => (((HBB3.out.keep B9.out).more B9.out.size).keep hX).more hX.size
      have HW := Lib.hid HTT.out.2.1
      have HWO := Lib.hid HTU.out.2.1
      clear BT BS B7 B8 B9 HTT HTU HB3 HBB3
      generalize w3.heap.size = s at *
      generalize w6.heap.size = s2 at *
      have CN1 := Lib.hid (fun X (hX : Below W0.heap.size W0 X) => nodes_any X s t ps l (HT.out _ hX))
      have CN2 := Lib.hid (fun X (hX : Below W0.heap.size W0 X) => nodes_any X s2 u po o (HU.out _ hX))
      rw [hslen] at CN2
      have CF1 := Lib.hid (find_any W0 s t ps l (HT.out _ (Below.refl _ _)) b ab capb _ (HBW.out _ (Below.refl _ _)) (by omega))
      have CF2 := Lib.hid (find_any W0 s2 u po o (HU.out _ (Below.refl _ _)) b ab capb _ (HBW.out _ (Below.refl _ _)) (by omega))
      obtain ⟨g, hg⟩ : ∃ g, g = decide (0 ≤ place ps b) := ⟨_, rfl⟩
      have d1 : decide (0 ≤ place ps b) = g := hg.symm
      have d2 : decide (0 ≤ place po b) = g := by rw [hg]; exact decide_eq_decide.2 (by rw [place_nonneg, place_nonneg, HSAME.out])
      clear hg
      generalize place ps b = z1 at *
      generalize place po b = z2 at *
      have HSL := Lib.hid hslen
      clear hslen
      go_wp2_with (first
        | (go_at_call 13; (with_reducible refine (CN1.out _ (Below.refl _ _)).mono ?_); rintro e x' ⟨rfl, rfl⟩)
        | (go_at_call 13; (with_reducible refine (CN2.out _ (Below.refl _ _)).mono ?_); rintro e x' ⟨rfl, rfl⟩)
        | (go_at_call 22; (with_reducible refine CF1.out.mono ?_); rintro e x' ⟨rfl, rfl⟩)
        | (go_at_call 22; (with_reducible refine CF2.out.mono ?_); rintro e x' ⟨rfl, rfl⟩))
      clear d1 d2 CF1 CF2
      go_loopw [14] (fun i wr => ∃ q : Nat, q ≤ ps.length ∧ i = .int .i64 q ∧ Below W0.heap.size W0 wr) (fun i _ => ps.length - (intOf i).toNat)
      case atStart => exact ⟨0, Nat.zero_le _, rfl, Below.refl _ _⟩
      case round =>
        obtain ⟨q, hq, rfl, hbel⟩ := hrel
        by_cases hlt : q < ps.length
        · have hql : (q : Int) < (ps.length : Int) := by omega
          have h40 := HSH.out _ (List.getElem_mem hlt)
          obtain ⟨j, hj, ej, ej2, _⟩ := place_mem ((HSAME.out ps[q]).2 (List.getElem_mem hlt))
          have hjl : j < 1000000 := by have := HSL.out; omega
          have HP : Hid (Calls Try.prog 15 #[.pointer (some ⟨t, 0, none⟩), .int .i64 (q : Int)] wr (GivesText wr ps[q])) := Lib.hid (by
            have := path_any wr s t ps l (HT.out _ hbel) (q : Int) (by rw [pathD_at hlt]; omega)
            rwa [pathD_at hlt] at this)
          have HF : Hid (∀ X, Below W0.heap.size W0 X → ∀ a cap, Bs X X.heap.size a ps[q] → Calls Try.prog 22 #[.pointer (some ⟨u, 0, none⟩), .slice a ps[q].length cap] X fun e w' => e = .returned (.int .i64 (j : Int)) ∧ X = w') := Lib.hid fun X hX a cap hb => by
            have := find_any X s2 u po o (HU.out _ hX) ps[q] a cap _ hb (by omega)
            rwa [ej] at this
          have HDT : Hid (∀ X, Below W0.heap.size W0 X → Calls Try.prog 16 #[.pointer (some ⟨t, 0, none⟩), .int .i64 (q : Int)] X fun e w' => e = .returned (.int .i64 (ps[q].length : Int)) ∧ Below X.heap.size X w') := Lib.hid fun X hX => by
            have := depth_any X s t ps l (HT.out _ hX) (q : Int)
            rwa [pathD_at hlt] at this
          have HDU : Hid (∀ X, Below W0.heap.size W0 X → Calls Try.prog 16 #[.pointer (some ⟨u, 0, none⟩), .int .i64 (j : Int)] X fun e w' => e = .returned (.int .i64 (ps[q].length : Int)) ∧ Below X.heap.size X w') := Lib.hid fun X hX => by
            have := depth_any X s2 u po o (HU.out _ hX) (j : Int)
            rwa [pathD_at hj, ej2] at this
          have HWT : Hid (∀ X, Below W0.heap.size W0 X → Calls Try.prog 18 #[.pointer (some ⟨t, 0, none⟩), .int .i64 (q : Int)] X fun e w' => e = .returned (.int .i64 (place l ps[q])) ∧ Below X.heap.size X w') := Lib.hid fun X hX => by
            have := word_any X s t ps l (HT.out _ hX) (q : Int)
            rwa [wordOf_at l hlt] at this
          have HWU : Hid (∀ X, Below W0.heap.size W0 X → Calls Try.prog 18 #[.pointer (some ⟨u, 0, none⟩), .int .i64 (j : Int)] X fun e w' => e = .returned (.int .i64 (place o ps[q])) ∧ Below X.heap.size X w') := Lib.hid fun X hX => by
            have := word_any X s2 u po o (HU.out _ hX) (j : Int)
            rwa [wordOf_at o hj, ej2] at this
          have HKT := Lib.hid (fun X (hX : Below W0.heap.size W0 X) => kids_any X s t ps l (HT.out _ hX) (q : Int) (wf_nat (by omega) (by omega)))
          have HKU : Hid (∀ X, Below W0.heap.size W0 X → Calls Try.prog 19 #[.pointer (some ⟨u, 0, none⟩), .int .i64 (j : Int)] X (GivesText X (kidsOf ps (q : Int)))) := Lib.hid fun X hX => by
            have := kids_any X s2 u po o (HU.out _ hX) (j : Int) (wf_nat (by omega) (by omega))
            rwa [kids_same HSAME.out hlt hj ej2] at this
          obtain ⟨g, hg⟩ : ∃ g, g = decide (0 ≤ place l ps[q]) := ⟨_, rfl⟩
          have d1 : decide (0 ≤ place l ps[q]) = g := hg.symm
          have d2 : decide (0 ≤ place o ps[q]) = g := by rw [hg]; exact decide_eq_decide.2 (by rw [place_nonneg, place_nonneg, HMEM.out])
          have CNW := Lib.hid (CN1.out _ hbel)
          have HBE := Lib.hid hbel
          have hj0 : decide ((j : Int) < 0) = false := decide_eq_false (by omega)
          clear hg hbel ej ej2
          generalize kidsOf ps (q : Int) = kk at *
          generalize place l ps[q] = z1 at *
          generalize place o ps[q] = z2 at *
          generalize ps[q] = p at *
          go_wp2_with (first
            | (go_at_call 13; (with_reducible refine CNW.out.mono ?_); rintro e x' ⟨rfl, rfl⟩)
            | (go_at_call 15; (with_reducible refine HP.out.mono ?_); rintro e x9 ⟨ap, cp, rfl, htp, _, _, hb3⟩; have D9 := Lib.hid (HBE.out.trans (hb3.mono HBE.out.size)); have HBS := Lib.hid htp.bs; clear htp hb3)
            | (go_at_call 22; (with_reducible refine (HF.out _ D9.out _ _ HBS.out).mono ?_); rintro e x' ⟨rfl, rfl⟩)
            | fail)
          refine wp_region_held_drew (S := fun w' => Below x9.drew.heap.size x9.drew w') (by kernel_rfl) (Below.refl _ _) (fun hH0 => ?_)
          have B0 := Lib.hid (below_drews D9.out 1)
          change Hid (Below _ _ x9.drew) at B0
          generalize x9.drew = x0 at *
          refine held_take (i := 0) (d := 93) (oi := _) (v := ?_) rfl rfl (by kernel_rfl) (by kernel_rfl) (by kernel_rfl) (fun _ _ _ h => h) (Or.inl ⟨by rfl, ?_⟩) (by assumption) ?_
          rotate_left
          · (intro w hSw; clear hSw; go_simp; (try with_reducible rfl))
          simp only [Act.put, List.setIfInBounds_toArray, List.set_cons_zero, List.set_cons_succ]
          refine held_take (i := 1) (d := 94) (oi := _) (v := ?_) rfl rfl (by kernel_rfl) (by kernel_rfl) (by kernel_rfl) (fun _ _ _ h => h) (Or.inl ⟨by rfl, ?_⟩) (by assumption) ?_
          rotate_left
          · (intro w hSw; clear hSw; go_simp; (try with_reducible rfl))
          simp only [Act.put, List.setIfInBounds_toArray, List.set_cons_zero, List.set_cons_succ]
          refine held_take (i := 2) (d := 95) (oi := _) (v := ?_) rfl rfl (by kernel_rfl) (by kernel_rfl) (by kernel_rfl) (fun _ _ _ h => h) (Or.inl ⟨by rfl, ?_⟩) (by assumption) ?_
          rotate_left
          · (intro w hSw; clear hSw; go_simp; (try with_reducible rfl))
          simp only [Act.put, List.setIfInBounds_toArray, List.set_cons_zero, List.set_cons_succ]
          refine held_take (i := 3) (d := 96) (oi := _) (v := ?_) rfl rfl (by kernel_rfl) (by kernel_rfl) (by kernel_rfl) (fun _ _ _ h => h) (Or.inl ⟨by rfl, ?_⟩) (by assumption) ?_
          rotate_left
          · (intro w hSw; clear hSw; go_simp; (try with_reducible rfl))
          simp only [Act.put, List.setIfInBounds_toArray, List.set_cons_zero, List.set_cons_succ]
          refine held_take (i := 4) (d := 97) (oi := _) (v := ?_) rfl rfl (by kernel_rfl) (by kernel_rfl) (by kernel_rfl) (fun _ _ _ h => h) (Or.inl ⟨by rfl, ?_⟩) (by assumption) ?_
          rotate_left
          · (intro w hSw; clear hSw; go_simp; (try with_reducible rfl))
          simp only [Act.put, List.setIfInBounds_toArray, List.set_cons_zero, List.set_cons_succ]
          refine held_take (i := 6) (d := 99) (oi := _) (v := ?_) rfl rfl (by kernel_rfl) (by kernel_rfl) (by kernel_rfl) (fun _ _ _ h => h) (Or.inl ⟨by rfl, ?_⟩) (by assumption) ?_
          rotate_left
          · (intro w hSw; clear hSw; go_simp; (try with_reducible rfl))
          simp only [Act.put, List.setIfInBounds_toArray, List.set_cons_zero, List.set_cons_succ]
          refine held_take (i := 7) (d := 100) (oi := _) (v := ?_) rfl rfl (by kernel_rfl) (by kernel_rfl) (by kernel_rfl) (fun _ _ _ h => h) (Or.inl ⟨by rfl, ?_⟩) (by assumption) ?_
          rotate_left
          · (intro w hSw; clear hSw; go_simp; (try with_reducible rfl))
          simp only [Act.put, List.setIfInBounds_toArray, List.set_cons_zero, List.set_cons_succ]
          refine wpAnyH_ready (rs := [5]) (by kernel_rfl) (by simp) ?_
          refine AllReadyH.cons rfl (fun K hK => ?_) AllReadyH.nil
          go_simp
          go_wp2_with (go_at_call 16; (with_reducible refine (HDU.out _ B0.out).mono ?_); rintro e x1 ⟨rfl, hb⟩)
          refine hK.out _ _ hb (fun _ => ?_)
          have B1 := Lib.hid (B0.out.trans (hb.mono B0.out.size))
          refine wpAnyH_more (S' := fun w' => Below x1.heap.size x1 w') (fun w' h => hb.trans (h.mono hb.size)) _ _ _ _ ?_
          have hH1 : Below x1.heap.size x1 x1 := Below.refl _ _
          clear hK K hH0 hb B0
          refine wpAnyH_ready (rs := [8]) (by kernel_rfl) (by simp) ?_
          refine AllReadyH.cons rfl (fun K hK => ?_) AllReadyH.nil
          go_simp
          go_wp2_with (go_at_call 16; (with_reducible refine (HDT.out _ B1.out).mono ?_); rintro e x2 ⟨rfl, hb⟩)
          refine hK.out _ _ hb (fun _ => ?_)
          have B2 := Lib.hid (B1.out.trans (hb.mono B1.out.size))
          refine wpAnyH_more (S' := fun w' => Below x2.heap.size x2 w') (fun w' h => hb.trans (h.mono hb.size)) _ _ _ _ ?_
          have hH2 : Below x2.heap.size x2 x2 := Below.refl _ _
          clear hK K hH1 hb B1
          refine held_take (i := 9) (d := 102) (oi := _) (v := ?_) rfl rfl (by kernel_rfl) (by kernel_rfl) (by kernel_rfl) (fun _ _ _ h => h) (Or.inl ⟨by rfl, ?_⟩) (by assumption) ?_
          rotate_left
          · (intro w hSw; clear hSw; go_simp; (try with_reducible rfl))
          simp only [Act.put, List.setIfInBounds_toArray, List.set_cons_zero, List.set_cons_succ]
          refine held_take (i := 10) (d := 103) (oi := _) (v := ?_) rfl rfl (by kernel_rfl) (by kernel_rfl) (by kernel_rfl) (fun _ _ _ h => h) (Or.inl ⟨by rfl, ?_⟩) (by assumption) ?_
          rotate_left
          · (intro w hSw; clear hSw; go_simp; (try with_reducible rfl))
          simp only [Act.put, List.setIfInBounds_toArray, List.set_cons_zero, List.set_cons_succ]
          refine held_take (i := 11) (d := 104) (oi := _) (v := ?_) rfl rfl (by kernel_rfl) (by kernel_rfl) (by kernel_rfl) (fun _ _ _ h => h) (Or.inl ⟨by rfl, ?_⟩) (by assumption) ?_
          rotate_left
          · (intro w hSw; clear hSw; go_simp; (try with_reducible rfl))
          simp only [Act.put, List.setIfInBounds_toArray, List.set_cons_zero, List.set_cons_succ]
          refine held_take (i := 12) (d := 105) (oi := _) (v := ?_) rfl rfl (by kernel_rfl) (by kernel_rfl) (by kernel_rfl) (fun _ _ _ h => h) (Or.inl ⟨by rfl, ?_⟩) (by assumption) ?_
          rotate_left
          · (intro w hSw; clear hSw; go_simp; (try with_reducible rfl))
          simp only [Act.put, List.setIfInBounds_toArray, List.set_cons_zero, List.set_cons_succ]
          refine held_take (i := 13) (d := 106) (oi := _) (v := ?_) rfl rfl (by kernel_rfl) (by kernel_rfl) (by kernel_rfl) (fun _ _ _ h => h) (Or.inl ⟨by rfl, ?_⟩) (by assumption) ?_
          rotate_left
          · (intro w hSw; clear hSw; go_simp; (try with_reducible rfl))
          simp only [Act.put, List.setIfInBounds_toArray, List.set_cons_zero, List.set_cons_succ]
          refine held_take (i := 16) (d := 109) (oi := _) (v := ?_) rfl rfl (by kernel_rfl) (by kernel_rfl) (by kernel_rfl) (fun _ _ _ h => h) (Or.inl ⟨by rfl, ?_⟩) (by assumption) ?_
          rotate_left
          · (intro w hSw; clear hSw; go_simp; (try with_reducible rfl))
          simp only [Act.put, List.setIfInBounds_toArray, List.set_cons_zero, List.set_cons_succ]
          refine held_take (i := 17) (d := 110) (oi := _) (v := ?_) rfl rfl (by kernel_rfl) (by kernel_rfl) (by kernel_rfl) (fun _ _ _ h => h) (Or.inl ⟨by rfl, ?_⟩) (by assumption) ?_
          rotate_left
          · (intro w hSw; clear hSw; go_simp; (try with_reducible rfl))
          simp only [Act.put, List.setIfInBounds_toArray, List.set_cons_zero, List.set_cons_succ]
          refine wpAnyH_ready (rs := [14]) (by kernel_rfl) (by simp) ?_
          refine AllReadyH.cons rfl (fun K hK => ?_) AllReadyH.nil
          go_simp
          go_wp2_with (go_at_call 18; (with_reducible refine (HWU.out _ B2.out).mono ?_); rintro e x3 ⟨rfl, hb⟩)
          refine hK.out _ _ hb (fun _ => ?_)
          have B3 := Lib.hid (B2.out.trans (hb.mono B2.out.size))
          refine wpAnyH_more (S' := fun w' => Below x3.heap.size x3 w') (fun w' h => hb.trans (h.mono hb.size)) _ _ _ _ ?_
          have hH3 : Below x3.heap.size x3 x3 := Below.refl _ _
          clear hK K hH2 hb B2
          refine held_take (i := 15) (d := 108) (oi := _) (v := ?_) rfl rfl (by kernel_rfl) (by kernel_rfl) (by kernel_rfl) (fun _ _ _ h => h) (Or.inl ⟨by rfl, ?_⟩) (by assumption) ?_
          rotate_left
          · (intro w hSw; clear hSw; go_simp; (try with_reducible rfl))
          simp only [Act.put, List.setIfInBounds_toArray, List.set_cons_zero, List.set_cons_succ]
          refine wpAnyH_ready (rs := [18]) (by kernel_rfl) (by simp) ?_
          refine AllReadyH.cons rfl (fun K hK => ?_) AllReadyH.nil
          go_simp
          go_wp2_with (go_at_call 18; (with_reducible refine (HWT.out _ B3.out).mono ?_); rintro e x4 ⟨rfl, hb⟩)
          refine hK.out _ _ hb (fun _ => ?_)
          have B4 := Lib.hid (B3.out.trans (hb.mono B3.out.size))
          refine wpAnyH_more (S' := fun w' => Below x4.heap.size x4 w') (fun w' h => hb.trans (h.mono hb.size)) _ _ _ _ ?_
          have hH4 : Below x4.heap.size x4 x4 := Below.refl _ _
          clear hK K hH3 hb B3
          refine held_take (i := 19) (d := 112) (oi := _) (v := ?_) rfl rfl (by kernel_rfl) (by kernel_rfl) (by kernel_rfl) (fun _ _ _ h => h) (Or.inl ⟨by rfl, ?_⟩) (by assumption) ?_
          rotate_left
          · (intro w hSw; clear hSw; go_simp; (try with_reducible rfl))
          simp only [Act.put, List.setIfInBounds_toArray, List.set_cons_zero, List.set_cons_succ]
          refine held_take (i := 20) (d := 113) (oi := _) (v := ?_) rfl rfl (by kernel_rfl) (by kernel_rfl) (by kernel_rfl) (fun _ _ _ h => h) (Or.inl ⟨by rfl, ?_⟩) (by assumption) ?_
          rotate_left
          · (intro w hSw; clear hSw; go_simp; (try with_reducible rfl))
          simp only [Act.put, List.setIfInBounds_toArray, List.set_cons_zero, List.set_cons_succ]
          refine held_take (i := 21) (d := 114) (oi := _) (v := ?_) rfl rfl (by kernel_rfl) (by kernel_rfl) (by kernel_rfl) (fun _ _ _ h => h) (Or.inl ⟨by rfl, ?_⟩) (by assumption) ?_
          rotate_left
          · (intro w hSw; clear hSw; go_simp; (try with_reducible rfl))
          simp only [Act.put, List.setIfInBounds_toArray, List.set_cons_zero, List.set_cons_succ]
          refine held_take (i := 22) (d := 115) (oi := _) (v := ?_) rfl rfl (by kernel_rfl) (by kernel_rfl) (by kernel_rfl) (fun _ _ _ h => h) (Or.inl ⟨by rfl, ?_⟩) (by assumption) ?_
          rotate_left
          · (intro w hSw; clear hSw; go_simp; (try with_reducible rfl))
          simp only [Act.put, List.setIfInBounds_toArray, List.set_cons_zero, List.set_cons_succ]
          refine held_take (i := 23) (d := 116) (oi := _) (v := ?_) rfl rfl (by kernel_rfl) (by kernel_rfl) (by kernel_rfl) (fun _ _ _ h => h) (Or.inl ⟨by rfl, ?_⟩) (by assumption) ?_
          rotate_left
          · (intro w hSw; clear hSw; go_simp; (try with_reducible rfl))
          simp only [Act.put, List.setIfInBounds_toArray, List.set_cons_zero, List.set_cons_succ]
          refine held_take (i := 24) (d := 117) (oi := _) (v := ?_) rfl rfl (by kernel_rfl) (by kernel_rfl) (by kernel_rfl) (fun _ _ _ h => h) (Or.inl ⟨by rfl, ?_⟩) (by assumption) ?_
          rotate_left
          · (intro w hSw; clear hSw; go_simp; (try with_reducible rfl))
          simp only [Act.put, List.setIfInBounds_toArray, List.set_cons_zero, List.set_cons_succ]
          refine held_take (i := 27) (d := 120) (oi := _) (v := ?_) rfl rfl (by kernel_rfl) (by kernel_rfl) (by kernel_rfl) (fun _ _ _ h => h) (Or.inl ⟨by rfl, ?_⟩) (by assumption) ?_
          rotate_left
          · (intro w hSw; clear hSw; go_simp; (try with_reducible rfl))
          simp only [Act.put, List.setIfInBounds_toArray, List.set_cons_zero, List.set_cons_succ]
          refine held_take (i := 28) (d := 121) (oi := _) (v := ?_) rfl rfl (by kernel_rfl) (by kernel_rfl) (by kernel_rfl) (fun _ _ _ h => h) (Or.inl ⟨by rfl, ?_⟩) (by assumption) ?_
          rotate_left
          · (intro w hSw; clear hSw; go_simp; (try with_reducible rfl))
          simp only [Act.put, List.setIfInBounds_toArray, List.set_cons_zero, List.set_cons_succ]
          refine wpAnyH_ready (rs := [25]) (by kernel_rfl) (by simp) ?_
          refine AllReadyH.cons rfl (fun K hK => ?_) AllReadyH.nil
          go_simp
          go_wp2_with (go_at_call 19; (with_reducible refine (HKU.out _ B4.out).mono ?_); rintro e x5 ⟨aV1, cV1, rfl, htx, _, _, hb⟩)
          have V1 := Lib.hid (fun (w' : World) (h : Below x5.heap.size x5 w') => str_of_bs cV1 (htx.bs.keep h))
          clear htx
          refine hK.out _ _ hb (fun _ => ?_)
          have B5 := Lib.hid (B4.out.trans (hb.mono B4.out.size))
          refine wpAnyH_more (S' := fun w' => Below x5.heap.size x5 w') (fun w' h => hb.trans (h.mono hb.size)) _ _ _ _ ?_
          have hH5 : Below x5.heap.size x5 x5 := Below.refl _ _
          clear hK K hH4 hb B4
          refine held_take (i := 26) (d := 119) (oi := _) (v := ?_) rfl rfl (by kernel_rfl) (by kernel_rfl) (by kernel_rfl) (fun _ _ _ h => h) (Or.inl ⟨by rfl, ?_⟩) (by assumption) ?_
          rotate_left
          · (intro w hSw; have hcvw := V1.out w hSw; clear hSw; go_simp; (try with_reducible rfl))
          simp only [Act.put, List.setIfInBounds_toArray, List.set_cons_zero, List.set_cons_succ]
          refine wpAnyH_ready (rs := [29]) (by kernel_rfl) (by simp) ?_
          refine AllReadyH.cons rfl (fun K hK => ?_) AllReadyH.nil
          go_simp
          go_wp2_with (go_at_call 19; (with_reducible refine (HKT.out _ B5.out).mono ?_); rintro e x6 ⟨aV2, cV2, rfl, htx, _, _, hb⟩)
          have V2 := Lib.hid (fun (w' : World) (h : Below x6.heap.size x6 w') => str_of_bs cV2 (htx.bs.keep h))
          clear htx
          refine hK.out _ _ hb (fun _ => ?_)
          have B6 := Lib.hid (B5.out.trans (hb.mono B5.out.size))
          refine wpAnyH_more (S' := fun w' => Below x6.heap.size x6 w') (fun w' h => hb.trans (h.mono hb.size)) _ _ _ _ ?_
          have hH6 : Below x6.heap.size x6 x6 := Below.refl _ _
          clear hK K hH5 hb B5
          refine held_take (i := 30) (d := 123) (oi := _) (v := ?_) rfl rfl (by kernel_rfl) (by kernel_rfl) (by kernel_rfl) (fun _ _ _ h => h) (Or.inl ⟨by rfl, ?_⟩) (by assumption) ?_
          rotate_left
          · (intro w hSw; have hcvw := V2.out w hSw; clear hSw; go_simp; (try with_reducible rfl))
          simp only [Act.put, List.setIfInBounds_toArray, List.set_cons_zero, List.set_cons_succ]
          refine held_take (i := 31) (d := 124) (oi := _) (v := ?_) rfl rfl (by kernel_rfl) (by kernel_rfl) (by kernel_rfl) (fun _ _ _ h => h) (Or.inl ⟨by rfl, ?_⟩) (by assumption) ?_
          rotate_left
          · (intro w hSw; clear hSw; go_simp; (try with_reducible rfl))
          simp only [Act.put, List.setIfInBounds_toArray, List.set_cons_zero, List.set_cons_succ]
          refine held_take (i := 32) (d := 125) (oi := _) (v := ?_) rfl rfl (by kernel_rfl) (by kernel_rfl) (by kernel_rfl) (fun _ _ _ h => h) (Or.inl ⟨by rfl, ?_⟩) (by assumption) ?_
          rotate_left
          · (intro w hSw; clear hSw; go_simp; (try with_reducible rfl))
          simp only [Act.put, List.setIfInBounds_toArray, List.set_cons_zero, List.set_cons_succ]
          refine wpAnyH_done (by kernel_rfl) ?_ _
          go_wp2
          exact ⟨⟨q + 1, by omega, by go_num, B6.out⟩, by simp [intOf]; omega⟩
        · obtain rfl : q = ps.length := by omega
          have CNW := Lib.hid (CN1.out _ hbel)
          have HBE := Lib.hid hbel
          clear hbel
          go_wp2_with (first
            | (go_at_call 13; (with_reducible refine CNW.out.mono ?_); rintro e x' ⟨rfl, rfl⟩)
            | (go_at_call 13; (with_reducible refine (nodes_none _).mono ?_); rintro e x' ⟨rfl, rfl⟩)
            | (go_at_call 22; (with_reducible refine (find_none _ _).mono ?_); rintro e x' ⟨rfl, rfl⟩)
            | (go_at_call 21; (with_reducible refine (step_none _ _ _).mono ?_); rintro e x' ⟨rfl, rfl⟩)
            | (go_at_call 16; (with_reducible refine (depth_none _ _).mono ?_); rintro e x7 ⟨rfl, hb7⟩)
            | (go_at_call 18; (with_reducible refine (word_none _ _).mono ?_); rintro e x8 ⟨rfl, hb8⟩))
          go_ret
          have E1 := HBE.out.trans (hb7.mono HBE.out.size)
          have E2 := E1.trans (hb8.mono E1.size)
          exact ⟨rfl, HB.out.trans (E2.mono HB.out.size)⟩
theorem walk (w : World) (xs : List TxV) (a0 : Option Addr) (cap0 : Nat) (hz0 : xs.length ≤ 6000000000000) (hx0 : ∀ x ∈ xs, x.text.length ≤ maxLen) (hts : Ts w a0 xs) (c : UInt8) (b : Tx) (ab : Option Addr) (capb : Nat) (_hbm : b.length ≤ maxLen) (hb : Bs w w.heap.size ab b) :
    Calls Try.prog 7 #[.slice a0 xs.length cap0, .int .u8 (c.toNat : Int), .slice ab b.length capb] w fun e w' => e = .returned (.bool true) ∧ Below w.heap.size w w' := by
  by_cases hall : xs.length ≤ 12 ∧ (∀ x ∈ xs, x.text.length ≤ 40)
  · by_cases hgood : 0 < xs.length ∧ b.length ≤ 60
    · exact small w xs a0 cap0 hts hall.1 hall.2 hgood.1 c b ab capb hb hgood.2
    · have hg60 : ((xs.length : Int) == 0) = true ∨ (((xs.length : Int) == 0) = false ∧ (60 : Int) < (b.length : Int)) := by
        by_cases h : 0 < xs.length
        · exact .inr ⟨beq_eq_false_iff_ne.2 (by omega), by omega⟩
        · exact .inl (beq_iff_eq.2 (by omega))
      have h0 := hall.1
      have HX := Lib.hid hall.2
      have HX0 := Lib.hid hx0
      clear hall hx0 hgood
      unfold maxLen at _hbm
      go_enter Try.func7, Try.ntmps7
      go_wp2_with fail
      refine (awake_any _).mono ?_
      rintro e' w1 ⟨rfl, hb2⟩
      have ts1 := hts.keep hb2
      go_wp2_with fail
      refine (ltexts_any xs a0 cap0 w1 ts1 hz0 HX0.out).mono ?_
      rintro e' w2 ⟨hb3, hcase⟩
      have B2 := hb2.trans (hb3.mono hb2.size)
      rcases hcase with ⟨hbad, _⟩ | ⟨_, aL, cL, rfl, _⟩
      · exact absurd HX.out hbad
      rw [decide_eq_true h0]
      rcases hg60 with g1 | ⟨g1, g2⟩
      · go_wp2
        go_ret
        exact ⟨rfl, B2⟩
      · go_wp2
        go_ret
        exact ⟨rfl, B2⟩
  · clear _hbm hb
    have HALL := Lib.hid hall
    have HX := Lib.hid hx0
    clear hall hx0
    go_enter Try.func7, Try.ntmps7
    go_wp2_with fail
    refine (awake_any _).mono ?_
    rintro e' w1 ⟨rfl, hb2⟩
    have ts1 := hts.keep hb2
    go_wp2_with fail
    refine (ltexts_any xs a0 cap0 w1 ts1 hz0 HX.out).mono ?_
    rintro e' w2 ⟨hb3, hcase⟩
    have B2 := hb2.trans (hb3.mono hb2.size)
    rcases hcase with ⟨_, rfl⟩ | ⟨hok, aL, cL, rfl, _⟩
    · go_wp2
      go_ret
      exact ⟨rfl, B2⟩
    · have h12 : ¬ xs.length ≤ 12 := fun h => HALL.out ⟨h, hok⟩
      rw [decide_eq_false h12]
      clear HALL hok
      go_wp2
      go_ret
      exact ⟨rfl, B2⟩
end Go.Proofs.Ytljnhkpcodecgaa.trieOrder
