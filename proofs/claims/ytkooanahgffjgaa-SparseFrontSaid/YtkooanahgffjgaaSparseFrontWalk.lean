/- The walk of SparseFront. -/
import Derived.Test.YtkooanahgffjgaaSi
namespace Go.Proofs.Ytkooanahgffjgaa.sparseFront
open Go.Proofs.Ytkooanahgffjgaa.Tri Go.Proofs.Ytkooanahgffjgaa.Lnk Go.Proofs.Ytkooanahgffjgaa.Prs Go.Proofs.Ytkooanahgffjgaa.Spa Go.Proofs.Ytkooanahgffjgaa.Reg Go.RowKit Go.Maps
set_option maxRecDepth 100000
set_option linter.unusedVariables false
attribute [local go_sem ↓] Met.eql_counts
theorem cut_front (al : Option Addr) (n cl k : Nat) (hk : k ≤ cl) : ∃ ak, (∀ X, (Instr.slice 23 (.slice al n cl) none (some (.int .i64 (k : Int))) none).run Try.prog X = .ok (.slice ak k cl) X) ∧ ∀ b off, al = some ⟨b, off, none⟩ → ak = some ⟨b, off, none⟩ := by
  refine ⟨if cl = 0 then al else al.map (·.add (0 * 1)), fun X => ?_, fun b off e => ?_⟩
  · rw [run_slice_h (P := Try.prog) X 23 al n cl und22 .i64 (k : Int) (by omega) (by omega)]
    simp [sliced, go_sem]
  · subst e
    split
    · rfl
    · simp [Addr.add]
theorem tm_plus (a b : Nat) : (a : Int).tmod ((b : Int) + 1) = ((a % (b + 1) : Nat) : Int) := by
  have e : ((b : Int) + 1) = ((b + 1 : Nat) : Int) := by omega
  rw [e]
  exact (Int.ofNat_tmod a (b + 1)).symm
theorem tm_at (a b : Nat) : (a : Int).tmod (b : Int) = ((a % b : Nat) : Int) := (Int.ofNat_tmod a b).symm
theorem mod_le (a b : Nat) : a % (b + 1) ≤ b := Nat.le_of_lt_succ (Nat.mod_lt a (Nat.succ_pos b))
theorem wrap_u8 (n : UInt8) : wrap64 (n.toNat : Int) = (n.toNat : Int) := by
  have := n.toNat_lt
  exact IntWalk.wrap64_in _ (by omega)
def rotTo (xs : List TxV) (t : Nat) : Nat → List TxV
  | 0 => []
  | i + 1 => rotTo xs t i ++ (match xs[(i + t) % xs.length]? with | some x => [x] | none => [])
theorem rot_succ (xs : List TxV) (t i : Nat) (h : (i + t) % xs.length < xs.length) : rotTo xs t (i + 1) = rotTo xs t i ++ [xs[(i + t) % xs.length]] := by
  rw [rotTo, List.getElem?_eq_getElem h]
theorem rot_sub (xs : List TxV) (t : Nat) : ∀ i, ∀ x ∈ rotTo xs t i, x ∈ xs
  | 0, x, h => by cases h
  | i + 1, x, h => by
    rw [rotTo] at h
    rcases List.mem_append.1 h with h | h
    · exact rot_sub xs t i x h
    · split at h
      · rename_i y hy
        obtain rfl : x = y := by simpa using h
        exact List.mem_of_getElem? hy
      · cases h
theorem rot_has (xs : List TxV) (t : Nat) : ∀ i k, k < i → ∀ h : (k + t) % xs.length < xs.length, xs[(k + t) % xs.length] ∈ rotTo xs t i
  | 0, k, hk, _ => by omega
  | i + 1, k, hk, h => by
    rw [rotTo]
    by_cases e : k = i
    · subst e
      rw [List.getElem?_eq_getElem h]
      simp
    · exact List.mem_append_left _ (rot_has xs t i k (by omega) h)
theorem rot_all (xs : List TxV) (t : Nat) (x : TxV) (hx : x ∈ xs) : x ∈ rotTo xs t xs.length := by
  obtain ⟨j, hj, rfl⟩ := List.getElem_of_mem hx
  have hn : 0 < xs.length := by omega
  have hr := Nat.mod_lt t hn
  have e : ((j + (xs.length - t % xs.length)) % xs.length + t) % xs.length = j := by
    rw [Nat.mod_add_mod]
    have e1 := Nat.div_add_mod t xs.length
    have e2 : j + (xs.length - t % xs.length) + t = j + xs.length * (t / xs.length + 1) := by rw [Nat.mul_add]; omega
    rw [e2, Nat.add_mul_mod_self_left, Nat.mod_eq_of_lt hj]
  have := rot_has xs t xs.length ((j + (xs.length - t % xs.length)) % xs.length) (Nat.mod_lt _ hn) (by rw [e]; exact hj)
  simpa only [e] using this
theorem rot_len (xs : List TxV) (t : Nat) : ∀ i, (rotTo xs t i).length ≤ i
  | 0 => by simp [rotTo]
  | i + 1 => by
    have := rot_len xs t i
    rw [rotTo, List.length_append]
    split <;> simp <;> omega
def nilT : TxV := ⟨[], none, 0, fun _ => rfl⟩
/-- The texts in another order, the first one once more, and the empty one. -/
def turned (xs : List TxV) (t : Nat) (x : TxV) : List TxV := rotTo xs t xs.length ++ [x] ++ [nilT]
theorem turned_mem {xs : List TxV} {x : TxV} (hx : x ∈ xs) (t : Nat) (y : Tx) (hy : y ≠ []) : y ∈ (turned xs t x).map TxV.text ↔ y ∈ xs.map TxV.text := by
  rw [List.mem_map, List.mem_map]
  constructor
  · rintro ⟨z, hz, rfl⟩
    rcases List.mem_append.1 hz with hz | hz
    · rcases List.mem_append.1 hz with hz | hz
      · exact ⟨z, rot_sub xs t _ z hz, rfl⟩
      · exact ⟨x, hx, by rw [List.mem_singleton.1 hz]⟩
    · rw [List.mem_singleton.1 hz] at hy
      exact absurd rfl hy
  · rintro ⟨z, hz, rfl⟩
    exact ⟨z, List.mem_append_left _ (List.mem_append_left _ (rot_all xs t z hz)), rfl⟩
theorem turned_tot {xs : List TxV} {x : TxV} (hx : x ∈ xs) (h0 : xs.length ≤ 12) (h4 : ∀ x ∈ xs, x.text.length ≤ 40) (t : Nat) : tot ((turned xs t x).map TxV.text) ≤ 600 := by
  have h1 := rot_len xs t xs.length
  have h2 := tot_le ((turned xs t x).map TxV.text) 40 (fun y hy => by
    obtain ⟨z, hz, rfl⟩ := List.mem_map.1 hy
    rcases List.mem_append.1 hz with hz | hz
    · rcases List.mem_append.1 hz with hz | hz
      · exact h4 z (rot_sub xs t _ z hz)
      · rw [List.mem_singleton.1 hz]; exact h4 x hx
    · rw [List.mem_singleton.1 hz]; simp [nilT])
  have h3 : ((turned xs t x).map TxV.text).length ≤ 14 := by
    rw [List.length_map, turned, List.length_append, List.length_append]
    simp; omega
  omega
theorem filter_snoc (l : List Pr) (f : Pr → Bool) (i : Nat) (h : i < l.length) : (l.take (i + 1)).filter f = (l.take i).filter f ++ (if f l[i] then [l[i]] else []) := by
  rw [List.take_succ_eq_append_getElem h, List.filter_append]
  congr 1
  by_cases e : f l[i] = true
  · simp [e]
  · simp [e]

set_option maxHeartbeats 8000000 in
theorem small (w : World) (xs : List TxV) (a0 : Option Addr) (cap0 : Nat) (hts : Ts w a0 xs) (h0 : xs.length ≤ 12) (hx : ∀ x ∈ xs, x.text.length ≤ 40) (line : Tx) (al : Option Addr) (cl : Nat) (hml : line.length ≤ maxLen) (hbl : Bs w w.heap.size al line) (hnl : al = none → cl = 0) (hcl : line.length ≤ cl) (n t : UInt8) (hl1 : line.length ≤ 120) (hx1 : 0 < xs.length) :
    Calls Try.prog 7 #[.slice a0 xs.length cap0, .slice al line.length cl, .int .u8 (n.toNat : Int), .int .u8 (t.toNat : Int)] w fun e w' => e = .returned (.bool true) ∧ Below w.heap.size w w' := by
  have hx' : ∀ x ∈ xs, x.text.length ≤ maxLen := fun x h => Nat.le_trans (hx x h) (by unfold maxLen; omega)
  have htot := few_tot h0 hx
  have HX := Lib.hid hx
  have HX' := Lib.hid hx'
  have HAW := Lib.hid (awake_any w)
  clear hx hx'
  go_enter Try.func7, Try.ntmps7
  go_wp2_with fail
  refine HAW.out.mono ?_
  rintro e' w1 ⟨rfl, hb2⟩
  have ts1 := hts.keep hb2
  go_wp2_with fail
  refine (ltexts_any xs a0 cap0 w1 ts1 (by omega) HX'.out).mono ?_
  rintro e' w2 ⟨hb3, hcase⟩
  rcases hcase with ⟨hbad, _⟩ | ⟨_, aL, cL, rfl, hsL⟩
  · exact absurd HX.out hbad
  rw [decide_eq_true h0]
  have HTS := Lib.hid (ts1.keep hb3)
  have HB := Lib.hid (hb2.trans (hb3.mono hb2.size))
  have hszw := HB.out.size
  obtain ⟨l, hl⟩ : ∃ l, l = xs.map TxV.text := ⟨_, rfl⟩
  have HNEW : Hid (∀ X, Below w2.heap.size w2 X → Calls Try.prog 13 #[.slice a0 xs.length cap0] X (GivesAu X (paths l) l)) := Lib.hid fun X hX => by
    have := snew_any X xs a0 cap0 (HTS.out.keep hX) (by omega) (by omega)
    rwa [← hl] at this
  have HLN : Hid (xs.length = l.length) := Lib.hid (by rw [hl]; simp)
  have HL40 : Hid (∀ x ∈ l, x.length ≤ 40) := Lib.hid fun x h => by
    rw [hl] at h
    obtain ⟨y, hy, rfl⟩ := List.mem_map.1 h
    exact HX.out y hy
  rw [← hl] at hsL htot
  have HSL := Lib.hid hsL
  have HPT : Hid (∀ X, Below w2.heap.size w2 X → Calls Try.prog 19 #[.slice aL xs.length cL] X (GivesSs X (paths l))) := Lib.hid fun X hX => by
    have := paths_any X l aL cL (HSL.out.keep hX) (by rw [← HLN.out]; omega) (by omega)
    rwa [← HLN.out] at this
  have hps : (paths l).length ≤ 481 := by have := paths_len l; omega
  have HW := Lib.hid (paths_wf l)
  have HPM := Lib.hid (paths_mem l)
  have HLS := Lib.hid (paths_sub l)
  have HX0 := HX
  have HLL := Lib.hid hl
  clear HX HX' HAW hb2 hb3 ts1 hsL hts hl
  have HBL := Lib.hid (fun X (h : Below w2.heap.size w2 X) => (hbl.keep (HB.out.trans (h.mono hszw))).more (Nat.le_trans hszw h.size))
  clear hbl
  have hx0 : ((xs.length : Int) == 0) = false := by rw [beq_eq_false_iff_ne]; omega
  go_wp2_with fail
  refine (few_any _ _ _ _).mono ?_
  rintro e3 w3 ⟨rfl, rfl⟩
  rw [decide_eq_true hl1]
  go_wp2_with fail
  have hwn := wrap_u8 n
  have hkl := mod_le n.toNat line.length
  rw [hwn, tm_plus]
  generalize n.toNat % (line.length + 1) = k at *
  clear hwn
  refine (HNEW.out w2 (Below.refl _ _)).mono ?_
  rintro e5 w5 ⟨at5, rfl, _, hA, b5⟩
  have HA5 := Lib.hid hA
  have HB5 := Lib.hid b5
  have CS := Lib.hid (scan_free w5 at5 (paths l) l hA line al cl (HBL.out w5 b5) (by omega))
  clear hA b5
  go_wp2_with fail
  refine CS.out.mono ?_
  rintro e6 w6 ⟨A, cA, rfl, hpA, hnA, hb6⟩
  have HA6 := Lib.hid (HA5.out.keep hb6)
  have HB6 := Lib.hid (HB5.out.trans (hb6.mono HB5.out.size))
  have HPA := Lib.hid hpA
  clear hpA hb6 CS HA5 HB5
  have HFR := Lib.hid (scan_front l line k hkl)
  have hsl : (scanOf l line).length ≤ 1000000 := by
    have h1 := norm_length (hitsTo l line line.length)
    have h2 := hits_len l line 1000 (by omega) line.length
    unfold scanOf; omega
  generalize hZ : scanOf l line = Z at *
  have HZ := Lib.hid hZ
  clear hZ
  go_wp2
  go_loopw [16, 17] (fun v i wr => ∃ j : Nat, j ≤ Z.length ∧ i = .int .i64 (j : Int) ∧ wr.ownsRow w6.heap.size 52 2 v ((Z.take j).filter fun p => decide (p.e ≤ (k : Int))).length (cellsOf ((Z.take j).filter fun p => decide (p.e ≤ (k : Int)))) ∧ Below w6.heap.size w6 wr) (fun _ i _ => Z.length - (intOf i).toNat)
  case atStart => exact ⟨0, by omega, rfl, World.ownsRow_nil _ _ _ _, Below.refl _ _⟩
  case round =>
    obtain ⟨j, hj, rfl, ho, hb⟩ := hrel
    have HO := Lib.hid ho
    have HBE := Lib.hid hb
    have hsz := hb.size
    clear ho hb
    have hfl : ((Z.take j).filter fun p => decide (p.e ≤ (k : Int))).length ≤ 1000000 := Nat.le_trans (List.length_filter_le _ _) (by rw [List.length_take]; omega)
    by_cases hlt : j < Z.length
    · have hlt2 : (j : Int) < (Z.length : Int) := by omega
      have HSN := Lib.hid (filter_snoc Z (fun p => decide (p.e ≤ (k : Int))) j hlt)
      obtain ⟨bz, oz, ez, _, hcz⟩ := (HPA.out.keeps HBE.out) (by omega)
      obtain ⟨hz1, hz2⟩ := hcz j hlt
      clear hcz
      subst ez
      generalize Z[j] = z at *
      by_cases hze : z.e ≤ (k : Int)
      · have HD := Lib.hid (decide_eq_true hze)
        go_wp2_with (at_builtin; refine app_ps rfl _ _ rfl w6.heap.size _ _ ((Z.take j).filter fun p => decide (p.e ≤ (k : Int))) rfl (HO.out.alloc _) (some ⟨wr.heap.size, 0, none⟩) [z] 1 (wr.heap.size + 1) rfl (by have := ps_one wr z (0, 0); rwa [World.size_alloc] at this) (fun e => by cases e) (by simp only [List.length_cons, List.length_nil]; omega) (by simp; omega) ?_; intro v7 w7 hown7 hg7)
        go_roundw
        case rel =>
          refine ⟨j + 1, by omega, by go_num, ?_, (HBE.out.alloc hsz _).grown hg7 (by simp; omega) (fun j hj => own_ge HO.out hj)⟩
          rw [HSN.out, HD.out, if_pos rfl, List.length_append]
          exact hown7
        case measure => simp [intOf]; omega
      · have HD := Lib.hid (decide_eq_false hze)
        go_wp2
        go_roundw
        case rel => exact ⟨j + 1, by omega, by go_num, by rw [HSN.out, HD.out, if_neg (by decide), List.append_nil]; exact HO.out, HBE.out⟩
        case measure => simp [intOf]; omega
    · have hlt2 : ¬ (j : Int) < (Z.length : Int) := by omega
      have HJ : Hid ((Z.take j).filter (fun p => decide (p.e ≤ (k : Int))) = scanOf l (line.take k)) := Lib.hid (by rw [HFR.out, List.take_of_length_le (by omega)])
      rw [HJ.out] at HO hfl
      clear hlt hj HFR HJ
      obtain ⟨aw, cw, rfl, hcw, hnw, hpw⟩ := own_ps HO.out rfl
      have HPW := Lib.hid hpw
      have HPZ := Lib.hid (HPA.out.keeps HBE.out)
      have HA8 := Lib.hid (HA6.out.keep HBE.out)
      have HB8 := Lib.hid (HB6.out.trans (HBE.out.mono HB6.out.size))
      clear hpw HO HPA HA6 HB6 HBE hsz
      have htx := HTS.out.keep HB8.out
      obtain ⟨htc, htb⟩ := htx
      obtain ⟨bx, ox, ex, hbx, hcx⟩ := htc hx1
      subst ex
      have HCX : Hid (∀ X, Below w2.heap.size w2 X → ∀ i (h : i < xs.length), X.cell? ⟨bx, ox + i, none⟩ = some (.slice xs[i].a xs[i].text.length xs[i].cap)) := Lib.hid fun X hX i hi => by
        obtain ⟨b', o', e', _, hc'⟩ := (HTS.out.keep hX).1 hx1
        cases e'
        exact hc' i hi
      clear htc htb hcx
      go_wp2
      go_loopw [18, 19] (fun v x wi => ∃ i : Nat, i ≤ xs.length ∧ x = .int .i64 (i : Int) ∧ wi.ownsRow wr.heap.size 23 1 v (rotTo xs t.toNat i).length (tvals (rotTo xs t.toNat i)) ∧ Below wr.heap.size wr wi) (fun _ x _ => xs.length - (intOf x).toNat)
      case atStart => exact ⟨0, by omega, rfl, World.ownsRow_nil _ _ _ _, Below.refl _ _⟩
      case round =>
        obtain ⟨i, hi, rfl, ho, hb⟩ := hrel
        have HO2 := Lib.hid ho
        have HBE2 := Lib.hid hb
        have hsz2 := hb.size
        clear ho hb
        have hrl := rot_len xs t.toNat i
        by_cases hlt : i < xs.length
        · have hlt2 : (i : Int) < (xs.length : Int) := by omega
          have hwt := wrap_u8 t
          have hr := Nat.mod_lt (i + t.toNat) hx1
          have htm := tm_at (i + t.toNat) xs.length
          rw [Int.natCast_add] at htm
          have HRS := Lib.hid (rot_succ xs t.toNat i hr)
          have hcell := HCX.out _ (HB8.out.trans (HBE2.out.mono HB8.out.size)) _ hr
          have ht8 : t.toNat ≤ 255 := Nat.le_of_lt_succ t.toNat_lt
          generalize xs[(i + t.toNat) % xs.length] = z at *
          generalize (i + t.toNat) % xs.length = r at *
          generalize t.toNat = tt at *
          go_wp2_with (at_builtin; refine app_ts rfl _ _ rfl _ _ _ (rotTo xs tt i) z rfl (HO2.out.alloc _) ⟨wr.heap.size, 0, none⟩ rfl (cell_new1 wr _ 23) (by omega) (by simp; omega) ?_; intro v9 w9 hown9 hg9)
          go_roundw
          case rel => exact ⟨i + 1, by omega, by go_num, by rw [HRS.out, List.length_append]; exact hown9, (HBE2.out.alloc hsz2 _).grown hg9 (by simp; omega) (fun j hj => own_ge HO2.out hj)⟩
          case measure => simp [intOf]; omega
        · have hlt2 : ¬ (i : Int) < (xs.length : Int) := by omega
          have hie : i = xs.length := by omega
          rw [hie] at HO2
          have HX1 : Hid (xs[0] ∈ xs) := Lib.hid (List.getElem_mem hx1)
          have HTM := Lib.hid (fun y hy => turned_mem HX1.out t.toNat y hy)
          have HTT := Lib.hid (turned_tot HX1.out h0 HX0.out t.toNat)
          have B9 := HB8.out.trans (HBE2.out.mono HB8.out.size)
          have HB9 := Lib.hid B9
          have HCX0 : Hid (∀ X, Below w2.heap.size w2 X → X.cell? ⟨bx, ox, none⟩ = some (.slice xs[0].a xs[0].text.length xs[0].cap)) := Lib.hid fun X h => HCX.out X h 0 hx1
          have hcell := HCX0.out wr B9
          have hrl2 := rot_len xs t.toNat xs.length
          have HTU : Hid (rotTo xs t.toNat xs.length ++ [xs[0]] ++ [nilT] = turned xs t.toNat xs[0]) := Lib.hid rfl
          have HR0 := Lib.hid (rot_sub xs t.toNat xs.length)
          clear hie hrl B9 hi hlt HCX
          generalize rotTo xs t.toNat xs.length = R0 at *
          generalize xs[0] = z at *
          generalize t.toNat = tt at *
          go_wp2_with (first
            | (at_builtin; refine app_ts rfl _ _ rfl _ _ _ R0 z rfl (HO2.out.alloc _) ⟨wr.heap.size, 0, none⟩ rfl (cell_new1 wr _ 23) (by omega) (by simp; omega) ?_; intro v9 w9 hown9 hg9; have HO9 := Lib.hid hown9; have hB9 := (HBE2.out.alloc hsz2 (.cells #[.slice z.a z.text.length z.cap] 23)).grown hg9 (by simp; omega) (fun j hj => own_ge HO2.out hj); have hsz9 := hB9.size; have HBE9 := Lib.hid hB9; have hG9 := Lib.hid hg9; clear hown9 hB9 hg9)
            | (at_builtin; refine app_ts rfl _ _ rfl _ _ _ (R0 ++ [z]) nilT rfl (HO9.out.alloc _) ⟨w9.heap.size, 0, none⟩ rfl (cell_new1 w9 _ 23) (by omega) (by simp; omega) ?_; intro v10 w10 hown10 hg10; have HO10 := Lib.hid hown10; have HBE10 := Lib.hid ((HBE9.out.alloc hsz9 (.cells #[.slice none 0 0] 23)).grown hg10 (by simp; omega) (fun j hj => own_ge HO9.out hj)); clear hown10 hg10))
          have B10 := HB8.out.trans (HBE10.out.mono HB8.out.size)
          have HPW10 := Lib.hid (HPW.out.keeps HBE10.out)
          have HPZ10 := Lib.hid (HPZ.out.keeps HBE10.out)
          have HA10 := Lib.hid (HA8.out.keep HBE10.out)
          have hts10 : ∀ x ∈ R0 ++ [z] ++ [nilT], Bs w10 w10.heap.size x.a x.text := fun x hx => by
            have hk := (HTS.out.keep B10).2
            rcases List.mem_append.1 hx with hx | hx
            · rcases List.mem_append.1 hx with hx | hx
              · exact hk x (HR0.out x hx)
              · rw [List.mem_singleton.1 hx]; exact hk z HX1.out
            · rw [List.mem_singleton.1 hx]; exact bs_nil _ _ _
          obtain ⟨ao, co, ev, hto, _, _⟩ := own_ts HO10.out hts10
          subst ev
          have hlen : (R0 ++ [z] ++ [nilT]).length ≤ 1000000 := by simp; omega
          rw [HTU.out] at hto hlen ⊢
          have CN := Lib.hid (snew_any w10 (turned xs tt z) ao co hto hlen (Nat.le_trans HTT.out (by omega)))
          have HB10 := Lib.hid B10
          have HSC : Hid (scanOf ((turned xs tt z).map TxV.text) line = Z) := Lib.hid (by rw [← HZ.out, HLL.out]; exact scan_congr HTM.out line)
          clear hts10 hto hlen B10 HPW HPZ HA8 HBE10 HBE9 HBE2 HO10 HO9 HO2 hG9 HTU HTT HR0 HX1 HTS HCX0 hcell HB8 hsz2 hsz9 hrl2 HTM HZ HLL HB9
          refine CN.out.mono ?_
          rintro e12 w12 ⟨t12, rfl, _, hA12, hb12⟩
          generalize (turned xs tt z).map TxV.text = m at *
          have HA12 := Lib.hid hA12
          have HA5 := Lib.hid (HA10.out.keep hb12)
          have HPW12 := Lib.hid (HPW10.out.keeps hb12)
          have HPZ12 := Lib.hid (HPZ10.out.keeps hb12)
          have HB12 := Lib.hid (HB10.out.trans (hb12.mono HB10.out.size))
          clear hA12 hb12 HA10 HPW10 HPZ10 HB10 CN
          obtain ⟨ak, hak, hab⟩ := cut_front al line.length cl k (by omega)
          have HTL : Hid ((line.take k).length = k) := Lib.hid (by rw [List.length_take]; omega)
          have HBK : Hid (∀ X, Below w2.heap.size w2 X → Bs X X.heap.size ak (line.take k)) := Lib.hid fun X h h1 => by
            rw [HTL.out] at h1
            obtain ⟨b', off', e', hb', hc'⟩ := HBL.out X h (by omega)
            refine ⟨b', off', hab b' off' e', hb', fun i hi => ?_⟩
            rw [HTL.out] at hi
            rw [hc' i (by omega), List.getElem_take]
          have CS := Lib.hid (scan_free w12 at5 (paths l) l HA5.out (line.take k) ak cl (HBK.out w12 HB12.out) (by rw [HTL.out]; omega))
          rw [HTL.out] at CS
          generalize scanOf l (line.take k) = Y at *
          go_wp2_with fail
          refine CS.out.mono ?_
          rintro e13 w13 ⟨A3, c3, rfl, hp3, _, hb13⟩
          have HA13 := Lib.hid (HA12.out.keep hb13)
          have HPW13 := Lib.hid (HPW12.out.keeps hb13)
          have HPZ13 := Lib.hid (HPZ12.out.keeps hb13)
          have HB13 := Lib.hid (HB12.out.trans (hb13.mono HB12.out.size))
          have CE := Lib.hid (same_any Y Y A3 aw c3 cw w13 (by omega) hp3 HPW13.out)
          have hyy : decide (Y = Y) = true := by simp
          rw [hyy] at CE
          clear hb13 hp3 HA12 HA5 HPW12 HPZ12 HB12 CS hyy HPW13
          go_wp2_with fail
          refine CE.out.mono ?_
          rintro e14 w14 ⟨rfl, q14, hq14⟩
          have hb14 : Below w13.heap.size w13 w14 := by rw [hq14]; exact below_drews (Below.refl _ _) q14
          have HA14 := Lib.hid (HA13.out.keep hb14)
          have HPZ14 := Lib.hid (HPZ13.out.keeps hb14)
          have HB14 := Lib.hid (HB13.out.trans (hb14.mono HB13.out.size))
          clear hb14 hq14 CE HA13 HPZ13 HB13
          have CS := Lib.hid (scan_free w14 t12 (paths m) m HA14.out line al cl (HBL.out w14 HB14.out) (by omega))
          rw [HSC.out] at CS
          go_wp2_with fail
          refine CS.out.mono ?_
          rintro e15 w15 ⟨A4, c4, rfl, hp4, _, hb15⟩
          have CE := Lib.hid (same_any Z Z A4 A c4 cA w15 (by omega) hp4 (HPZ14.out.keeps hb15))
          have hzz : decide (Z = Z) = true := by simp
          rw [hzz] at CE
          have HB15 := Lib.hid (HB14.out.trans (hb15.mono HB14.out.size))
          clear hb15 hp4 hzz
          go_wp2_with fail
          refine CE.out.mono ?_
          rintro e16 w16 ⟨rfl, q16, rfl⟩
          go_wp2
          go_ret
          exact ⟨rfl, HB.out.trans ((below_drews HB15.out q16).mono hszw)⟩
set_option maxHeartbeats 8000000 in
theorem big (w : World) (xs : List TxV) (a0 : Option Addr) (cap0 : Nat) (hts : Ts w a0 xs) (h0 : xs.length ≤ 12) (hx : ∀ x ∈ xs, x.text.length ≤ 40) (line : Tx) (al : Option Addr) (cl : Nat) (hml : line.length ≤ maxLen) (hbl : Bs w w.heap.size al line) (hnl : al = none → cl = 0) (hcl : line.length ≤ cl) (n t : UInt8) (hl1 : ¬ line.length ≤ 120) :
    Calls Try.prog 7 #[.slice a0 xs.length cap0, .slice al line.length cl, .int .u8 (n.toNat : Int), .int .u8 (t.toNat : Int)] w fun e w' => e = .returned (.bool true) ∧ Below w.heap.size w w' := by
  have hx' : ∀ x ∈ xs, x.text.length ≤ maxLen := fun x h => Nat.le_trans (hx x h) (by unfold maxLen; omega)
  have htot := few_tot h0 hx
  have HX := Lib.hid hx
  have HX' := Lib.hid hx'
  have HAW := Lib.hid (awake_any w)
  clear hx hx'
  go_enter Try.func7, Try.ntmps7
  go_wp2_with fail
  refine HAW.out.mono ?_
  rintro e' w1 ⟨rfl, hb2⟩
  have ts1 := hts.keep hb2
  go_wp2_with fail
  refine (ltexts_any xs a0 cap0 w1 ts1 (by omega) HX'.out).mono ?_
  rintro e' w2 ⟨hb3, hcase⟩
  rcases hcase with ⟨hbad, _⟩ | ⟨_, aL, cL, rfl, hsL⟩
  · exact absurd HX.out hbad
  rw [decide_eq_true h0]
  have HTS := Lib.hid (ts1.keep hb3)
  have HB := Lib.hid (hb2.trans (hb3.mono hb2.size))
  have hszw := HB.out.size
  obtain ⟨l, hl⟩ : ∃ l, l = xs.map TxV.text := ⟨_, rfl⟩
  have HNEW : Hid (∀ X, Below w2.heap.size w2 X → Calls Try.prog 13 #[.slice a0 xs.length cap0] X (GivesAu X (paths l) l)) := Lib.hid fun X hX => by
    have := snew_any X xs a0 cap0 (HTS.out.keep hX) (by omega) (by omega)
    rwa [← hl] at this
  have HLN : Hid (xs.length = l.length) := Lib.hid (by rw [hl]; simp)
  have HL40 : Hid (∀ x ∈ l, x.length ≤ 40) := Lib.hid fun x h => by
    rw [hl] at h
    obtain ⟨y, hy, rfl⟩ := List.mem_map.1 h
    exact HX.out y hy
  rw [← hl] at hsL htot
  have HSL := Lib.hid hsL
  have HPT : Hid (∀ X, Below w2.heap.size w2 X → Calls Try.prog 19 #[.slice aL xs.length cL] X (GivesSs X (paths l))) := Lib.hid fun X hX => by
    have := paths_any X l aL cL (HSL.out.keep hX) (by rw [← HLN.out]; omega) (by omega)
    rwa [← HLN.out] at this
  have hps : (paths l).length ≤ 481 := by have := paths_len l; omega
  have HW := Lib.hid (paths_wf l)
  have HPM := Lib.hid (paths_mem l)
  have HLS := Lib.hid (paths_sub l)
  clear HX HX' HAW hb2 hb3 ts1 hsL hts hl
  clear hbl HTS HSL HNEW HPT HLN HL40 HW HPM HLS
  go_wp2_with fail
  refine (few_any _ _ _ _).mono ?_
  rintro e3 w3 ⟨rfl, rfl⟩
  rw [decide_eq_false hl1]
  go_wp2
  go_ret
  exact ⟨rfl, HB.out⟩
set_option maxHeartbeats 8000000 in
theorem empty (w : World) (xs : List TxV) (a0 : Option Addr) (cap0 : Nat) (hts : Ts w a0 xs) (h0 : xs.length ≤ 12) (hx : ∀ x ∈ xs, x.text.length ≤ 40) (line : Tx) (al : Option Addr) (cl : Nat) (hml : line.length ≤ maxLen) (hbl : Bs w w.heap.size al line) (hnl : al = none → cl = 0) (hcl : line.length ≤ cl) (n t : UInt8) (hl1 : line.length ≤ 120) (hx1 : ¬ 0 < xs.length) :
    Calls Try.prog 7 #[.slice a0 xs.length cap0, .slice al line.length cl, .int .u8 (n.toNat : Int), .int .u8 (t.toNat : Int)] w fun e w' => e = .returned (.bool true) ∧ Below w.heap.size w w' := by
  have hx' : ∀ x ∈ xs, x.text.length ≤ maxLen := fun x h => Nat.le_trans (hx x h) (by unfold maxLen; omega)
  have htot := few_tot h0 hx
  have HX := Lib.hid hx
  have HX' := Lib.hid hx'
  have HAW := Lib.hid (awake_any w)
  clear hx hx'
  go_enter Try.func7, Try.ntmps7
  go_wp2_with fail
  refine HAW.out.mono ?_
  rintro e' w1 ⟨rfl, hb2⟩
  have ts1 := hts.keep hb2
  go_wp2_with fail
  refine (ltexts_any xs a0 cap0 w1 ts1 (by omega) HX'.out).mono ?_
  rintro e' w2 ⟨hb3, hcase⟩
  rcases hcase with ⟨hbad, _⟩ | ⟨_, aL, cL, rfl, hsL⟩
  · exact absurd HX.out hbad
  rw [decide_eq_true h0]
  have HTS := Lib.hid (ts1.keep hb3)
  have HB := Lib.hid (hb2.trans (hb3.mono hb2.size))
  have hszw := HB.out.size
  obtain ⟨l, hl⟩ : ∃ l, l = xs.map TxV.text := ⟨_, rfl⟩
  have HNEW : Hid (∀ X, Below w2.heap.size w2 X → Calls Try.prog 13 #[.slice a0 xs.length cap0] X (GivesAu X (paths l) l)) := Lib.hid fun X hX => by
    have := snew_any X xs a0 cap0 (HTS.out.keep hX) (by omega) (by omega)
    rwa [← hl] at this
  have HLN : Hid (xs.length = l.length) := Lib.hid (by rw [hl]; simp)
  have HL40 : Hid (∀ x ∈ l, x.length ≤ 40) := Lib.hid fun x h => by
    rw [hl] at h
    obtain ⟨y, hy, rfl⟩ := List.mem_map.1 h
    exact HX.out y hy
  rw [← hl] at hsL htot
  have HSL := Lib.hid hsL
  have HPT : Hid (∀ X, Below w2.heap.size w2 X → Calls Try.prog 19 #[.slice aL xs.length cL] X (GivesSs X (paths l))) := Lib.hid fun X hX => by
    have := paths_any X l aL cL (HSL.out.keep hX) (by rw [← HLN.out]; omega) (by omega)
    rwa [← HLN.out] at this
  have hps : (paths l).length ≤ 481 := by have := paths_len l; omega
  have HW := Lib.hid (paths_wf l)
  have HPM := Lib.hid (paths_mem l)
  have HLS := Lib.hid (paths_sub l)
  clear HX HX' HAW hb2 hb3 ts1 hsL hts hl
  clear hbl HTS HSL HNEW HPT HLN HL40 HW HPM HLS
  have hx0 : ((xs.length : Int) == 0) = true := by rw [beq_iff_eq]; omega
  go_wp2_with fail
  refine (few_any _ _ _ _).mono ?_
  rintro e3 w3 ⟨rfl, rfl⟩
  rw [decide_eq_true hl1]
  go_wp2
  go_ret
  exact ⟨rfl, HB.out⟩
set_option maxHeartbeats 8000000 in
theorem walk (w : World) (xs : List TxV) (a0 : Option Addr) (cap0 : Nat) (hz0 : xs.length ≤ 6000000000000) (hx0 : ∀ x ∈ xs, x.text.length ≤ maxLen) (hts : Ts w a0 xs) (line : Tx) (al : Option Addr) (cl : Nat) (hml : line.length ≤ maxLen) (hbl : Bs w w.heap.size al line) (hnl : al = none → cl = 0) (hcl : line.length ≤ cl) (n t : UInt8) :
    Calls Try.prog 7 #[.slice a0 xs.length cap0, .slice al line.length cl, .int .u8 (n.toNat : Int), .int .u8 (t.toNat : Int)] w fun e w' => e = .returned (.bool true) ∧ Below w.heap.size w w' := by
  by_cases hall : xs.length ≤ 12 ∧ (∀ x ∈ xs, x.text.length ≤ 40)
  · by_cases hl1 : line.length ≤ 120
    · by_cases hx1 : 0 < xs.length
      · exact small w xs a0 cap0 hts hall.1 hall.2 line al cl hml hbl hnl hcl n t hl1 hx1
      · exact empty w xs a0 cap0 hts hall.1 hall.2 line al cl hml hbl hnl hcl n t hl1 hx1
    · exact big w xs a0 cap0 hts hall.1 hall.2 line al cl hml hbl hnl hcl n t hl1
  · have HALL := Lib.hid hall
    have HX := Lib.hid hx0
    clear hall hx0
    go_enter Try.func7, Try.ntmps7
    go_wp2_with fail
    refine (awake_any _).mono ?_
    rintro e' w1 ⟨rfl, hb2⟩
    have ts1 := hts.keep hb2
    go_wp2_with fail
    refine (ltexts_any xs a0 cap0 w1 ts1 hz0 HX.out).mono ?_
    rintro e' w2 ⟨hb3, hcase⟩
    have B2 := hb2.trans (hb3.mono hb2.size)
    rcases hcase with ⟨_, rfl⟩ | ⟨hok, aL, cL, rfl, _⟩
    · go_wp2_with fail
      refine (few_any _ _ _ _).mono ?_
      rintro e3 w3 ⟨rfl, rfl⟩
      go_wp2
      go_ret
      exact ⟨rfl, B2⟩
    · have h12 : ¬ xs.length ≤ 12 := fun h => HALL.out ⟨h, hok⟩
      rw [decide_eq_false h12]
      clear HALL hok
      go_wp2_with fail
      refine (few_any _ _ _ _).mono ?_
      rintro e3 w3 ⟨rfl, rfl⟩
      go_wp2
      go_ret
      exact ⟨rfl, B2⟩
end Go.Proofs.Ytkooanahgffjgaa.sparseFront
