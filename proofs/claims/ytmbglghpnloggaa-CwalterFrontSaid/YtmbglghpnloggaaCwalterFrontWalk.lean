/- The walk of CwalterFront. -/
import Derived.Test.YtmbglghpnloggaaRc
namespace Go.Proofs.Ytmbglghpnloggaa.cwalterFront
open Go.Proofs.Ytmbglghpnloggaa.Tri Go.Proofs.Ytmbglghpnloggaa.Lnk Go.Proofs.Ytmbglghpnloggaa.Prs Go.Proofs.Ytmbglghpnloggaa.Spa Go.Proofs.Ytmbglghpnloggaa.Cwl Go.Proofs.Ytmbglghpnloggaa.Bck Go.Proofs.Ytmbglghpnloggaa.Wal Go.Proofs.Ytmbglghpnloggaa.Reg Go.RowKit Go.Maps
set_option maxRecDepth 100000
set_option linter.unusedVariables false
theorem cut_front1 (a : Option Addr) (l : Tx) (c k : Nat) (hk : k ≤ l.length) (hc : l.length ≤ c) :
    (∀ W, (Instr.slice 23 (.slice a l.length c) none (some (.int .i64 (k : Int))) none).run Try.prog W = .ok (.slice a k c) W) ∧ ∀ X B, Bs X B a l → Bs X B a (l.take k) := by
  have ht : Try.prog.underlying 23 = some (.slice (Try.prog.elem 23)) := by simp [Program.elem, Try.underlying23]
  have he : Try.prog.elem 23 = 5 := by simp [Program.elem, Try.underlying23]
  refine ⟨fun W => ?_, fun X B hb h0 => ?_⟩
  · rw [run_slice_h W 23 _ _ _ ht .i64 _ (by omega) (by omega), he, size_of5b]
    cases a with
    | none => simp [Result.andThen, sliced]
    | some x => obtain ⟨b, o, f⟩ := x; simp [Result.andThen, sliced, Addr.add]
  · rw [List.length_take] at h0
    obtain ⟨b', o', e, hb', hcs⟩ := hb (by omega)
    refine ⟨b', o', e, hb', fun i hi => ?_⟩
    rw [List.length_take] at hi
    rw [List.getElem_take]
    exact hcs i (by omega)
theorem tm_plus (a b : Nat) : (a : Int).tmod ((b : Int) + 1) = ((a % (b + 1) : Nat) : Int) := by
  have e : ((b : Int) + 1) = ((b + 1 : Nat) : Int) := by omega
  rw [e]
  exact (Int.ofNat_tmod a (b + 1)).symm
theorem mod_le (a b : Nat) : a % (b + 1) ≤ b := Nat.le_of_lt_succ (Nat.mod_lt a (Nat.succ_pos b))
theorem filter_snoc (l : List Pr) (f : Pr → Bool) (i : Nat) (h : i < l.length) : (l.take (i + 1)).filter f = (l.take i).filter f ++ (if f l[i] then [l[i]] else []) := by
  rw [List.take_succ_eq_append_getElem h, List.filter_append]
  congr 1
  by_cases e : f l[i] = true
  · simp [e]
  · simp [e]
theorem ifilter_snoc (l : List Int) (f : Int → Bool) (i : Nat) (h : i < l.length) : (l.take (i + 1)).filter f = (l.take i).filter f ++ (if f l[i] then [l[i]] else []) := by
  rw [List.take_succ_eq_append_getElem h, List.filter_append]
  congr 1
  by_cases e : f l[i] = true
  · simp [e]
  · simp [e]
/-- A window hangs on what is ahead of its end alone. -/
theorem backN_front (line : Tx) {k e : Nat} (he : e ≤ k) (n : Nat) : backN (line.take k) e n = backN line e n := by
  unfold backN
  rw [List.take_take, Nat.min_eq_left he]
theorem fits_front (p : List Tx) (line : Tx) {k e : Nat} (he : e ≤ k) : Cwl.fits p (line.take k) e = Cwl.fits p line e := by
  unfold Cwl.fits
  have : ∀ f n, fitN p (line.take k) e f n = fitN p line e f n := by
    intro f
    induction f with
    | zero => intro n; rfl
    | succ f ih =>
      intro n
      rw [fitN, fitN, backN_front line he, ih]
  exact this e 0
theorem move_front (l : List Tx) (line : Tx) {k e : Nat} (hk : k ≤ line.length) (he : e ≤ k) : moveOf l (line.take k) e = moveOf l line e := by
  rw [move_is l (line.take k) e (by rw [List.length_take]; omega), move_is l line e (by omega), fits_front _ line he, backN_front line he]
  by_cases h : Cwl.fits (paths (turned l)) line e < e
  · rw [if_pos h, if_pos h]
    congr 1
    rw [List.getD_eq_getElem?_getD, List.getD_eq_getElem?_getD, List.getElem?_take]
    rw [if_pos (by omega)]
  · rw [if_neg h, if_neg h]
theorem winds_front {l : List Tx} (ht : turned l ≠ []) (line : Tx) {k : Nat} (hk : k ≤ line.length) (hlk : (line.take k).length = k) : ∀ f f' e, 0 < e → k < e + f' → line.length < e + f → windows l (line.take k) f' e = (windows l line f e).filter fun e : Nat => decide (e ≤ k)
  | 0, f', e, _, h1, h2 => by
    rw [windows_end (line := line.take k) (f := f') (e := e) (by omega)]; rfl
  | f + 1, f', e, h0, h1, h2 => by
    by_cases he : e ≤ k
    · rw [windows_go (line := line.take k) (f := f') (e := e) (by omega) (by omega), windows_go (line := line) (f := f + 1) (e := e) (by omega) h2, move_front l line hk he]
      have hm := move_pos ht line e
      rw [List.filter_cons, if_pos (by simp; omega), Nat.add_sub_cancel]
      rw [winds_front ht line hk hlk f (f' - 1) (e + moveOf l line e) (by omega) (by omega) (by omega)]
    · rw [windows_end (line := line.take k) (f := f') (e := e) (by omega)]
      symm
      rw [List.filter_eq_nil_iff]
      intro b hb
      have := (windows_le l line (f + 1) e b hb).1
      simp; omega
theorem windsOf_front (l : List Tx) (line : Tx) {k : Nat} (hk : k ≤ line.length) : windsOf l (line.take k) = (windsOf l line).filter fun e => decide (e ≤ (k : Int)) := by
  have hlk : (line.take k).length = k := by rw [List.length_take]; omega
  unfold windsOf
  by_cases ht : turned l = []
  · rw [if_pos ht, if_pos ht]; rfl
  · rw [if_neg ht, if_neg ht, List.filter_map]
    have h0 := least_pos (fun z (hz : z ∈ turned l) => turned_ne hz) ht
    rw [hlk, winds_front ht line hk hlk (line.length + 1) (k + 1) _ h0 (by omega) (by omega)]
    congr 1
    refine List.filter_congr fun e _ => ?_
    show decide (e ≤ k) = decide ((e : Int) ≤ (k : Int))
    rw [decide_eq_decide]; omega

set_option maxHeartbeats 8000000 in
theorem small (w : World) (xs : List TxV) (a0 : Option Addr) (cap0 : Nat) (hts : Ts w a0 xs) (h0 : xs.length ≤ 12) (hx : ∀ x ∈ xs, x.text.length ≤ 40) (line : Tx) (aline : Option Addr) (cline : Nat) (hmline : line.length ≤ maxLen) (hbline : Bs w w.heap.size aline line) (hnline : aline = none → cline = 0) (hcline : line.length ≤ cline) (n : UInt8) :
    Calls Try.prog 7 #[.slice a0 xs.length cap0, .slice aline line.length cline, .int .u8 (n.toNat : Int)] w fun e w' => e = .returned (.bool true) ∧ Below w.heap.size w w' := by
  have KL : Hid (Ln w aline line cline) := Lib.hid ⟨hbline, hcline, hnline⟩
  clear hbline hcline hnline hmline
  have hx' : ∀ x ∈ xs, x.text.length ≤ maxLen := fun x h => Nat.le_trans (hx x h) (by unfold maxLen; omega)
  have htot := Spa.few_tot h0 hx
  have HX := Lib.hid hx
  have HX' := Lib.hid hx'
  have HAW := Lib.hid (Wal.awake_any w)
  clear hx hx'
  go_enter Try.func7, Try.ntmps7
  go_wp2_with fail
  refine HAW.out.mono ?_
  rintro e' w1 ⟨rfl, hb2⟩
  have ts1 := hts.keep hb2
  go_wp2_with fail
  refine (ltexts_any xs a0 cap0 w1 ts1 (by omega) HX'.out).mono ?_
  rintro e' w2 ⟨hb3, hcase⟩
  rcases hcase with ⟨hbad, _⟩ | ⟨_, aL, cL, rfl, hsL⟩
  · exact absurd HX.out hbad
  rw [decide_eq_true h0]
  have HTS := Lib.hid (ts1.keep hb3)
  have HB := Lib.hid (hb2.trans (hb3.mono hb2.size))
  have hszw := HB.out.size
  obtain ⟨l, hl⟩ : ∃ l, l = xs.map TxV.text := ⟨_, rfl⟩
  have HLN : Hid (xs.length = l.length) := Lib.hid (by rw [hl]; simp)
  have HLL := Lib.hid hl
  have HL40 : Hid (∀ x ∈ l, x.length ≤ 40) := Lib.hid fun x h => by
    rw [hl] at h
    obtain ⟨y, hy, rfl⟩ := List.mem_map.1 h
    exact HX.out y hy
  rw [← hl] at hsL htot
  have HSL := Lib.hid hsL
  have HNEW : Hid (∀ X, Below w2.heap.size w2 X → Calls Try.prog 13 #[.slice a0 xs.length cap0] X (GivesCw X l)) := Lib.hid fun X hX => by
    have := wnew_any X xs a0 cap0 (HTS.out.keep hX) (by omega) (fun x h => Nat.le_trans (HX.out x h) (by omega)) (by rw [← HLL.out]; omega)
    rwa [← HLL.out] at this
  have LL : Hid (∀ X, Below w2.heap.size w2 X → Ln X aline line cline) := Lib.hid fun X hX => (KL.out.keep HB.out).keep hX
  clear HAW KL hb2 hb3 ts1 hsL hts hl HX'
  by_cases hf : line.length ≤ 300
  · have hfi : ¬ (300 : Int) < (line.length : Int) := by omega
    have hwn : IntKind.i64.wrap (n.toNat : Int) = (n.toNat : Int) := IntWalk.i64_in _ (by have := n.toNat_lt; omega)
    have hkl := mod_le n.toNat line.length
    have htm := tm_plus n.toNat line.length
    have hz1 : ((line.length : Int) + 1 == 0) = false := by rw [beq_eq_false_iff_ne]; omega
    have hz2 : ¬ (line.length : Int) + 1 = 0 := by omega
    generalize n.toNat % (line.length + 1) = k at *
    go_wp2_with fail
    refine (HNEW.out w2 (Below.refl _ _)).mono ?_
    rintro e5 w5 ⟨p, rfl, hcw, b5⟩
    have HB5 := Lib.hid b5
    have HC5 := Lib.hid hcw
    have CE := Lib.hid (wends_any w5 p l hcw line aline cline (LL.out w5 b5) (by omega))
    have hwl := windsOf_len l line
    have HWF := Lib.hid (windsOf_front l line hkl)
    have HSF := Lib.hid (scan_front l line k hkl)
    have hsl := scan_len l line (by omega)
    generalize windsOf l line = E at *
    generalize hZ : scanOf l line = Z at *
    have HZ := Lib.hid hZ
    clear hcw b5 hZ
    go_wp2_with fail
    refine CE.out.mono ?_
    rintro e6 w6 ⟨aE, cE, rfl, hie, hb6⟩
    have HB6 := Lib.hid (HB5.out.trans (hb6.mono HB5.out.size))
    have HC6 := Lib.hid (HC5.out.keep hb6)
    have HIE := Lib.hid hie
    clear hie hb6 CE HB5 HC5
    go_wp2
    go_loopw [12, 14] (fun v i wr => ∃ j : Nat, j ≤ E.length ∧ i = .int .i64 (j : Int) ∧ wr.ownsRow w6.heap.size 3 1 v ((E.take j).filter fun e => decide (e ≤ (k : Int))).length (ivals ((E.take j).filter fun e => decide (e ≤ (k : Int)))) ∧ Below w6.heap.size w6 wr) (fun _ i _ => E.length - (intOf i).toNat)
    case atStart => exact ⟨0, by omega, rfl, World.ownsRow_nil _ _ _ _, Below.refl _ _⟩
    case round =>
      obtain ⟨j, hj, rfl, ho, hb⟩ := hrel
      have HO := Lib.hid ho
      have HBE := Lib.hid hb
      have hsz := hb.size
      clear ho hb
      have hfl : ((E.take j).filter fun e => decide (e ≤ (k : Int))).length ≤ 1000 := Nat.le_trans (List.length_filter_le _ _) (by rw [List.length_take]; omega)
      by_cases hlt : j < E.length
      · have hlt2 : (j : Int) < (E.length : Int) := by omega
        have HSN := Lib.hid (ifilter_snoc E (fun e => decide (e ≤ (k : Int))) j hlt)
        obtain ⟨bz, oz, ez, _, hcz⟩ := (HIE.out.keep HBE.out) (by omega)
        have hz1 := hcz j hlt
        clear hcz
        subst ez
        generalize E[j] = z at *
        by_cases hze : z ≤ (k : Int)
        · have HD := Lib.hid (decide_eq_true hze)
          go_wp2_with (at_builtin; refine app_is rfl _ _ rfl w6.heap.size _ _ ((E.take j).filter fun e => decide (e ≤ (k : Int))) z rfl (HO.out.alloc _) ⟨wr.heap.size, 0, none⟩ rfl (cell_new_at _ _ rfl) (by omega) (by simp; omega) ?_; intro v7 w7 hown7 hg7)
          refine ⟨⟨j + 1, by omega, by go_num, ?_, (HBE.out.alloc hsz _).grown hg7 (by simp; omega) (fun j hj => own_ge HO.out hj)⟩, by simp [intOf]; omega⟩
          rw [HSN.out, HD.out, if_pos rfl, List.length_append]
          exact hown7
        · have HD := Lib.hid (decide_eq_false hze)
          go_wp2
          exact ⟨⟨j + 1, by omega, by go_num, by rw [HSN.out, HD.out, if_neg (by decide), List.append_nil]; exact HO.out, HBE.out⟩, by simp [intOf]; omega⟩
      · have hlt2 : ¬ (j : Int) < (E.length : Int) := by omega
        have HJ : Hid ((E.take j).filter (fun e => decide (e ≤ (k : Int))) = windsOf l (line.take k)) := Lib.hid (by rw [HWF.out, List.take_of_length_le (by omega)])
        rw [HJ.out] at HO hfl
        clear hlt hj HWF HJ
        obtain ⟨ae, ce, rfl, hie, _⟩ := own_is HO.out
        have HEN := Lib.hid hie
        have HB7 := Lib.hid (HB6.out.trans (HBE.out.mono HB6.out.size))
        have HC7 := Lib.hid (HC6.out.keep HBE.out)
        have CS := Lib.hid (wscan_any wr p l HC7.out line aline cline (LL.out wr HB7.out) (by omega))
        rw [HZ.out] at CS
        clear hie HO HIE HB6 HC6 HBE hsz
        go_wp2_with fail
        refine CS.out.mono ?_
        rintro e8 w8 ⟨aX, cX, rfl, hpx, hb8⟩
        have HB8 := Lib.hid (HB7.out.trans (hb8.mono HB7.out.size))
        have HC8 := Lib.hid (HC7.out.keep hb8)
        have HEN8 := Lib.hid ((HEN.out.keep hb8).more hb8.size)
        have HPA := Lib.hid hpx
        clear hpx hb8 CS HB7 HC7 HEN
        generalize hWK : windsOf l (line.take k) = WK at *
        have HWK := Lib.hid hWK
        clear hWK
        go_wp2
        go_loopw [15, 17] (fun v i wi => ∃ j : Nat, j ≤ Z.length ∧ i = .int .i64 (j : Int) ∧ wi.ownsRow w8.heap.size 45 2 v ((Z.take j).filter fun p => decide (p.e ≤ (k : Int))).length (cellsOf ((Z.take j).filter fun p => decide (p.e ≤ (k : Int)))) ∧ Below w8.heap.size w8 wi) (fun _ i _ => Z.length - (intOf i).toNat)
        case atStart => exact ⟨0, by omega, rfl, World.ownsRow_nil _ _ _ _, Below.refl _ _⟩
        case round =>
          obtain ⟨j2, hj2, rfl, ho, hb⟩ := hrel
          have HO := Lib.hid ho
          have HBE := Lib.hid hb
          have hsz := hb.size
          clear ho hb
          have hfl2 : ((Z.take j2).filter fun p => decide (p.e ≤ (k : Int))).length ≤ 1000000 := Nat.le_trans (List.length_filter_le _ _) (by rw [List.length_take]; omega)
          by_cases hlt : j2 < Z.length
          · have hlt3 : (j2 : Int) < (Z.length : Int) := by omega
            have HSN := Lib.hid (filter_snoc Z (fun p => decide (p.e ≤ (k : Int))) j2 hlt)
            obtain ⟨bz, oz, ez, _, hcz⟩ := (HPA.out.keeps HBE.out) (by omega)
            obtain ⟨hz1, hz2⟩ := hcz j2 hlt
            clear hcz
            subst ez
            generalize Z[j2] = z at *
            by_cases hze : z.e ≤ (k : Int)
            · have HD := Lib.hid (decide_eq_true hze)
              go_wp2_with (at_builtin; refine app_ps rfl _ _ rfl w8.heap.size _ _ ((Z.take j2).filter fun p => decide (p.e ≤ (k : Int))) rfl (HO.out.alloc _) (some ⟨wr.heap.size, 0, none⟩) [z] 1 (wr.heap.size + 1) rfl (by have := ps_one wr z (0, 0); rwa [World.size_alloc] at this) (fun e => by cases e) (by simp only [List.length_cons, List.length_nil]; omega) (by simp; omega) ?_; intro v9 w9 hown9 hg9)
              refine ⟨⟨j2 + 1, by omega, by go_num, ?_, (HBE.out.alloc hsz _).grown hg9 (by simp; omega) (fun j hj => own_ge HO.out hj)⟩, by simp [intOf]; omega⟩
              rw [HSN.out, HD.out, if_pos rfl, List.length_append]
              exact hown9
            · have HD := Lib.hid (decide_eq_false hze)
              go_wp2
              exact ⟨⟨j2 + 1, by omega, by go_num, by rw [HSN.out, HD.out, if_neg (by decide), List.append_nil]; exact HO.out, HBE.out⟩, by simp [intOf]; omega⟩
          · have hlt3 : ¬ (j2 : Int) < (Z.length : Int) := by omega
            have HJ : Hid ((Z.take j2).filter (fun p => decide (p.e ≤ (k : Int))) = scanOf l (line.take k)) := Lib.hid (by rw [HSF.out, List.take_of_length_le (by omega)])
            rw [HJ.out] at HO hfl2
            clear hlt hj2 HSF HJ
            obtain ⟨aw, cw, rfl, _, _, hpw⟩ := own_ps HO.out rfl
            have HPW := Lib.hid hpw
            have HB9 := Lib.hid (HB8.out.trans (HBE.out.mono HB8.out.size))
            have HC9 := Lib.hid (HC8.out.keep HBE.out)
            have HEN9 := Lib.hid ((HEN8.out.keep HBE.out).more HBE.out.size)
            have hlk : (line.take k).length = k := by rw [List.length_take]; omega
            have LLb := LL.out w2 (Below.refl _ _)
            obtain ⟨hcut, hcb⟩ := cut_front1 aline line cline k hkl LLb.2.1
            have HLK : Hid (∀ X, Below w2.heap.size w2 X → Ln X aline (line.take k) cline) := Lib.hid fun X hX => ⟨hcb X _ (LL.out X hX).1, by rw [hlk]; have := LLb.2.1; omega, (LL.out X hX).2.2⟩
            have HEK : Hid (∀ X, Below w2.heap.size w2 X → Cw X p l → Calls Try.prog 17 #[.pointer p, .slice aline k cline] X (GivesIs X WK)) := Lib.hid fun X hX hc => by
              have := wends_any X p l hc (line.take k) aline cline (HLK.out X hX) (by omega)
              rwa [hlk, HWK.out] at this
            have HSK : Hid (∀ X, Below w2.heap.size w2 X → Cw X p l → Calls Try.prog 14 #[.pointer p, .slice aline k cline] X (GivesPrs X (scanOf l (line.take k)))) := Lib.hid fun X hX hc => by
              have := wscan_any X p l hc (line.take k) aline cline (HLK.out X hX) (by omega)
              rwa [hlk] at this
            have HL2 := Lib.hid LLb
            clear hpw HO HPA HB8 HC8 HEN8 HBE hsz hcb LLb hlk
            generalize scanOf l (line.take k) = ZK at *
            go_wp2_with fail
            refine (HEK.out wr HB9.out HC9.out).mono ?_
            rintro e10 u1 ⟨a1, c1, rfl, hi1, hb10⟩
            have HB10 := Lib.hid (HB9.out.trans (hb10.mono HB9.out.size))
            have HC10 := Lib.hid (HC9.out.keep hb10)
            have HPW10 := Lib.hid ((HPW.out.keep hb10).more hb10.size)
            have HS1 := Lib.hid (isame_any u1 WK WK a1 ae c1 ce u1.heap.size hi1 ((HEN9.out.keep hb10).more hb10.size) (by omega) (by omega))
            rw [decide_eq_true (rfl : WK = WK)] at HS1
            clear hi1 hb10 HB9 HC9 HPW HEN9
            go_wp2_with fail
            refine HS1.out.mono ?_
            rintro e11 u2 ⟨rfl, d, rfl⟩
            have b7 : Below u1.heap.size u1 (u1.drewN d) := below_drews (Below.refl _ _) d
            have HB11 := Lib.hid (HB10.out.trans (b7.mono HB10.out.size))
            have HC11 := Lib.hid (HC10.out.keep b7)
            have HPW11 := Lib.hid ((HPW10.out.keep b7).more b7.size)
            clear b7 HB10 HC10 HPW10 HS1
            generalize u1.drewN d = u3 at *
            go_wp2_with fail
            refine (HSK.out u3 HB11.out HC11.out).mono ?_
            rintro e12 u4 ⟨a2, c2, rfl, hp2, hb12⟩
            have HB12 := Lib.hid (HB11.out.trans (hb12.mono HB11.out.size))
            have HS2 := Lib.hid (same_any ZK ZK a2 aw c2 cw u4 (by omega) hp2 ((HPW11.out.keep hb12).more hb12.size))
            rw [decide_eq_true (rfl : ZK = ZK)] at HS2
            clear hp2 hb12 HB11 HC11 HPW11
            go_wp2_with fail
            refine HS2.out.mono ?_
            rintro e13 u5 ⟨rfl, d2, rfl⟩
            go_wp2
            go_ret
            exact ⟨rfl, HB.out.trans ((below_drews HB12.out d2).mono HB.out.size)⟩
  · have hfi : (300 : Int) < (line.length : Int) := by omega
    go_wp2
    go_ret
    exact ⟨rfl, HB.out⟩
theorem walk (w : World) (xs : List TxV) (a0 : Option Addr) (cap0 : Nat) (hz0 : xs.length ≤ 6000000000000) (hx0 : ∀ x ∈ xs, x.text.length ≤ maxLen) (hts : Ts w a0 xs) (line : Tx) (aline : Option Addr) (cline : Nat) (hmline : line.length ≤ maxLen) (hbline : Bs w w.heap.size aline line) (hnline : aline = none → cline = 0) (hcline : line.length ≤ cline) (n : UInt8) :
    Calls Try.prog 7 #[.slice a0 xs.length cap0, .slice aline line.length cline, .int .u8 (n.toNat : Int)] w fun e w' => e = .returned (.bool true) ∧ Below w.heap.size w w' := by
  by_cases hall : xs.length ≤ 12 ∧ (∀ x ∈ xs, x.text.length ≤ 40)
  · exact small w xs a0 cap0 hts hall.1 hall.2 line aline cline hmline hbline hnline hcline n
  · clear hmline hbline hnline hcline
    have HALL := Lib.hid hall
    have HX := Lib.hid hx0
    clear hall hx0
    go_enter Try.func7, Try.ntmps7
    go_wp2_with fail
    refine (Wal.awake_any _).mono ?_
    rintro e' w1 ⟨rfl, hb2⟩
    have ts1 := hts.keep hb2
    go_wp2_with fail
    refine (ltexts_any xs a0 cap0 w1 ts1 hz0 HX.out).mono ?_
    rintro e' w2 ⟨hb3, hcase⟩
    have B2 := hb2.trans (hb3.mono hb2.size)
    rcases hcase with ⟨_, rfl⟩ | ⟨hok, aL, cL, rfl, _⟩
    · go_wp2
      go_ret
      exact ⟨rfl, B2⟩
    · have h12 : ¬ xs.length ≤ 12 := fun h => HALL.out ⟨h, hok⟩
      rw [decide_eq_false h12]
      clear HALL hok
      go_wp2
      go_ret
      exact ⟨rfl, B2⟩
end Go.Proofs.Ytmbglghpnloggaa.cwalterFront
