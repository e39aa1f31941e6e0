/- The walk of StreamPlays. -/
import Derived.Test.YtcekifknbljbiaaStrC6
namespace Go.Proofs.Ytcekifknbljbiaa.streamPlays
open Go.Proofs.Ytcekifknbljbiaa.Stm Go.Proofs.Ytcekifknbljbiaa.Str Go.Proofs.Ytcekifknbljbiaa.Reg Go.RowKit Go.Maps
set_option maxRecDepth 100000
set_option linter.unusedVariables false

attribute [local go_sem ↓] Met.eql_counts
set_option maxHeartbeats 8000000 in
theorem walk (w : World) (xs : List TxV) (a0 : Option Addr) (cap0 : Nat) (hz0 : xs.length ≤ 6000000000000) (hx0 : ∀ x ∈ xs, x.text.length ≤ maxLen) (hts : Ts w a0 xs) (hcx : ∀ x ∈ xs, x.text.length ≤ x.cap) (most : Int) (hw0 : (Lit.int .i64 most).wf = true) (en : Bool) :
    Calls Try.prog 3 #[.slice a0 xs.length cap0, .int .i64 most, .bool en] w fun e w' => e = .returned (.bool true) ∧ Below w.heap.size w w' := by
  have HS := Lib.hid hts
  have HX := Lib.hid hx0
  have HCX := Lib.hid hcx
  have HAW := Lib.hid (awake_any w)
  have hz1 : xs.length ≤ maxLen := by unfold maxLen; omega
  clear hts hx0 hcx
  obtain ⟨M, hM⟩ := max_nat most
  clear hw0
  go_enter Try.func3, Try.ntmps3
  go_wp2_with fail
  refine HAW.out.mono ?_
  rintro e' w1 ⟨rfl, hb1⟩
  have HB1 := Lib.hid hb1
  clear HAW hb1
  have HS1 := Lib.hid (HS.out.keep HB1.out)
  go_wp2_with fail
  refine (few_any w1 a0 cap0 xs HS1.out hz1 HX.out).mono ?_
  rintro e' w2 ⟨z, rfl, rfl, hz⟩
  cases z
  · clear hz
    go_wp2_with fail
    go_ret
    exact ⟨rfl, HB1.out⟩
  have HF := Lib.hid (hz rfl)
  clear hz HS1 HX hz0 hz1
  have hfl : (tx xs).flatten.length ≤ 1500 := HF.out.2.1
  have hsz := HB1.out.size
  go_wp2_with fail
  refine (Met.new_mt w2).mono ?_
  rintro e' w3 ⟨rfl, hMt, hb3⟩
  have hb13 := HB1.out.trans (hb3.mono hsz)
  have NW := Lib.hid (snew_any w w3 (some ⟨w2.heap.size, 0, none⟩) most M hM hb13 hMt (fun k hk => by cases hk; exact hsz))
  clear hMt hb3 hb13
  generalize w2.heap.size = gm at *
  go_wp2_with fail
  refine NW.out.mono ?_
  rintro e' w4 ⟨p, g, rfl, _, _, hS4, _⟩
  have HS4 := Lib.hid hS4
  clear NW hS4
  go_wp2_with fail
  refine (rsnew_any w4 most M hM).mono ?_
  rintro e' w5 ⟨rfl, hb5⟩
  have HS5 := Lib.hid (HS4.out.keep hb5)
  clear hb5 HS4 hM
  obtain ⟨q0, hq0⟩ : ∃ q0, q0 = stNew M := ⟨_, rfl⟩
  have hbd0 : Bd 0 q0 := by rw [hq0]; exact bd_new M
  rw [← hq0] at HS5
  rw [← hq0, show rv q0 = (.agg #[.string (str q0.w.held), .int .i64 (q0.w.room : Int), .int .i64 (q0.w.move : Int), .int .i64 (q0.most : Int), .int .i64 (q0.num : Int), .int .i64 (q0.off : Int), .int .i64 (q0.hunt : Int), .bool q0.over, .int .i64 (errOf q0)]) from rfl]
  clear hq0
  have hrb := Blk9.new w5 33 (.string (str q0.w.held)) (.int .i64 (q0.w.room : Int)) (.int .i64 (q0.w.move : Int)) (.int .i64 (q0.most : Int)) (.int .i64 (q0.num : Int)) (.int .i64 (q0.off : Int)) (.int .i64 (q0.hunt : Int)) (.bool q0.over) (.int .i64 (errOf q0))
  have hD5 : Dp w (w5.alloc (.cells #[.string (str q0.w.held), .int .i64 (q0.w.room : Int), .int .i64 (q0.w.move : Int), .int .i64 (q0.most : Int), .int .i64 (q0.num : Int), .int .i64 (q0.off : Int), .int .i64 (q0.hunt : Int), .bool q0.over, .int .i64 (errOf q0)] 33)) p gm g none w5.heap.size q0 := ⟨HS5.out.keep (Met.below_new _ _), hrb, HS5.out.sbel.size, fun h => by have := HS5.out.ownl h; omega⟩
  have HD5 := Lib.hid hD5
  have HBD := Lib.hid hbd0
  clear hrb hD5 HS5 hbd0
  go_wp2_with fail
  generalize w5.alloc (.cells #[.string (str q0.w.held), .int .i64 (q0.w.room : Int), .int .i64 (q0.w.move : Int), .int .i64 (q0.most : Int), .int .i64 (q0.num : Int), .int .i64 (q0.off : Int), .int .i64 (q0.hunt : Int), .bool q0.over, .int .i64 (errOf q0)] 33) = w6 at *
  generalize w5.heap.size = cb at *
  have hxl := HF.out.1
  go_loopw [13] (fun i wr => ∃ (k : Nat) (d : Option Nat) (q : St), k ≤ xs.length + 1 ∧ i = .int .i64 (k : Int) ∧ Hid (Dp w wr p gm g d cb q) ∧ Hid (Bd (Str.total (xs.take k) + k) q)) (fun i _ => xs.length + 1 - (intOf i).toNat)
  case atStart => exact ⟨0, none, q0, by omega, rfl, HD5, Lib.hid (HBD.out.more (Nat.zero_le _))⟩
  case round =>
    clear HD5 HBD
    obtain ⟨k, d, q, hk, rfl, HD, HBD⟩ := hrel
    have htot := total_le xs k
    have hto : Str.total xs ≤ 1500 := HF.out.2.1
    have hquo : (Int.tdiv (xs.length : Int) 2) = ((xs.length / 2 : Nat) : Int) := rfl
    have c := HD.out.rb.cells
    obtain ⟨c0, c1, c2, c3, c4, c5, c6, c7, c8⟩ := c
    have fb := HD.out.rb.free
    by_cases hin : k ≤ xs.length
    · by_cases hlt : k < xs.length
      · cases en
        · have hkl : (k : Int) < (xs.length : Int) := by omega
          have HC := Lib.hid (arg_cks (p := p) (g := g) (d := d) (mp := some ⟨gm, 0, none⟩) HS.out HCX.out HD.out.sm.sbel (fun k hk => HD.out.sm.own0 hk))
          obtain ⟨b, off, ea0, hbl, hc⟩ := HC.out.kts.1 (by omega)
          have hck := hc k hlt
          have hmem := List.getElem_mem hlt
          have hts1 := Str.total_succ xs k hlt
          have htl1 := Str.total_le xs (k + 1)
          have HFD := Lib.hid (sfeed_all w wr p _ g d q HD.out.sm _ HBD.out (by omega) xs[k].text xs[k].a _ xs[k].cap rfl (HC.out.bx hmem) (by omega) (HC.out.kcap _ hmem) xs[k].nil0)
          have hbd2 := HBD.out.feed xs[k].text
          have HRF := Lib.hid (fun W => rsfeed_all W q _ HBD.out (by omega) xs[k].text (by omega))
          obtain ⟨b0, off0, ea, hb0l, hc0⟩ := HS.out.1 (by omega)
          have hbs0 := HS.out.2 _ hmem
          have hrow0 := hc0 k hlt
          have hb0e : b0 = b ∧ off0 = off := by rw [ea0] at ea; injection ea with ea; injection ea with e1 e2; exact ⟨e1.symm, e2.symm⟩
          obtain ⟨rfl, rfl⟩ := hb0e
          have HROW : Hid (∀ W, Below w.heap.size w W → W.cell? ⟨b0, off0 + k, none⟩ = some (.slice xs[k].a xs[k].text.length xs[k].cap) ∧ Bs W w.heap.size xs[k].a xs[k].text) := Lib.hid fun W h => ⟨(h.cell (p := ⟨b0, _, none⟩) hb0l).trans hrow0, hbs0.keep h⟩
          have hbd3 : Bd (Str.total (xs.take (k + 1)) + (k + 1)) (q.feed xs[k].text).1 := hbd2.more (by omega)
          have hcbl := HD.out.rb.lt
          clear hc hc0 hmem hbs0 hrow0 hbd2 HC hbl
          obtain ⟨T, hT⟩ : ∃ T, T = xs[k].text := ⟨_, rfl⟩
          obtain ⟨A0, hA0⟩ : ∃ A0, A0 = xs[k].a := ⟨_, rfl⟩
          obtain ⟨C0, hC0⟩ : ∃ C0, C0 = xs[k].cap := ⟨_, rfl⟩
          rw [← hT, ← hA0, ← hC0] at HFD HROW
          rw [← hT] at HRF hbd3 hts1
          rw [← hT, ← hA0, ← hC0] at hck
          subst ea
          clear hT hA0 hC0
          have hTl : T.length ≤ 1500 := by omega
          clear hts1
          go_wp2_with fail
          refine HFD.out.mono ?_
          rintro e' w7 ⟨v7, ys, d', rfl, hy, hg, hn, hm, hch⟩
          obtain ⟨q', hq'⟩ : ∃ q', q' = (q.feed T).1 := ⟨_, rfl⟩
          obtain ⟨F, hF⟩ : ∃ F, F = (q.feed T).2 := ⟨_, rfl⟩
          have hqf : q.feed T = (q', F) := by rw [hq', hF]
          have hFl : F.length ≤ 1500 := by have := feed_told_len q T; rw [hF]; omega
          rw [← hF] at hy
          rw [← hq'] at hm hbd3
          obtain ⟨a7, cap7, rfl, hl7, hla7, hlt7⟩ := own_lt2 hg.1 (fun x hx => (hg.2 x hx).1)
          obtain ⟨hsm7, hrb7, hno7⟩ := HD.out.went hm hch hn
          have HYF := Lib.hid hy
          have HBD' := Lib.hid hbd3
          have HNO := Lib.hid hno7
          have HLB : Hid (∀ ad : Addr, a7 = some ad → cb < ad.block) := Lib.hid fun ad e => by have := hla7 ad e; omega
          have HLT : Hid (∀ x ∈ ys, 0 < x.sl.text.length → ∀ ad : Addr, x.a = some ad → cb < ad.block) := Lib.hid fun x hx h0 ad e => by have := hlt7 x hx h0 ad e; omega
          have hS7 := HROW.out w7 hsm7.sbel
          have HSM7 := Lib.hid hsm7
          have HRB7 := Lib.hid hrb7
          have HL7 := Lib.hid hl7
          have hw7 := hch.csize
          have hcb0 : cb ≠ b0 := by have := HD.out.lo; omega
          clear HFD hy hg hn hm hch hl7 hla7 hlt7 hsm7 hrb7 hno7 hbd3 hq' hF c0 c1 c2 c3 c4 c5 c6 c7 c8 fb
          clear hck
          go_wp2_with fail
          refine wp_region_held_drew (S := fun w' => w'.cell? ⟨b0, off0 + k, none⟩ = some (.slice A0 T.length C0) ∧ Bs w' w.heap.size A0 T) (by kernel_rfl) hS7 (fun hH0 => ?_)
          have HSMx := Lib.hid (HSM7.out.keep (below_drews (Below.refl _ _) 1))
          have HRBx := Lib.hid (HRB7.out.keep (below_drews (Below.refl _ _) 1) HRB7.out.lt)
          have HLx := Lib.hid (HL7.out.keep (below_drews (Below.refl _ _) 1))
          change Hid (Sm _ w7.drew _ _ _ _ _) at HSMx
          change Hid (Rb w7.drew _ _) at HRBx
          change Hid (Lt w7.drew _ _) at HLx
          have hw8 : wr.heap.size ≤ w7.drew.heap.size := hw7
          clear HSM7 HRB7 HL7 hS7 hw7
          generalize w7.drew = x0 at *
          refine held_take (i := 1) (d := 64) (oi := _) (v := ?_) rfl rfl (by kernel_rfl) (by kernel_rfl) (by kernel_rfl) (fun _ _ _ h => h) (Or.inl ⟨by rfl, ?_⟩) (by assumption) ?_
          rotate_left
          · (intro w hSw; obtain ⟨s0, s1⟩ := hSw; go_simp; (try with_reducible rfl))
          simp only [Act.put, List.setIfInBounds_toArray, List.set_cons_zero, List.set_cons_succ]
          refine held_take (i := 2) (d := 65) (oi := _) (v := ?_) rfl rfl (by kernel_rfl) (by kernel_rfl) (by kernel_rfl) (fun _ _ _ h => h) (Or.inl ⟨by rfl, ?_⟩) (by assumption) ?_
          rotate_left
          · (intro w hSw; obtain ⟨s0, s1⟩ := hSw; go_simp; (try with_reducible rfl))
          simp only [Act.put, List.setIfInBounds_toArray, List.set_cons_zero, List.set_cons_succ]
          refine held_take (i := 3) (d := 66) (oi := _) (v := ?_) rfl rfl (by kernel_rfl) (by kernel_rfl) (by kernel_rfl) (fun _ _ _ h => h) (Or.inl ⟨by rfl, ?_⟩) (by assumption) ?_
          rotate_left
          · (intro w hSw; obtain ⟨s0, s1⟩ := hSw; go_simp; (try with_reducible rfl))
          simp only [Act.put, List.setIfInBounds_toArray, List.set_cons_zero, List.set_cons_succ]
          refine held_take (i := 4) (d := 67) (oi := _) (v := ?_) rfl rfl (by kernel_rfl) (by kernel_rfl) (by kernel_rfl) (fun _ _ _ h => h) (Or.inl ⟨by rfl, ?_⟩) (by assumption) ?_
          rotate_left
          · (intro w hSw; obtain ⟨s0, s1⟩ := hSw; go_simp; (try with_reducible rfl))
          simp only [Act.put, List.setIfInBounds_toArray, List.set_cons_zero, List.set_cons_succ]
          refine held_take (i := 5) (d := 68) (oi := _) (v := ?_) rfl rfl (by kernel_rfl) (by kernel_rfl) (by kernel_rfl) (fun _ _ _ h => h) (Or.inl ⟨by rfl, ?_⟩) (by assumption) ?_
          rotate_left
          · (intro w hSw; obtain ⟨s0, s1⟩ := hSw; have hcv := str_of_bs C0 s1; go_simp; (try with_reducible rfl))
          simp only [Act.put, List.setIfInBounds_toArray, List.set_cons_zero, List.set_cons_succ]
          obtain ⟨c0, c1, c2, c3, c4, c5, c6, c7x, c8⟩ := HRBx.out.cells
          refine wpAnyH_ready (rs := [0]) (by kernel_rfl) (by simp) ?_
          refine AllReadyH.cons rfl (fun K hK => ?_) AllReadyH.nil
          go_simp
          refine hK.out _ _ hH0 (fun _ => ?_)
          clear hK K c0 c1 c2 c3 c4 c5 c6 c7x c8
          refine wpAnyH_ready (rs := [6]) (by kernel_rfl) (by simp) ?_
          refine AllReadyH.cons rfl (fun K hK => ?_) AllReadyH.nil
          go_simp
          go_wp2_with (go_at_call 16; (with_reducible refine (HRF.out x0).mono ?_); rintro e x1 ⟨vr, rfl, hrw, hb⟩; rw [hqf] at hrw; have HRW := Lib.hid hrw; have HB := Lib.hid hb; clear hrw hb)
          first | rw [hqf, show rv (q', F).1 = (.agg #[.string (str q'.w.held), .int .i64 (q'.w.room : Int), .int .i64 (q'.w.move : Int), .int .i64 (q'.most : Int), .int .i64 (q'.num : Int), .int .i64 (q'.off : Int), .int .i64 (q'.hunt : Int), .bool q'.over, .int .i64 (errOf q')]) from rfl] | rw [show rv q' = (.agg #[.string (str q'.w.held), .int .i64 (q'.w.room : Int), .int .i64 (q'.w.move : Int), .int .i64 (q'.most : Int), .int .i64 (q'.num : Int), .int .i64 (q'.off : Int), .int .i64 (q'.hunt : Int), .bool q'.over, .int .i64 (errOf q')]) from rfl] | skip
          have hH1 : x1.cell? ⟨b0, off0 + k, none⟩ = some (.slice A0 T.length C0) ∧ Bs x1 w.heap.size A0 T := HROW.out x1 (HSMx.out.keep HB.out).sbel
          refine hK.out _ _ hH1 (fun _ => ?_)
          clear hK K hH0
          have HSM := Lib.hid (HSMx.out.keep HB.out)
          have HRB := Lib.hid (HRBx.out.keep HB.out HRBx.out.lt)
          have HLX := Lib.hid (HLx.out.keep HB.out)
          obtain ⟨ay, cy, evr, hrx, hry⟩ := own_rl HRW.out
          subst evr
          have HRX := Lib.hid hrx
          have HRX2 : Hid (∀ ad : Addr, ay = some ad → cb < ad.block) := Lib.hid fun ad e => by have := (hry ad e).1; omega
          clear hrx hry HRW HSMx HRBx HLx
          refine held_take (i := 7) (d := 62) (oi := _) (v := ?_) rfl rfl (by kernel_rfl) (by kernel_rfl) (by kernel_rfl) (fun _ _ _ h => h) (Or.inl ⟨by rfl, ?_⟩) (by assumption) ?_
          rotate_left
          · (intro w hSw; obtain ⟨s0, s1⟩ := hSw; go_simp; (try with_reducible rfl))
          simp only [Act.put, List.setIfInBounds_toArray, List.set_cons_zero, List.set_cons_succ]
          refine held_take (i := 8) (d := 70) (oi := _) (v := ?_) rfl rfl (by kernel_rfl) (by kernel_rfl) (by kernel_rfl) (fun _ _ _ h => h) (Or.inl ⟨by rfl, ?_⟩) (by assumption) ?_
          rotate_left
          · (intro w hSw; obtain ⟨s0, s1⟩ := hSw; go_simp; (try with_reducible rfl))
          simp only [Act.put, List.setIfInBounds_toArray, List.set_cons_zero, List.set_cons_succ]
          refine held_take (i := 9) (d := 71) (oi := _) (v := ?_) rfl rfl (by kernel_rfl) (by kernel_rfl) (by kernel_rfl) (fun _ _ _ h => h) (Or.inl ⟨by rfl, ?_⟩) (by assumption) ?_
          rotate_left
          · (intro w hSw; obtain ⟨s0, s1⟩ := hSw; go_simp; (try with_reducible rfl))
          simp only [Act.put, List.setIfInBounds_toArray, List.set_cons_zero, List.set_cons_succ]
          obtain ⟨c0, c1, c2, c3, c4, c5, c6, c7x, c8⟩ := HRB.out.cells
          have fb := HRB.out.free
          refine wpAnyH_ready (rs := [10]) (by kernel_rfl) (by simp) ?_
          refine AllReadyH.cons rfl (fun K hK => ?_) AllReadyH.nil
          go_simp
          have hH2 : (set9 x1 cb q').cell? ⟨b0, off0 + k, none⟩ = some (.slice A0 T.length C0) ∧ Bs (set9 x1 cb q') w.heap.size A0 T := ⟨(World.cell?_of_block (set9_other (fun e => hcb0 e.symm))).trans hH1.1, (ch_set9 x1 cb q').bs hH1.2 (by have := HSM.out.sbel.size; omega) (fun h0 ad e he => by have h1 := bs_at hH1.2 h0 e; have h2 := HD.out.lo; omega)⟩
          refine hK.out _ _ hH2 (fun _ => ?_)
          clear hK K hH2 hH1 c0 c1 c2 c3 c4 c5 c6 c7x c8 fb
          refine held_take (i := 11) (d := 15) (oi := _) (v := ?_) rfl rfl (by kernel_rfl) (by kernel_rfl) (by kernel_rfl) (fun _ _ _ h => h) (Or.inl ⟨by rfl, ?_⟩) (by assumption) ?_
          rotate_left
          · (intro w hSw; obtain ⟨s0, s1⟩ := hSw; go_simp; (try with_reducible rfl))
          simp only [Act.put, List.setIfInBounds_toArray, List.set_cons_zero, List.set_cons_succ]
          refine wpAnyH_done (by kernel_rfl) ?_ _
          obtain ⟨z, hz⟩ : ∃ z, z = set9 x1 cb q' := ⟨_, rfl⟩
          rw [show (((((((((x1.setCell ⟨cb, 0, none⟩ (.string (str q'.w.held))).setCell ⟨cb, 1, none⟩ (.int .i64 (q'.w.room : Int))).setCell ⟨cb, 2, none⟩ (.int .i64 (q'.w.move : Int))).setCell ⟨cb, 3, none⟩ (.int .i64 (q'.most : Int))).setCell ⟨cb, 4, none⟩ (.int .i64 (q'.num : Int))).setCell ⟨cb, 5, none⟩ (.int .i64 (q'.off : Int))).setCell ⟨cb, 6, none⟩ (.int .i64 (q'.hunt : Int))).setCell ⟨cb, 7, none⟩ (.bool q'.over)).setCell ⟨cb, 8, none⟩ (.int .i64 (errOf q'))) = z from hz.symm]
          have HDz : Hid (Dp w z p gm g d' cb q') := Lib.hid (by rw [hz]; exact dp_set HSM.out HRB.out HD.out.lo HNO.out)
          have hcz : Ch x1 z (fun k => k = cb) := by rw [hz]; exact ch_set9 _ _ _
          have HLz := Lib.hid (HLX.out.ch hcz (fun _ ad e h => by have := HLB.out ad e; omega) (fun x hx h0 ad e h => by have := HLT.out x hx h0 ad e; omega))
          have HRz := Lib.hid (HRX.out.ch hcz (fun ad e h => by have := HRX2.out ad e; omega))
          clear hz hcz HSM HRB HNO HLX HRX HLB HLT HRX2 HD HBD
          have hlen : ys.length = F.length := by rw [← HYF.out, List.length_map]
          have h1 : ((ys.length : Int) != (F.length : Int)) = false := by rw [hlen]; simp
          have HBB : Hid (Below z.heap.size z z) := Lib.hid (Below.refl _ _)
          have CC : Hid (∀ X, Below z.heap.size z X → Calls Try.prog 19 #[.pointer (some ⟨gm, 0, none⟩)] X fun e w' => e = .returned (.agg #[.int .i64 0, .int .i64 0, .int .i64 (q'.hunt : Int), .int .i64 (q'.w.move : Int)]) ∧ Below X.heap.size X w') := Lib.hid fun X h => Met.counts_mt X gm 0 0 _ _ (HDz.out.keep h).sm.smt
          have L6 : Hid (∀ X, Below z.heap.size z X → X.cell? ⟨cb, 6, none⟩ = some (.int .i64 (q'.hunt : Int))) := Lib.hid fun X h => (HDz.out.keep h).rb.cells.2.2.2.2.2.2.1
          have L2 : Hid (∀ X, Below z.heap.size z X → X.cell? ⟨cb, 2, none⟩ = some (.int .i64 (q'.w.move : Int))) := Lib.hid fun X h => (HDz.out.keep h).rb.cells.2.2.1
          have n3 := Str.neq_counts 0 0 (q'.hunt : Int) (q'.w.move : Int)
          go_wp2_with fail
          refine wp_region_held_drew (S := fun w' => Below z.drew.heap.size z.drew w') (by kernel_rfl) (Below.refl _ _) (fun hH0 => ?_)
          have B0 := Lib.hid (below_drews HBB.out 1)
          change Hid (Below _ _ z.drew) at B0
          generalize z.drew = x0 at *
          refine held_take (i := 0) (d := 79) (oi := _) (v := ?_) rfl rfl (by kernel_rfl) (by kernel_rfl) (by kernel_rfl) (fun _ _ _ h => h) (Or.inl ⟨by rfl, ?_⟩) (by assumption) ?_
          rotate_left
          · (intro w hSw; clear hSw; go_simp; (try with_reducible rfl))
          simp only [Act.put, List.setIfInBounds_toArray, List.set_cons_zero, List.set_cons_succ]
          refine held_take (i := 1) (d := 80) (oi := _) (v := ?_) rfl rfl (by kernel_rfl) (by kernel_rfl) (by kernel_rfl) (fun _ _ _ h => h) (Or.inl ⟨by rfl, ?_⟩) (by assumption) ?_
          rotate_left
          · (intro w hSw; clear hSw; go_simp; (try with_reducible rfl))
          simp only [Act.put, List.setIfInBounds_toArray, List.set_cons_zero, List.set_cons_succ]
          refine held_take (i := 2) (d := 81) (oi := _) (v := ?_) rfl rfl (by kernel_rfl) (by kernel_rfl) (by kernel_rfl) (fun _ _ _ h => h) (Or.inl ⟨by rfl, ?_⟩) (by assumption) ?_
          rotate_left
          · (intro w hSw; clear hSw; go_simp; (try with_reducible rfl))
          simp only [Act.put, List.setIfInBounds_toArray, List.set_cons_zero, List.set_cons_succ]
          refine held_take (i := 3) (d := 82) (oi := _) (v := ?_) rfl rfl (by kernel_rfl) (by kernel_rfl) (by kernel_rfl) (fun _ _ _ h => h) (Or.inl ⟨by rfl, ?_⟩) (by assumption) ?_
          rotate_left
          · (intro w hSw; clear hSw; go_simp; (try with_reducible rfl))
          simp only [Act.put, List.setIfInBounds_toArray, List.set_cons_zero, List.set_cons_succ]
          refine held_take (i := 4) (d := 83) (oi := _) (v := ?_) rfl rfl (by kernel_rfl) (by kernel_rfl) (by kernel_rfl) (fun _ _ _ h => h) (Or.inl ⟨by rfl, ?_⟩) (by assumption) ?_
          rotate_left
          · (intro w hSw; clear hSw; go_simp; (try with_reducible rfl))
          simp only [Act.put, List.setIfInBounds_toArray, List.set_cons_zero, List.set_cons_succ]
          refine held_take (i := 5) (d := 84) (oi := _) (v := ?_) rfl rfl (by kernel_rfl) (by kernel_rfl) (by kernel_rfl) (fun _ _ _ h => h) (Or.inl ⟨by rfl, ?_⟩) (by assumption) ?_
          rotate_left
          · (intro w hSw; clear hSw; go_simp; (try with_reducible rfl))
          simp only [Act.put, List.setIfInBounds_toArray, List.set_cons_zero, List.set_cons_succ]
          refine held_take (i := 6) (d := 85) (oi := _) (v := ?_) rfl rfl (by kernel_rfl) (by kernel_rfl) (by kernel_rfl) (fun _ _ _ h => h) (Or.inl ⟨by rfl, ?_⟩) (by assumption) ?_
          rotate_left
          · (intro w hSw; clear hSw; go_simp; (try with_reducible rfl))
          simp only [Act.put, List.setIfInBounds_toArray, List.set_cons_zero, List.set_cons_succ]
          refine held_take (i := 8) (d := 87) (oi := _) (v := ?_) rfl rfl (by kernel_rfl) (by kernel_rfl) (by kernel_rfl) (fun _ _ _ h => h) (Or.inl ⟨by rfl, ?_⟩) (by assumption) ?_
          rotate_left
          · (intro w hSw; clear hSw; go_simp; (try with_reducible rfl))
          simp only [Act.put, List.setIfInBounds_toArray, List.set_cons_zero, List.set_cons_succ]
          refine held_take (i := 9) (d := 88) (oi := _) (v := ?_) rfl rfl (by kernel_rfl) (by kernel_rfl) (by kernel_rfl) (fun _ _ _ h => h) (Or.inl ⟨by rfl, ?_⟩) (by assumption) ?_
          rotate_left
          · (intro w hSw; have hld := L6.out w (B0.out.trans (hSw.mono B0.out.size)); clear hSw; go_simp; (try with_reducible rfl))
          simp only [Act.put, List.setIfInBounds_toArray, List.set_cons_zero, List.set_cons_succ]
          refine held_take (i := 10) (d := 89) (oi := _) (v := ?_) rfl rfl (by kernel_rfl) (by kernel_rfl) (by kernel_rfl) (fun _ _ _ h => h) (Or.inl ⟨by rfl, ?_⟩) (by assumption) ?_
          rotate_left
          · (intro w hSw; clear hSw; go_simp; (try with_reducible rfl))
          simp only [Act.put, List.setIfInBounds_toArray, List.set_cons_zero, List.set_cons_succ]
          refine held_take (i := 11) (d := 90) (oi := _) (v := ?_) rfl rfl (by kernel_rfl) (by kernel_rfl) (by kernel_rfl) (fun _ _ _ h => h) (Or.inl ⟨by rfl, ?_⟩) (by assumption) ?_
          rotate_left
          · (intro w hSw; clear hSw; go_simp; (try with_reducible rfl))
          simp only [Act.put, List.setIfInBounds_toArray, List.set_cons_zero, List.set_cons_succ]
          refine held_take (i := 12) (d := 91) (oi := _) (v := ?_) rfl rfl (by kernel_rfl) (by kernel_rfl) (by kernel_rfl) (fun _ _ _ h => h) (Or.inl ⟨by rfl, ?_⟩) (by assumption) ?_
          rotate_left
          · (intro w hSw; have hld := L2.out w (B0.out.trans (hSw.mono B0.out.size)); clear hSw; go_simp; (try with_reducible rfl))
          simp only [Act.put, List.setIfInBounds_toArray, List.set_cons_zero, List.set_cons_succ]
          refine held_take (i := 13) (d := 92) (oi := _) (v := ?_) rfl rfl (by kernel_rfl) (by kernel_rfl) (by kernel_rfl) (fun _ _ _ h => h) (Or.inl ⟨by rfl, ?_⟩) (by assumption) ?_
          rotate_left
          · (intro w hSw; clear hSw; go_simp; (try with_reducible rfl))
          simp only [Act.put, List.setIfInBounds_toArray, List.set_cons_zero, List.set_cons_succ]
          refine wpAnyH_ready (rs := [7]) (by kernel_rfl) (by simp) ?_
          refine AllReadyH.cons rfl (fun K hK => ?_) AllReadyH.nil
          go_simp
          go_wp2_with (go_at_call 19; (with_reducible refine (CC.out _ B0.out).mono ?_); rintro e x1 ⟨rfl, hb⟩)
          refine hK.out _ _ hb (fun _ => ?_)
          have B1 := Lib.hid (B0.out.trans (hb.mono B0.out.size))
          refine wpAnyH_more (S' := fun w' => Below x1.heap.size x1 w') (fun w' h => hb.trans (h.mono hb.size)) _ _ _ _ ?_
          have hH1 : Below x1.heap.size x1 x1 := Below.refl _ _
          clear hK K hH0 hb B0
          refine held_take (i := 14) (d := 93) (oi := _) (v := ?_) rfl rfl (by kernel_rfl) (by kernel_rfl) (by kernel_rfl) (fun _ _ _ h => h) (Or.inl ⟨by rfl, ?_⟩) (by assumption) ?_
          rotate_left
          · (intro w hSw; clear hSw; go_simp; (try with_reducible rfl))
          simp only [Act.put, List.setIfInBounds_toArray, List.set_cons_zero, List.set_cons_succ]
          refine held_take (i := 15) (d := 94) (oi := _) (v := ?_) rfl rfl (by kernel_rfl) (by kernel_rfl) (by kernel_rfl) (fun _ _ _ h => h) (Or.inl ⟨by rfl, ?_⟩) (by assumption) ?_
          rotate_left
          · (intro w hSw; clear hSw; go_simp; (try with_reducible rfl))
          simp only [Act.put, List.setIfInBounds_toArray, List.set_cons_zero, List.set_cons_succ]
          refine wpAnyH_done (by kernel_rfl) ?_ _
          have HDy := Lib.hid (HDz.out.keep B1.out)
          have HLy := Lib.hid (HLz.out.keep B1.out)
          have HRy := Lib.hid (HRz.out.keep B1.out)
          clear CC L6 L2 HBB B1 n3
          go_wp2_with fail
          go_loopw [16] (fun i wr => ∃ j : Nat, j ≤ ys.length ∧ i = .int .i64 (j : Int) ∧ Hid (∃ q, wr = x1.drewN q)) (fun i _ => ys.length - (intOf i).toNat)
          case atStart => exact ⟨0, Nat.zero_le _, rfl, Lib.hid ⟨0, rfl⟩⟩
          case round =>
            obtain ⟨j, hj, rfl, HQ⟩ := hrel
            have hbel : Below x1.heap.size x1 wr := by obtain ⟨q, e⟩ := HQ.out; rw [e]; exact below_drews (Below.refl _ _) _
            by_cases hjl : j < ys.length
            · have hjF : j < F.length := by omega
              obtain ⟨ba, oa, rfl, hba, hca⟩ := (HLy.out.keep hbel).1 (by omega)
              obtain ⟨bb, ob, rfl, hbb, hcb⟩ := HRy.out.keep hbel (by omega)
              have hsl : ys[j].sl = F[j] := by
                have e := congrArg (fun l => l[j]?) HYF.out
                simpa [hjl, hjF] using e
              have htx := (HLy.out.keep hbel).2 ys[j] (List.getElem_mem hjl)
              obtain ⟨ca0, ca1, ca2⟩ := hca j hjl
              obtain ⟨cb0, cb1, cb2⟩ := hcb j hjF
              rw [hsl] at ca0 ca1 ca2 htx
              clear hca hcb hsl
              generalize ys[j].a = A1 at *
              generalize ys[j].cap = C1 at *
              generalize F[j] = L at *
              obtain ⟨nu, o, tt⟩ := L
              simp only at ca0 ca1 ca2 cb0 cb1 cb2 htx
              have hk1 : ∀ n, (convert 38 9 (.slice A1 tt.length C1)).run Try.prog (wr.drewN n) = .ok (.string (str tt)) (wr.drewN n) := fun n => str_of_bs (w := wr.drewN n) C1 htx
              have hkl1 : (j : Int) < (ys.length : Int) := by omega
              have hkl2 : (j : Int) < (F.length : Int) := by omega
              have d1 : ((nu : Int) != (nu : Int)) = false := by simp
              have d2 : ((o : Int) != (o : Int)) = false := by simp
              go_wp2_with fail
              go_quiet (fail)
              go_wp2_with fail
              go_roundw
              case rel =>
                obtain ⟨q, e⟩ := HQ.out
                exact ⟨j + 1, by omega, by go_num, Lib.hid ⟨q + nq, by rw [e, World.drewN_drewN]⟩⟩
              case measure => simp [intOf]; omega
            · have HDw := Lib.hid (HDy.out.keep hbel)
              have ER := Lib.hid (serr_any w wr p _ g d' q' HDw.out.sm)
              clear HLy HRy HDy hbel HQ HYF
              go_wp2_with fail
              refine ER.out.mono ?_
              rintro e' wv ⟨rfl, qv, hqv⟩
              have HDv := Lib.hid (HDw.out.keep (by rw [hqv]; exact below_drews (Below.refl _ _) _ : Below wr.heap.size wr wv))
              have cz := HDv.out.rb.cells
              obtain ⟨v0, v1', v2, v3, v4, v5, v6, v7', v8⟩ := cz
              clear hqv HDw ER
              cases hbad : q'.bad
              · have he : errOf q' = 0 := by unfold errOf; rw [if_neg (by rw [hbad]; decide)]
                have hn : badNum q' = 0 := by unfold badNum; rw [if_neg (by rw [hbad]; decide)]
                rw [he] at v8 ⊢
                rw [hn]
                go_wp2_with fail
                go_roundw
                case rel => exact ⟨k + 1, d', q', by omega, by go_num, HDv, HBD'⟩
                case measure => simp [intOf]; omega
              · have he : errOf q' = 15 := by unfold errOf; rw [if_pos hbad]
                have hn : badNum q' = (q'.num : Int) := by unfold badNum; rw [if_pos hbad]
                have d3 : ((q'.num : Int) != (q'.num : Int)) = false := by simp
                rw [he] at v8 ⊢
                rw [hn]
                go_wp2_with fail
                go_roundw
                case rel => exact ⟨k + 1, d', q', by omega, by go_num, HDv, HBD'⟩
                case measure => simp [intOf]; omega
        · by_cases hhalf : k = xs.length / 2
          · have hbq : ((k : Int) == (xs.length : Int) / 2) = true := beq_iff_eq.2 (by omega)
            have hmono : Str.total (xs.take k) ≤ Str.total (xs.take (k + 1)) := by
              rcases Nat.lt_or_ge k xs.length with h | h
              · have := Str.total_succ xs k h; omega
              · rw [List.take_of_length_le h, List.take_of_length_le (by omega)]; exact Nat.le_refl _
            have HEN := Lib.hid (send_all w wr p _ g d q HD.out.sm _ HBD.out (by omega))
            have HRE := Lib.hid (fun W => rsend_all W q _ HBD.out (by omega))
            have hbd3 : Bd (Str.total (xs.take (k + 1)) + (k + 1)) q.fin.1 := HBD.out.fin.more (by omega)
            have hcbl := HD.out.rb.lt
            go_wp2_with fail
            refine HEN.out.mono ?_
            rintro e' w7 ⟨v7, ys, d', rfl, hy, hg, hn, hm, hch⟩
            obtain ⟨q', hq'⟩ : ∃ q', q' = q.fin.1 := ⟨_, rfl⟩
            obtain ⟨F, hF⟩ : ∃ F, F = q.fin.2 := ⟨_, rfl⟩
            have hqf : q.fin = (q', F) := by rw [hq', hF]
            have hFl : F.length ≤ 1500 := by have := fin_told_len q; rw [hF]; omega
            rw [← hF] at hy
            rw [← hq'] at hm hbd3
            obtain ⟨a7, cap7, rfl, hl7, hla7, hlt7⟩ := own_lt2 hg.1 (fun x hx => (hg.2 x hx).1)
            obtain ⟨hsm7, hrb7, hno7⟩ := HD.out.went hm hch hn
            have HYF := Lib.hid hy
            have HBD' := Lib.hid hbd3
            have HNO := Lib.hid hno7
            have HLB : Hid (∀ ad : Addr, a7 = some ad → cb < ad.block) := Lib.hid fun ad e => by have := hla7 ad e; omega
            have HLT : Hid (∀ x ∈ ys, 0 < x.sl.text.length → ∀ ad : Addr, x.a = some ad → cb < ad.block) := Lib.hid fun x hx h0 ad e => by have := hlt7 x hx h0 ad e; omega
            have HSMx := Lib.hid hsm7
            have HRBx := Lib.hid hrb7
            have HLx := Lib.hid hl7
            have hw8 := hch.csize
            clear HEN hy hg hn hm hch hl7 hla7 hlt7 hsm7 hrb7 hno7 hbd3 hq' hF c0 c1 c2 c3 c4 c5 c6 c7 c8 fb hmono
            obtain ⟨c0, c1, c2, c3, c4, c5, c6, c7, c8⟩ := HRBx.out.cells
            go_wp2_with fail
            refine (HRE.out w7).mono ?_
            rintro e' x1 ⟨vr, rfl, hrw, hb⟩
            rw [hqf] at hrw
            first | rw [hqf, show rv (q', F).1 = (.agg #[.string (str q'.w.held), .int .i64 (q'.w.room : Int), .int .i64 (q'.w.move : Int), .int .i64 (q'.most : Int), .int .i64 (q'.num : Int), .int .i64 (q'.off : Int), .int .i64 (q'.hunt : Int), .bool q'.over, .int .i64 (errOf q')]) from rfl] | rw [show rv q' = (.agg #[.string (str q'.w.held), .int .i64 (q'.w.room : Int), .int .i64 (q'.w.move : Int), .int .i64 (q'.most : Int), .int .i64 (q'.num : Int), .int .i64 (q'.off : Int), .int .i64 (q'.hunt : Int), .bool q'.over, .int .i64 (errOf q')]) from rfl] | skip
            have HSM := Lib.hid (HSMx.out.keep hb)
            have HRB := Lib.hid (HRBx.out.keep hb HRBx.out.lt)
            have HLX := Lib.hid (HLx.out.keep hb)
            obtain ⟨ay, cy, evr, hrx, hry⟩ := own_rl hrw
            subst evr
            have HRX := Lib.hid hrx
            have HRX2 : Hid (∀ ad : Addr, ay = some ad → cb < ad.block) := Lib.hid fun ad e => by have := (hry ad e).1; omega
            clear hrx hry hrw hb HSMx HRBx HLx HRE c0 c1 c2 c3 c4 c5 c6 c7 c8
            obtain ⟨c0, c1, c2, c3, c4, c5, c6, c7, c8⟩ := HRB.out.cells
            have fb := HRB.out.free
            go_wp2_with fail
            clear c0 c1 c2 c3 c4 c5 c6 c7 c8 fb
            obtain ⟨z, hz⟩ : ∃ z, z = set9 x1 cb q' := ⟨_, rfl⟩
            rw [show (((((((((x1.setCell ⟨cb, 0, none⟩ (.string (str q'.w.held))).setCell ⟨cb, 1, none⟩ (.int .i64 (q'.w.room : Int))).setCell ⟨cb, 2, none⟩ (.int .i64 (q'.w.move : Int))).setCell ⟨cb, 3, none⟩ (.int .i64 (q'.most : Int))).setCell ⟨cb, 4, none⟩ (.int .i64 (q'.num : Int))).setCell ⟨cb, 5, none⟩ (.int .i64 (q'.off : Int))).setCell ⟨cb, 6, none⟩ (.int .i64 (q'.hunt : Int))).setCell ⟨cb, 7, none⟩ (.bool q'.over)).setCell ⟨cb, 8, none⟩ (.int .i64 (errOf q'))) = z from hz.symm]
            have HDz : Hid (Dp w z p gm g d' cb q') := Lib.hid (by rw [hz]; exact dp_set HSM.out HRB.out HD.out.lo HNO.out)
            have hcz : Ch x1 z (fun k => k = cb) := by rw [hz]; exact ch_set9 _ _ _
            have HLz := Lib.hid (HLX.out.ch hcz (fun _ ad e h => by have := HLB.out ad e; omega) (fun x hx h0 ad e h => by have := HLT.out x hx h0 ad e; omega))
            have HRz := Lib.hid (HRX.out.ch hcz (fun ad e h => by have := HRX2.out ad e; omega))
            clear hz hcz HSM HRB HNO HLX HRX HLB HLT HRX2 HD HBD
            have hlen : ys.length = F.length := by rw [← HYF.out, List.length_map]
            have h1 : ((ys.length : Int) != (F.length : Int)) = false := by rw [hlen]; simp
            have HBB : Hid (Below z.heap.size z z) := Lib.hid (Below.refl _ _)
            have CC : Hid (∀ X, Below z.heap.size z X → Calls Try.prog 19 #[.pointer (some ⟨gm, 0, none⟩)] X fun e w' => e = .returned (.agg #[.int .i64 0, .int .i64 0, .int .i64 (q'.hunt : Int), .int .i64 (q'.w.move : Int)]) ∧ Below X.heap.size X w') := Lib.hid fun X h => Met.counts_mt X gm 0 0 _ _ (HDz.out.keep h).sm.smt
            have L6 : Hid (∀ X, Below z.heap.size z X → X.cell? ⟨cb, 6, none⟩ = some (.int .i64 (q'.hunt : Int))) := Lib.hid fun X h => (HDz.out.keep h).rb.cells.2.2.2.2.2.2.1
            have L2 : Hid (∀ X, Below z.heap.size z X → X.cell? ⟨cb, 2, none⟩ = some (.int .i64 (q'.w.move : Int))) := Lib.hid fun X h => (HDz.out.keep h).rb.cells.2.2.1
            have n3 := Str.neq_counts 0 0 (q'.hunt : Int) (q'.w.move : Int)
            go_wp2_with fail
            refine wp_region_held_drew (S := fun w' => Below z.drew.heap.size z.drew w') (by kernel_rfl) (Below.refl _ _) (fun hH0 => ?_)
            have B0 := Lib.hid (below_drews HBB.out 1)
            change Hid (Below _ _ z.drew) at B0
            generalize z.drew = x0 at *
            refine held_take (i := 0) (d := 79) (oi := _) (v := ?_) rfl rfl (by kernel_rfl) (by kernel_rfl) (by kernel_rfl) (fun _ _ _ h => h) (Or.inl ⟨by rfl, ?_⟩) (by assumption) ?_
            rotate_left
            · (intro w hSw; clear hSw; go_simp; (try with_reducible rfl))
            simp only [Act.put, List.setIfInBounds_toArray, List.set_cons_zero, List.set_cons_succ]
            refine held_take (i := 1) (d := 80) (oi := _) (v := ?_) rfl rfl (by kernel_rfl) (by kernel_rfl) (by kernel_rfl) (fun _ _ _ h => h) (Or.inl ⟨by rfl, ?_⟩) (by assumption) ?_
            rotate_left
            · (intro w hSw; clear hSw; go_simp; (try with_reducible rfl))
            simp only [Act.put, List.setIfInBounds_toArray, List.set_cons_zero, List.set_cons_succ]
            refine held_take (i := 2) (d := 81) (oi := _) (v := ?_) rfl rfl (by kernel_rfl) (by kernel_rfl) (by kernel_rfl) (fun _ _ _ h => h) (Or.inl ⟨by rfl, ?_⟩) (by assumption) ?_
            rotate_left
            · (intro w hSw; clear hSw; go_simp; (try with_reducible rfl))
            simp only [Act.put, List.setIfInBounds_toArray, List.set_cons_zero, List.set_cons_succ]
            refine held_take (i := 3) (d := 82) (oi := _) (v := ?_) rfl rfl (by kernel_rfl) (by kernel_rfl) (by kernel_rfl) (fun _ _ _ h => h) (Or.inl ⟨by rfl, ?_⟩) (by assumption) ?_
            rotate_left
            · (intro w hSw; clear hSw; go_simp; (try with_reducible rfl))
            simp only [Act.put, List.setIfInBounds_toArray, List.set_cons_zero, List.set_cons_succ]
            refine held_take (i := 4) (d := 83) (oi := _) (v := ?_) rfl rfl (by kernel_rfl) (by kernel_rfl) (by kernel_rfl) (fun _ _ _ h => h) (Or.inl ⟨by rfl, ?_⟩) (by assumption) ?_
            rotate_left
            · (intro w hSw; clear hSw; go_simp; (try with_reducible rfl))
            simp only [Act.put, List.setIfInBounds_toArray, List.set_cons_zero, List.set_cons_succ]
            refine held_take (i := 5) (d := 84) (oi := _) (v := ?_) rfl rfl (by kernel_rfl) (by kernel_rfl) (by kernel_rfl) (fun _ _ _ h => h) (Or.inl ⟨by rfl, ?_⟩) (by assumption) ?_
            rotate_left
            · (intro w hSw; clear hSw; go_simp; (try with_reducible rfl))
            simp only [Act.put, List.setIfInBounds_toArray, List.set_cons_zero, List.set_cons_succ]
            refine held_take (i := 6) (d := 85) (oi := _) (v := ?_) rfl rfl (by kernel_rfl) (by kernel_rfl) (by kernel_rfl) (fun _ _ _ h => h) (Or.inl ⟨by rfl, ?_⟩) (by assumption) ?_
            rotate_left
            · (intro w hSw; clear hSw; go_simp; (try with_reducible rfl))
            simp only [Act.put, List.setIfInBounds_toArray, List.set_cons_zero, List.set_cons_succ]
            refine held_take (i := 8) (d := 87) (oi := _) (v := ?_) rfl rfl (by kernel_rfl) (by kernel_rfl) (by kernel_rfl) (fun _ _ _ h => h) (Or.inl ⟨by rfl, ?_⟩) (by assumption) ?_
            rotate_left
            · (intro w hSw; clear hSw; go_simp; (try with_reducible rfl))
            simp only [Act.put, List.setIfInBounds_toArray, List.set_cons_zero, List.set_cons_succ]
            refine held_take (i := 9) (d := 88) (oi := _) (v := ?_) rfl rfl (by kernel_rfl) (by kernel_rfl) (by kernel_rfl) (fun _ _ _ h => h) (Or.inl ⟨by rfl, ?_⟩) (by assumption) ?_
            rotate_left
            · (intro w hSw; have hld := L6.out w (B0.out.trans (hSw.mono B0.out.size)); clear hSw; go_simp; (try with_reducible rfl))
            simp only [Act.put, List.setIfInBounds_toArray, List.set_cons_zero, List.set_cons_succ]
            refine held_take (i := 10) (d := 89) (oi := _) (v := ?_) rfl rfl (by kernel_rfl) (by kernel_rfl) (by kernel_rfl) (fun _ _ _ h => h) (Or.inl ⟨by rfl, ?_⟩) (by assumption) ?_
            rotate_left
            · (intro w hSw; clear hSw; go_simp; (try with_reducible rfl))
            simp only [Act.put, List.setIfInBounds_toArray, List.set_cons_zero, List.set_cons_succ]
            refine held_take (i := 11) (d := 90) (oi := _) (v := ?_) rfl rfl (by kernel_rfl) (by kernel_rfl) (by kernel_rfl) (fun _ _ _ h => h) (Or.inl ⟨by rfl, ?_⟩) (by assumption) ?_
            rotate_left
            · (intro w hSw; clear hSw; go_simp; (try with_reducible rfl))
            simp only [Act.put, List.setIfInBounds_toArray, List.set_cons_zero, List.set_cons_succ]
            refine held_take (i := 12) (d := 91) (oi := _) (v := ?_) rfl rfl (by kernel_rfl) (by kernel_rfl) (by kernel_rfl) (fun _ _ _ h => h) (Or.inl ⟨by rfl, ?_⟩) (by assumption) ?_
            rotate_left
            · (intro w hSw; have hld := L2.out w (B0.out.trans (hSw.mono B0.out.size)); clear hSw; go_simp; (try with_reducible rfl))
            simp only [Act.put, List.setIfInBounds_toArray, List.set_cons_zero, List.set_cons_succ]
            refine held_take (i := 13) (d := 92) (oi := _) (v := ?_) rfl rfl (by kernel_rfl) (by kernel_rfl) (by kernel_rfl) (fun _ _ _ h => h) (Or.inl ⟨by rfl, ?_⟩) (by assumption) ?_
            rotate_left
            · (intro w hSw; clear hSw; go_simp; (try with_reducible rfl))
            simp only [Act.put, List.setIfInBounds_toArray, List.set_cons_zero, List.set_cons_succ]
            refine wpAnyH_ready (rs := [7]) (by kernel_rfl) (by simp) ?_
            refine AllReadyH.cons rfl (fun K hK => ?_) AllReadyH.nil
            go_simp
            go_wp2_with (go_at_call 19; (with_reducible refine (CC.out _ B0.out).mono ?_); rintro e x1 ⟨rfl, hb⟩)
            refine hK.out _ _ hb (fun _ => ?_)
            have B1 := Lib.hid (B0.out.trans (hb.mono B0.out.size))
            refine wpAnyH_more (S' := fun w' => Below x1.heap.size x1 w') (fun w' h => hb.trans (h.mono hb.size)) _ _ _ _ ?_
            have hH1 : Below x1.heap.size x1 x1 := Below.refl _ _
            clear hK K hH0 hb B0
            refine held_take (i := 14) (d := 93) (oi := _) (v := ?_) rfl rfl (by kernel_rfl) (by kernel_rfl) (by kernel_rfl) (fun _ _ _ h => h) (Or.inl ⟨by rfl, ?_⟩) (by assumption) ?_
            rotate_left
            · (intro w hSw; clear hSw; go_simp; (try with_reducible rfl))
            simp only [Act.put, List.setIfInBounds_toArray, List.set_cons_zero, List.set_cons_succ]
            refine held_take (i := 15) (d := 94) (oi := _) (v := ?_) rfl rfl (by kernel_rfl) (by kernel_rfl) (by kernel_rfl) (fun _ _ _ h => h) (Or.inl ⟨by rfl, ?_⟩) (by assumption) ?_
            rotate_left
            · (intro w hSw; clear hSw; go_simp; (try with_reducible rfl))
            simp only [Act.put, List.setIfInBounds_toArray, List.set_cons_zero, List.set_cons_succ]
            refine wpAnyH_done (by kernel_rfl) ?_ _
            have HDy := Lib.hid (HDz.out.keep B1.out)
            have HLy := Lib.hid (HLz.out.keep B1.out)
            have HRy := Lib.hid (HRz.out.keep B1.out)
            clear CC L6 L2 HBB B1 n3
            go_wp2_with fail
            go_loopw [16] (fun i wr => ∃ j : Nat, j ≤ ys.length ∧ i = .int .i64 (j : Int) ∧ Hid (∃ q, wr = x1.drewN q)) (fun i _ => ys.length - (intOf i).toNat)
            case atStart => exact ⟨0, Nat.zero_le _, rfl, Lib.hid ⟨0, rfl⟩⟩
            case round =>
              obtain ⟨j, hj, rfl, HQ⟩ := hrel
              have hbel : Below x1.heap.size x1 wr := by obtain ⟨q, e⟩ := HQ.out; rw [e]; exact below_drews (Below.refl _ _) _
              by_cases hjl : j < ys.length
              · have hjF : j < F.length := by omega
                obtain ⟨ba, oa, rfl, hba, hca⟩ := (HLy.out.keep hbel).1 (by omega)
                obtain ⟨bb, ob, rfl, hbb, hcb⟩ := HRy.out.keep hbel (by omega)
                have hsl : ys[j].sl = F[j] := by
                  have e := congrArg (fun l => l[j]?) HYF.out
                  simpa [hjl, hjF] using e
                have htx := (HLy.out.keep hbel).2 ys[j] (List.getElem_mem hjl)
                obtain ⟨ca0, ca1, ca2⟩ := hca j hjl
                obtain ⟨cb0, cb1, cb2⟩ := hcb j hjF
                rw [hsl] at ca0 ca1 ca2 htx
                clear hca hcb hsl
                generalize ys[j].a = A1 at *
                generalize ys[j].cap = C1 at *
                generalize F[j] = L at *
                obtain ⟨nu, o, tt⟩ := L
                simp only at ca0 ca1 ca2 cb0 cb1 cb2 htx
                have hk1 : ∀ n, (convert 38 9 (.slice A1 tt.length C1)).run Try.prog (wr.drewN n) = .ok (.string (str tt)) (wr.drewN n) := fun n => str_of_bs (w := wr.drewN n) C1 htx
                have hkl1 : (j : Int) < (ys.length : Int) := by omega
                have hkl2 : (j : Int) < (F.length : Int) := by omega
                have d1 : ((nu : Int) != (nu : Int)) = false := by simp
                have d2 : ((o : Int) != (o : Int)) = false := by simp
                go_wp2_with fail
                go_quiet (fail)
                go_wp2_with fail
                go_roundw
                case rel =>
                  obtain ⟨q, e⟩ := HQ.out
                  exact ⟨j + 1, by omega, by go_num, Lib.hid ⟨q + nq, by rw [e, World.drewN_drewN]⟩⟩
                case measure => simp [intOf]; omega
              · have HDw := Lib.hid (HDy.out.keep hbel)
                have ER := Lib.hid (serr_any w wr p _ g d' q' HDw.out.sm)
                clear HLy HRy HDy hbel HQ HYF
                go_wp2_with fail
                refine ER.out.mono ?_
                rintro e' wv ⟨rfl, qv, hqv⟩
                have HDv := Lib.hid (HDw.out.keep (by rw [hqv]; exact below_drews (Below.refl _ _) _ : Below wr.heap.size wr wv))
                have cz := HDv.out.rb.cells
                obtain ⟨v0, v1', v2, v3, v4, v5, v6, v7', v8⟩ := cz
                clear hqv HDw ER
                cases hbad : q'.bad
                · have he : errOf q' = 0 := by unfold errOf; rw [if_neg (by rw [hbad]; decide)]
                  have hn : badNum q' = 0 := by unfold badNum; rw [if_neg (by rw [hbad]; decide)]
                  rw [he] at v8 ⊢
                  rw [hn]
                  go_wp2_with fail
                  go_roundw
                  case rel => exact ⟨k + 1, d', q', by omega, by go_num, HDv, HBD'⟩
                  case measure => simp [intOf]; omega
                · have he : errOf q' = 15 := by unfold errOf; rw [if_pos hbad]
                  have hn : badNum q' = (q'.num : Int) := by unfold badNum; rw [if_pos hbad]
                  have d3 : ((q'.num : Int) != (q'.num : Int)) = false := by simp
                  rw [he] at v8 ⊢
                  rw [hn]
                  go_wp2_with fail
                  go_roundw
                  case rel => exact ⟨k + 1, d', q', by omega, by go_num, HDv, HBD'⟩
                  case measure => simp [intOf]; omega
          · have hbq : ((k : Int) == (xs.length : Int) / 2) = false := beq_eq_false_iff_ne.2 (by omega)
            have hkl : (k : Int) < (xs.length : Int) := by omega
            have HC := Lib.hid (arg_cks (p := p) (g := g) (d := d) (mp := some ⟨gm, 0, none⟩) HS.out HCX.out HD.out.sm.sbel (fun k hk => HD.out.sm.own0 hk))
            obtain ⟨b, off, ea0, hbl, hc⟩ := HC.out.kts.1 (by omega)
            have hck := hc k hlt
            have hmem := List.getElem_mem hlt
            have hts1 := Str.total_succ xs k hlt
            have htl1 := Str.total_le xs (k + 1)
            have HFD := Lib.hid (sfeed_all w wr p _ g d q HD.out.sm _ HBD.out (by omega) xs[k].text xs[k].a _ xs[k].cap rfl (HC.out.bx hmem) (by omega) (HC.out.kcap _ hmem) xs[k].nil0)
            have hbd2 := HBD.out.feed xs[k].text
            have HRF := Lib.hid (fun W => rsfeed_all W q _ HBD.out (by omega) xs[k].text (by omega))
            obtain ⟨b0, off0, ea, hb0l, hc0⟩ := HS.out.1 (by omega)
            have hbs0 := HS.out.2 _ hmem
            have hrow0 := hc0 k hlt
            have hb0e : b0 = b ∧ off0 = off := by rw [ea0] at ea; injection ea with ea; injection ea with e1 e2; exact ⟨e1.symm, e2.symm⟩
            obtain ⟨rfl, rfl⟩ := hb0e
            have HROW : Hid (∀ W, Below w.heap.size w W → W.cell? ⟨b0, off0 + k, none⟩ = some (.slice xs[k].a xs[k].text.length xs[k].cap) ∧ Bs W w.heap.size xs[k].a xs[k].text) := Lib.hid fun W h => ⟨(h.cell (p := ⟨b0, _, none⟩) hb0l).trans hrow0, hbs0.keep h⟩
            have hbd3 : Bd (Str.total (xs.take (k + 1)) + (k + 1)) (q.feed xs[k].text).1 := hbd2.more (by omega)
            have hcbl := HD.out.rb.lt
            clear hc hc0 hmem hbs0 hrow0 hbd2 HC hbl
            obtain ⟨T, hT⟩ : ∃ T, T = xs[k].text := ⟨_, rfl⟩
            obtain ⟨A0, hA0⟩ : ∃ A0, A0 = xs[k].a := ⟨_, rfl⟩
            obtain ⟨C0, hC0⟩ : ∃ C0, C0 = xs[k].cap := ⟨_, rfl⟩
            rw [← hT, ← hA0, ← hC0] at HFD HROW
            rw [← hT] at HRF hbd3 hts1
            rw [← hT, ← hA0, ← hC0] at hck
            subst ea
            clear hT hA0 hC0
            have hTl : T.length ≤ 1500 := by omega
            clear hts1
            go_wp2_with fail
            refine HFD.out.mono ?_
            rintro e' w7 ⟨v7, ys, d', rfl, hy, hg, hn, hm, hch⟩
            obtain ⟨q', hq'⟩ : ∃ q', q' = (q.feed T).1 := ⟨_, rfl⟩
            obtain ⟨F, hF⟩ : ∃ F, F = (q.feed T).2 := ⟨_, rfl⟩
            have hqf : q.feed T = (q', F) := by rw [hq', hF]
            have hFl : F.length ≤ 1500 := by have := feed_told_len q T; rw [hF]; omega
            rw [← hF] at hy
            rw [← hq'] at hm hbd3
            obtain ⟨a7, cap7, rfl, hl7, hla7, hlt7⟩ := own_lt2 hg.1 (fun x hx => (hg.2 x hx).1)
            obtain ⟨hsm7, hrb7, hno7⟩ := HD.out.went hm hch hn
            have HYF := Lib.hid hy
            have HBD' := Lib.hid hbd3
            have HNO := Lib.hid hno7
            have HLB : Hid (∀ ad : Addr, a7 = some ad → cb < ad.block) := Lib.hid fun ad e => by have := hla7 ad e; omega
            have HLT : Hid (∀ x ∈ ys, 0 < x.sl.text.length → ∀ ad : Addr, x.a = some ad → cb < ad.block) := Lib.hid fun x hx h0 ad e => by have := hlt7 x hx h0 ad e; omega
            have hS7 := HROW.out w7 hsm7.sbel
            have HSM7 := Lib.hid hsm7
            have HRB7 := Lib.hid hrb7
            have HL7 := Lib.hid hl7
            have hw7 := hch.csize
            have hcb0 : cb ≠ b0 := by have := HD.out.lo; omega
            clear HFD hy hg hn hm hch hl7 hla7 hlt7 hsm7 hrb7 hno7 hbd3 hq' hF c0 c1 c2 c3 c4 c5 c6 c7 c8 fb
            clear hck
            go_wp2_with fail
            refine wp_region_held_drew (S := fun w' => w'.cell? ⟨b0, off0 + k, none⟩ = some (.slice A0 T.length C0) ∧ Bs w' w.heap.size A0 T) (by kernel_rfl) hS7 (fun hH0 => ?_)
            have HSMx := Lib.hid (HSM7.out.keep (below_drews (Below.refl _ _) 1))
            have HRBx := Lib.hid (HRB7.out.keep (below_drews (Below.refl _ _) 1) HRB7.out.lt)
            have HLx := Lib.hid (HL7.out.keep (below_drews (Below.refl _ _) 1))
            change Hid (Sm _ w7.drew _ _ _ _ _) at HSMx
            change Hid (Rb w7.drew _ _) at HRBx
            change Hid (Lt w7.drew _ _) at HLx
            have hw8 : wr.heap.size ≤ w7.drew.heap.size := hw7
            clear HSM7 HRB7 HL7 hS7 hw7
            generalize w7.drew = x0 at *
            refine held_take (i := 1) (d := 64) (oi := _) (v := ?_) rfl rfl (by kernel_rfl) (by kernel_rfl) (by kernel_rfl) (fun _ _ _ h => h) (Or.inl ⟨by rfl, ?_⟩) (by assumption) ?_
            rotate_left
            · (intro w hSw; obtain ⟨s0, s1⟩ := hSw; go_simp; (try with_reducible rfl))
            simp only [Act.put, List.setIfInBounds_toArray, List.set_cons_zero, List.set_cons_succ]
            refine held_take (i := 2) (d := 65) (oi := _) (v := ?_) rfl rfl (by kernel_rfl) (by kernel_rfl) (by kernel_rfl) (fun _ _ _ h => h) (Or.inl ⟨by rfl, ?_⟩) (by assumption) ?_
            rotate_left
            · (intro w hSw; obtain ⟨s0, s1⟩ := hSw; go_simp; (try with_reducible rfl))
            simp only [Act.put, List.setIfInBounds_toArray, List.set_cons_zero, List.set_cons_succ]
            refine held_take (i := 3) (d := 66) (oi := _) (v := ?_) rfl rfl (by kernel_rfl) (by kernel_rfl) (by kernel_rfl) (fun _ _ _ h => h) (Or.inl ⟨by rfl, ?_⟩) (by assumption) ?_
            rotate_left
            · (intro w hSw; obtain ⟨s0, s1⟩ := hSw; go_simp; (try with_reducible rfl))
            simp only [Act.put, List.setIfInBounds_toArray, List.set_cons_zero, List.set_cons_succ]
            refine held_take (i := 4) (d := 67) (oi := _) (v := ?_) rfl rfl (by kernel_rfl) (by kernel_rfl) (by kernel_rfl) (fun _ _ _ h => h) (Or.inl ⟨by rfl, ?_⟩) (by assumption) ?_
            rotate_left
            · (intro w hSw; obtain ⟨s0, s1⟩ := hSw; go_simp; (try with_reducible rfl))
            simp only [Act.put, List.setIfInBounds_toArray, List.set_cons_zero, List.set_cons_succ]
            refine held_take (i := 5) (d := 68) (oi := _) (v := ?_) rfl rfl (by kernel_rfl) (by kernel_rfl) (by kernel_rfl) (fun _ _ _ h => h) (Or.inl ⟨by rfl, ?_⟩) (by assumption) ?_
            rotate_left
            · (intro w hSw; obtain ⟨s0, s1⟩ := hSw; have hcv := str_of_bs C0 s1; go_simp; (try with_reducible rfl))
            simp only [Act.put, List.setIfInBounds_toArray, List.set_cons_zero, List.set_cons_succ]
            obtain ⟨c0, c1, c2, c3, c4, c5, c6, c7x, c8⟩ := HRBx.out.cells
            refine wpAnyH_ready (rs := [0]) (by kernel_rfl) (by simp) ?_
            refine AllReadyH.cons rfl (fun K hK => ?_) AllReadyH.nil
            go_simp
            refine hK.out _ _ hH0 (fun _ => ?_)
            clear hK K c0 c1 c2 c3 c4 c5 c6 c7x c8
            refine wpAnyH_ready (rs := [6]) (by kernel_rfl) (by simp) ?_
            refine AllReadyH.cons rfl (fun K hK => ?_) AllReadyH.nil
            go_simp
            go_wp2_with (go_at_call 16; (with_reducible refine (HRF.out x0).mono ?_); rintro e x1 ⟨vr, rfl, hrw, hb⟩; rw [hqf] at hrw; have HRW := Lib.hid hrw; have HB := Lib.hid hb; clear hrw hb)
            first | rw [hqf, show rv (q', F).1 = (.agg #[.string (str q'.w.held), .int .i64 (q'.w.room : Int), .int .i64 (q'.w.move : Int), .int .i64 (q'.most : Int), .int .i64 (q'.num : Int), .int .i64 (q'.off : Int), .int .i64 (q'.hunt : Int), .bool q'.over, .int .i64 (errOf q')]) from rfl] | rw [show rv q' = (.agg #[.string (str q'.w.held), .int .i64 (q'.w.room : Int), .int .i64 (q'.w.move : Int), .int .i64 (q'.most : Int), .int .i64 (q'.num : Int), .int .i64 (q'.off : Int), .int .i64 (q'.hunt : Int), .bool q'.over, .int .i64 (errOf q')]) from rfl] | skip
            have hH1 : x1.cell? ⟨b0, off0 + k, none⟩ = some (.slice A0 T.length C0) ∧ Bs x1 w.heap.size A0 T := HROW.out x1 (HSMx.out.keep HB.out).sbel
            refine hK.out _ _ hH1 (fun _ => ?_)
            clear hK K hH0
            have HSM := Lib.hid (HSMx.out.keep HB.out)
            have HRB := Lib.hid (HRBx.out.keep HB.out HRBx.out.lt)
            have HLX := Lib.hid (HLx.out.keep HB.out)
            obtain ⟨ay, cy, evr, hrx, hry⟩ := own_rl HRW.out
            subst evr
            have HRX := Lib.hid hrx
            have HRX2 : Hid (∀ ad : Addr, ay = some ad → cb < ad.block) := Lib.hid fun ad e => by have := (hry ad e).1; omega
            clear hrx hry HRW HSMx HRBx HLx
            refine held_take (i := 7) (d := 62) (oi := _) (v := ?_) rfl rfl (by kernel_rfl) (by kernel_rfl) (by kernel_rfl) (fun _ _ _ h => h) (Or.inl ⟨by rfl, ?_⟩) (by assumption) ?_
            rotate_left
            · (intro w hSw; obtain ⟨s0, s1⟩ := hSw; go_simp; (try with_reducible rfl))
            simp only [Act.put, List.setIfInBounds_toArray, List.set_cons_zero, List.set_cons_succ]
            refine held_take (i := 8) (d := 70) (oi := _) (v := ?_) rfl rfl (by kernel_rfl) (by kernel_rfl) (by kernel_rfl) (fun _ _ _ h => h) (Or.inl ⟨by rfl, ?_⟩) (by assumption) ?_
            rotate_left
            · (intro w hSw; obtain ⟨s0, s1⟩ := hSw; go_simp; (try with_reducible rfl))
            simp only [Act.put, List.setIfInBounds_toArray, List.set_cons_zero, List.set_cons_succ]
            refine held_take (i := 9) (d := 71) (oi := _) (v := ?_) rfl rfl (by kernel_rfl) (by kernel_rfl) (by kernel_rfl) (fun _ _ _ h => h) (Or.inl ⟨by rfl, ?_⟩) (by assumption) ?_
            rotate_left
            · (intro w hSw; obtain ⟨s0, s1⟩ := hSw; go_simp; (try with_reducible rfl))
            simp only [Act.put, List.setIfInBounds_toArray, List.set_cons_zero, List.set_cons_succ]
            obtain ⟨c0, c1, c2, c3, c4, c5, c6, c7x, c8⟩ := HRB.out.cells
            have fb := HRB.out.free
            refine wpAnyH_ready (rs := [10]) (by kernel_rfl) (by simp) ?_
            refine AllReadyH.cons rfl (fun K hK => ?_) AllReadyH.nil
            go_simp
            have hH2 : (set9 x1 cb q').cell? ⟨b0, off0 + k, none⟩ = some (.slice A0 T.length C0) ∧ Bs (set9 x1 cb q') w.heap.size A0 T := ⟨(World.cell?_of_block (set9_other (fun e => hcb0 e.symm))).trans hH1.1, (ch_set9 x1 cb q').bs hH1.2 (by have := HSM.out.sbel.size; omega) (fun h0 ad e he => by have h1 := bs_at hH1.2 h0 e; have h2 := HD.out.lo; omega)⟩
            refine hK.out _ _ hH2 (fun _ => ?_)
            clear hK K hH2 hH1 c0 c1 c2 c3 c4 c5 c6 c7x c8 fb
            refine held_take (i := 11) (d := 15) (oi := _) (v := ?_) rfl rfl (by kernel_rfl) (by kernel_rfl) (by kernel_rfl) (fun _ _ _ h => h) (Or.inl ⟨by rfl, ?_⟩) (by assumption) ?_
            rotate_left
            · (intro w hSw; obtain ⟨s0, s1⟩ := hSw; go_simp; (try with_reducible rfl))
            simp only [Act.put, List.setIfInBounds_toArray, List.set_cons_zero, List.set_cons_succ]
            refine wpAnyH_done (by kernel_rfl) ?_ _
            obtain ⟨z, hz⟩ : ∃ z, z = set9 x1 cb q' := ⟨_, rfl⟩
            rw [show (((((((((x1.setCell ⟨cb, 0, none⟩ (.string (str q'.w.held))).setCell ⟨cb, 1, none⟩ (.int .i64 (q'.w.room : Int))).setCell ⟨cb, 2, none⟩ (.int .i64 (q'.w.move : Int))).setCell ⟨cb, 3, none⟩ (.int .i64 (q'.most : Int))).setCell ⟨cb, 4, none⟩ (.int .i64 (q'.num : Int))).setCell ⟨cb, 5, none⟩ (.int .i64 (q'.off : Int))).setCell ⟨cb, 6, none⟩ (.int .i64 (q'.hunt : Int))).setCell ⟨cb, 7, none⟩ (.bool q'.over)).setCell ⟨cb, 8, none⟩ (.int .i64 (errOf q'))) = z from hz.symm]
            have HDz : Hid (Dp w z p gm g d' cb q') := Lib.hid (by rw [hz]; exact dp_set HSM.out HRB.out HD.out.lo HNO.out)
            have hcz : Ch x1 z (fun k => k = cb) := by rw [hz]; exact ch_set9 _ _ _
            have HLz := Lib.hid (HLX.out.ch hcz (fun _ ad e h => by have := HLB.out ad e; omega) (fun x hx h0 ad e h => by have := HLT.out x hx h0 ad e; omega))
            have HRz := Lib.hid (HRX.out.ch hcz (fun ad e h => by have := HRX2.out ad e; omega))
            clear hz hcz HSM HRB HNO HLX HRX HLB HLT HRX2 HD HBD
            have hlen : ys.length = F.length := by rw [← HYF.out, List.length_map]
            have h1 : ((ys.length : Int) != (F.length : Int)) = false := by rw [hlen]; simp
            have HBB : Hid (Below z.heap.size z z) := Lib.hid (Below.refl _ _)
            have CC : Hid (∀ X, Below z.heap.size z X → Calls Try.prog 19 #[.pointer (some ⟨gm, 0, none⟩)] X fun e w' => e = .returned (.agg #[.int .i64 0, .int .i64 0, .int .i64 (q'.hunt : Int), .int .i64 (q'.w.move : Int)]) ∧ Below X.heap.size X w') := Lib.hid fun X h => Met.counts_mt X gm 0 0 _ _ (HDz.out.keep h).sm.smt
            have L6 : Hid (∀ X, Below z.heap.size z X → X.cell? ⟨cb, 6, none⟩ = some (.int .i64 (q'.hunt : Int))) := Lib.hid fun X h => (HDz.out.keep h).rb.cells.2.2.2.2.2.2.1
            have L2 : Hid (∀ X, Below z.heap.size z X → X.cell? ⟨cb, 2, none⟩ = some (.int .i64 (q'.w.move : Int))) := Lib.hid fun X h => (HDz.out.keep h).rb.cells.2.2.1
            have n3 := Str.neq_counts 0 0 (q'.hunt : Int) (q'.w.move : Int)
            go_wp2_with fail
            refine wp_region_held_drew (S := fun w' => Below z.drew.heap.size z.drew w') (by kernel_rfl) (Below.refl _ _) (fun hH0 => ?_)
            have B0 := Lib.hid (below_drews HBB.out 1)
            change Hid (Below _ _ z.drew) at B0
            generalize z.drew = x0 at *
            refine held_take (i := 0) (d := 79) (oi := _) (v := ?_) rfl rfl (by kernel_rfl) (by kernel_rfl) (by kernel_rfl) (fun _ _ _ h => h) (Or.inl ⟨by rfl, ?_⟩) (by assumption) ?_
            rotate_left
            · (intro w hSw; clear hSw; go_simp; (try with_reducible rfl))
            simp only [Act.put, List.setIfInBounds_toArray, List.set_cons_zero, List.set_cons_succ]
            refine held_take (i := 1) (d := 80) (oi := _) (v := ?_) rfl rfl (by kernel_rfl) (by kernel_rfl) (by kernel_rfl) (fun _ _ _ h => h) (Or.inl ⟨by rfl, ?_⟩) (by assumption) ?_
            rotate_left
            · (intro w hSw; clear hSw; go_simp; (try with_reducible rfl))
            simp only [Act.put, List.setIfInBounds_toArray, List.set_cons_zero, List.set_cons_succ]
            refine held_take (i := 2) (d := 81) (oi := _) (v := ?_) rfl rfl (by kernel_rfl) (by kernel_rfl) (by kernel_rfl) (fun _ _ _ h => h) (Or.inl ⟨by rfl, ?_⟩) (by assumption) ?_
            rotate_left
            · (intro w hSw; clear hSw; go_simp; (try with_reducible rfl))
            simp only [Act.put, List.setIfInBounds_toArray, List.set_cons_zero, List.set_cons_succ]
            refine held_take (i := 3) (d := 82) (oi := _) (v := ?_) rfl rfl (by kernel_rfl) (by kernel_rfl) (by kernel_rfl) (fun _ _ _ h => h) (Or.inl ⟨by rfl, ?_⟩) (by assumption) ?_
            rotate_left
            · (intro w hSw; clear hSw; go_simp; (try with_reducible rfl))
            simp only [Act.put, List.setIfInBounds_toArray, List.set_cons_zero, List.set_cons_succ]
            refine held_take (i := 4) (d := 83) (oi := _) (v := ?_) rfl rfl (by kernel_rfl) (by kernel_rfl) (by kernel_rfl) (fun _ _ _ h => h) (Or.inl ⟨by rfl, ?_⟩) (by assumption) ?_
            rotate_left
            · (intro w hSw; clear hSw; go_simp; (try with_reducible rfl))
            simp only [Act.put, List.setIfInBounds_toArray, List.set_cons_zero, List.set_cons_succ]
            refine held_take (i := 5) (d := 84) (oi := _) (v := ?_) rfl rfl (by kernel_rfl) (by kernel_rfl) (by kernel_rfl) (fun _ _ _ h => h) (Or.inl ⟨by rfl, ?_⟩) (by assumption) ?_
            rotate_left
            · (intro w hSw; clear hSw; go_simp; (try with_reducible rfl))
            simp only [Act.put, List.setIfInBounds_toArray, List.set_cons_zero, List.set_cons_succ]
            refine held_take (i := 6) (d := 85) (oi := _) (v := ?_) rfl rfl (by kernel_rfl) (by kernel_rfl) (by kernel_rfl) (fun _ _ _ h => h) (Or.inl ⟨by rfl, ?_⟩) (by assumption) ?_
            rotate_left
            · (intro w hSw; clear hSw; go_simp; (try with_reducible rfl))
            simp only [Act.put, List.setIfInBounds_toArray, List.set_cons_zero, List.set_cons_succ]
            refine held_take (i := 8) (d := 87) (oi := _) (v := ?_) rfl rfl (by kernel_rfl) (by kernel_rfl) (by kernel_rfl) (fun _ _ _ h => h) (Or.inl ⟨by rfl, ?_⟩) (by assumption) ?_
            rotate_left
            · (intro w hSw; clear hSw; go_simp; (try with_reducible rfl))
            simp only [Act.put, List.setIfInBounds_toArray, List.set_cons_zero, List.set_cons_succ]
            refine held_take (i := 9) (d := 88) (oi := _) (v := ?_) rfl rfl (by kernel_rfl) (by kernel_rfl) (by kernel_rfl) (fun _ _ _ h => h) (Or.inl ⟨by rfl, ?_⟩) (by assumption) ?_
            rotate_left
            · (intro w hSw; have hld := L6.out w (B0.out.trans (hSw.mono B0.out.size)); clear hSw; go_simp; (try with_reducible rfl))
            simp only [Act.put, List.setIfInBounds_toArray, List.set_cons_zero, List.set_cons_succ]
            refine held_take (i := 10) (d := 89) (oi := _) (v := ?_) rfl rfl (by kernel_rfl) (by kernel_rfl) (by kernel_rfl) (fun _ _ _ h => h) (Or.inl ⟨by rfl, ?_⟩) (by assumption) ?_
            rotate_left
            · (intro w hSw; clear hSw; go_simp; (try with_reducible rfl))
            simp only [Act.put, List.setIfInBounds_toArray, List.set_cons_zero, List.set_cons_succ]
            refine held_take (i := 11) (d := 90) (oi := _) (v := ?_) rfl rfl (by kernel_rfl) (by kernel_rfl) (by kernel_rfl) (fun _ _ _ h => h) (Or.inl ⟨by rfl, ?_⟩) (by assumption) ?_
            rotate_left
            · (intro w hSw; clear hSw; go_simp; (try with_reducible rfl))
            simp only [Act.put, List.setIfInBounds_toArray, List.set_cons_zero, List.set_cons_succ]
            refine held_take (i := 12) (d := 91) (oi := _) (v := ?_) rfl rfl (by kernel_rfl) (by kernel_rfl) (by kernel_rfl) (fun _ _ _ h => h) (Or.inl ⟨by rfl, ?_⟩) (by assumption) ?_
            rotate_left
            · (intro w hSw; have hld := L2.out w (B0.out.trans (hSw.mono B0.out.size)); clear hSw; go_simp; (try with_reducible rfl))
            simp only [Act.put, List.setIfInBounds_toArray, List.set_cons_zero, List.set_cons_succ]
            refine held_take (i := 13) (d := 92) (oi := _) (v := ?_) rfl rfl (by kernel_rfl) (by kernel_rfl) (by kernel_rfl) (fun _ _ _ h => h) (Or.inl ⟨by rfl, ?_⟩) (by assumption) ?_
            rotate_left
            · (intro w hSw; clear hSw; go_simp; (try with_reducible rfl))
            simp only [Act.put, List.setIfInBounds_toArray, List.set_cons_zero, List.set_cons_succ]
            refine wpAnyH_ready (rs := [7]) (by kernel_rfl) (by simp) ?_
            refine AllReadyH.cons rfl (fun K hK => ?_) AllReadyH.nil
            go_simp
            go_wp2_with (go_at_call 19; (with_reducible refine (CC.out _ B0.out).mono ?_); rintro e x1 ⟨rfl, hb⟩)
            refine hK.out _ _ hb (fun _ => ?_)
            have B1 := Lib.hid (B0.out.trans (hb.mono B0.out.size))
            refine wpAnyH_more (S' := fun w' => Below x1.heap.size x1 w') (fun w' h => hb.trans (h.mono hb.size)) _ _ _ _ ?_
            have hH1 : Below x1.heap.size x1 x1 := Below.refl _ _
            clear hK K hH0 hb B0
            refine held_take (i := 14) (d := 93) (oi := _) (v := ?_) rfl rfl (by kernel_rfl) (by kernel_rfl) (by kernel_rfl) (fun _ _ _ h => h) (Or.inl ⟨by rfl, ?_⟩) (by assumption) ?_
            rotate_left
            · (intro w hSw; clear hSw; go_simp; (try with_reducible rfl))
            simp only [Act.put, List.setIfInBounds_toArray, List.set_cons_zero, List.set_cons_succ]
            refine held_take (i := 15) (d := 94) (oi := _) (v := ?_) rfl rfl (by kernel_rfl) (by kernel_rfl) (by kernel_rfl) (fun _ _ _ h => h) (Or.inl ⟨by rfl, ?_⟩) (by assumption) ?_
            rotate_left
            · (intro w hSw; clear hSw; go_simp; (try with_reducible rfl))
            simp only [Act.put, List.setIfInBounds_toArray, List.set_cons_zero, List.set_cons_succ]
            refine wpAnyH_done (by kernel_rfl) ?_ _
            have HDy := Lib.hid (HDz.out.keep B1.out)
            have HLy := Lib.hid (HLz.out.keep B1.out)
            have HRy := Lib.hid (HRz.out.keep B1.out)
            clear CC L6 L2 HBB B1 n3
            go_wp2_with fail
            go_loopw [16] (fun i wr => ∃ j : Nat, j ≤ ys.length ∧ i = .int .i64 (j : Int) ∧ Hid (∃ q, wr = x1.drewN q)) (fun i _ => ys.length - (intOf i).toNat)
            case atStart => exact ⟨0, Nat.zero_le _, rfl, Lib.hid ⟨0, rfl⟩⟩
            case round =>
              obtain ⟨j, hj, rfl, HQ⟩ := hrel
              have hbel : Below x1.heap.size x1 wr := by obtain ⟨q, e⟩ := HQ.out; rw [e]; exact below_drews (Below.refl _ _) _
              by_cases hjl : j < ys.length
              · have hjF : j < F.length := by omega
                obtain ⟨ba, oa, rfl, hba, hca⟩ := (HLy.out.keep hbel).1 (by omega)
                obtain ⟨bb, ob, rfl, hbb, hcb⟩ := HRy.out.keep hbel (by omega)
                have hsl : ys[j].sl = F[j] := by
                  have e := congrArg (fun l => l[j]?) HYF.out
                  simpa [hjl, hjF] using e
                have htx := (HLy.out.keep hbel).2 ys[j] (List.getElem_mem hjl)
                obtain ⟨ca0, ca1, ca2⟩ := hca j hjl
                obtain ⟨cb0, cb1, cb2⟩ := hcb j hjF
                rw [hsl] at ca0 ca1 ca2 htx
                clear hca hcb hsl
                generalize ys[j].a = A1 at *
                generalize ys[j].cap = C1 at *
                generalize F[j] = L at *
                obtain ⟨nu, o, tt⟩ := L
                simp only at ca0 ca1 ca2 cb0 cb1 cb2 htx
                have hk1 : ∀ n, (convert 38 9 (.slice A1 tt.length C1)).run Try.prog (wr.drewN n) = .ok (.string (str tt)) (wr.drewN n) := fun n => str_of_bs (w := wr.drewN n) C1 htx
                have hkl1 : (j : Int) < (ys.length : Int) := by omega
                have hkl2 : (j : Int) < (F.length : Int) := by omega
                have d1 : ((nu : Int) != (nu : Int)) = false := by simp
                have d2 : ((o : Int) != (o : Int)) = false := by simp
                go_wp2_with fail
                go_quiet (fail)
                go_wp2_with fail
                go_roundw
                case rel =>
                  obtain ⟨q, e⟩ := HQ.out
                  exact ⟨j + 1, by omega, by go_num, Lib.hid ⟨q + nq, by rw [e, World.drewN_drewN]⟩⟩
                case measure => simp [intOf]; omega
              · have HDw := Lib.hid (HDy.out.keep hbel)
                have ER := Lib.hid (serr_any w wr p _ g d' q' HDw.out.sm)
                clear HLy HRy HDy hbel HQ HYF
                go_wp2_with fail
                refine ER.out.mono ?_
                rintro e' wv ⟨rfl, qv, hqv⟩
                have HDv := Lib.hid (HDw.out.keep (by rw [hqv]; exact below_drews (Below.refl _ _) _ : Below wr.heap.size wr wv))
                have cz := HDv.out.rb.cells
                obtain ⟨v0, v1', v2, v3, v4, v5, v6, v7', v8⟩ := cz
                clear hqv HDw ER
                cases hbad : q'.bad
                · have he : errOf q' = 0 := by unfold errOf; rw [if_neg (by rw [hbad]; decide)]
                  have hn : badNum q' = 0 := by unfold badNum; rw [if_neg (by rw [hbad]; decide)]
                  rw [he] at v8 ⊢
                  rw [hn]
                  go_wp2_with fail
                  go_roundw
                  case rel => exact ⟨k + 1, d', q', by omega, by go_num, HDv, HBD'⟩
                  case measure => simp [intOf]; omega
                · have he : errOf q' = 15 := by unfold errOf; rw [if_pos hbad]
                  have hn : badNum q' = (q'.num : Int) := by unfold badNum; rw [if_pos hbad]
                  have d3 : ((q'.num : Int) != (q'.num : Int)) = false := by simp
                  rw [he] at v8 ⊢
                  rw [hn]
                  go_wp2_with fail
                  go_roundw
                  case rel => exact ⟨k + 1, d', q', by omega, by go_num, HDv, HBD'⟩
                  case measure => simp [intOf]; omega
      · have hmono : Str.total (xs.take k) ≤ Str.total (xs.take (k + 1)) := by
          rcases Nat.lt_or_ge k xs.length with h | h
          · have := Str.total_succ xs k h; omega
          · rw [List.take_of_length_le h, List.take_of_length_le (by omega)]; exact Nat.le_refl _
        have HEN := Lib.hid (send_all w wr p _ g d q HD.out.sm _ HBD.out (by omega))
        have HRE := Lib.hid (fun W => rsend_all W q _ HBD.out (by omega))
        have hbd3 : Bd (Str.total (xs.take (k + 1)) + (k + 1)) q.fin.1 := HBD.out.fin.more (by omega)
        have hcbl := HD.out.rb.lt
        go_wp2_with fail
        refine HEN.out.mono ?_
        rintro e' w7 ⟨v7, ys, d', rfl, hy, hg, hn, hm, hch⟩
        obtain ⟨q', hq'⟩ : ∃ q', q' = q.fin.1 := ⟨_, rfl⟩
        obtain ⟨F, hF⟩ : ∃ F, F = q.fin.2 := ⟨_, rfl⟩
        have hqf : q.fin = (q', F) := by rw [hq', hF]
        have hFl : F.length ≤ 1500 := by have := fin_told_len q; rw [hF]; omega
        rw [← hF] at hy
        rw [← hq'] at hm hbd3
        obtain ⟨a7, cap7, rfl, hl7, hla7, hlt7⟩ := own_lt2 hg.1 (fun x hx => (hg.2 x hx).1)
        obtain ⟨hsm7, hrb7, hno7⟩ := HD.out.went hm hch hn
        have HYF := Lib.hid hy
        have HBD' := Lib.hid hbd3
        have HNO := Lib.hid hno7
        have HLB : Hid (∀ ad : Addr, a7 = some ad → cb < ad.block) := Lib.hid fun ad e => by have := hla7 ad e; omega
        have HLT : Hid (∀ x ∈ ys, 0 < x.sl.text.length → ∀ ad : Addr, x.a = some ad → cb < ad.block) := Lib.hid fun x hx h0 ad e => by have := hlt7 x hx h0 ad e; omega
        have HSMx := Lib.hid hsm7
        have HRBx := Lib.hid hrb7
        have HLx := Lib.hid hl7
        have hw8 := hch.csize
        clear HEN hy hg hn hm hch hl7 hla7 hlt7 hsm7 hrb7 hno7 hbd3 hq' hF c0 c1 c2 c3 c4 c5 c6 c7 c8 fb hmono
        obtain ⟨c0, c1, c2, c3, c4, c5, c6, c7, c8⟩ := HRBx.out.cells
        go_wp2_with fail
        refine (HRE.out w7).mono ?_
        rintro e' x1 ⟨vr, rfl, hrw, hb⟩
        rw [hqf] at hrw
        first | rw [hqf, show rv (q', F).1 = (.agg #[.string (str q'.w.held), .int .i64 (q'.w.room : Int), .int .i64 (q'.w.move : Int), .int .i64 (q'.most : Int), .int .i64 (q'.num : Int), .int .i64 (q'.off : Int), .int .i64 (q'.hunt : Int), .bool q'.over, .int .i64 (errOf q')]) from rfl] | rw [show rv q' = (.agg #[.string (str q'.w.held), .int .i64 (q'.w.room : Int), .int .i64 (q'.w.move : Int), .int .i64 (q'.most : Int), .int .i64 (q'.num : Int), .int .i64 (q'.off : Int), .int .i64 (q'.hunt : Int), .bool q'.over, .int .i64 (errOf q')]) from rfl] | skip
        have HSM := Lib.hid (HSMx.out.keep hb)
        have HRB := Lib.hid (HRBx.out.keep hb HRBx.out.lt)
        have HLX := Lib.hid (HLx.out.keep hb)
        obtain ⟨ay, cy, evr, hrx, hry⟩ := own_rl hrw
        subst evr
        have HRX := Lib.hid hrx
        have HRX2 : Hid (∀ ad : Addr, ay = some ad → cb < ad.block) := Lib.hid fun ad e => by have := (hry ad e).1; omega
        clear hrx hry hrw hb HSMx HRBx HLx HRE c0 c1 c2 c3 c4 c5 c6 c7 c8
        obtain ⟨c0, c1, c2, c3, c4, c5, c6, c7, c8⟩ := HRB.out.cells
        have fb := HRB.out.free
        go_wp2_with fail
        clear c0 c1 c2 c3 c4 c5 c6 c7 c8 fb
        obtain ⟨z, hz⟩ : ∃ z, z = set9 x1 cb q' := ⟨_, rfl⟩
        rw [show (((((((((x1.setCell ⟨cb, 0, none⟩ (.string (str q'.w.held))).setCell ⟨cb, 1, none⟩ (.int .i64 (q'.w.room : Int))).setCell ⟨cb, 2, none⟩ (.int .i64 (q'.w.move : Int))).setCell ⟨cb, 3, none⟩ (.int .i64 (q'.most : Int))).setCell ⟨cb, 4, none⟩ (.int .i64 (q'.num : Int))).setCell ⟨cb, 5, none⟩ (.int .i64 (q'.off : Int))).setCell ⟨cb, 6, none⟩ (.int .i64 (q'.hunt : Int))).setCell ⟨cb, 7, none⟩ (.bool q'.over)).setCell ⟨cb, 8, none⟩ (.int .i64 (errOf q'))) = z from hz.symm]
        have HDz : Hid (Dp w z p gm g d' cb q') := Lib.hid (by rw [hz]; exact dp_set HSM.out HRB.out HD.out.lo HNO.out)
        have hcz : Ch x1 z (fun k => k = cb) := by rw [hz]; exact ch_set9 _ _ _
        have HLz := Lib.hid (HLX.out.ch hcz (fun _ ad e h => by have := HLB.out ad e; omega) (fun x hx h0 ad e h => by have := HLT.out x hx h0 ad e; omega))
        have HRz := Lib.hid (HRX.out.ch hcz (fun ad e h => by have := HRX2.out ad e; omega))
        clear hz hcz HSM HRB HNO HLX HRX HLB HLT HRX2 HD HBD
        have hlen : ys.length = F.length := by rw [← HYF.out, List.length_map]
        have h1 : ((ys.length : Int) != (F.length : Int)) = false := by rw [hlen]; simp
        have HBB : Hid (Below z.heap.size z z) := Lib.hid (Below.refl _ _)
        have CC : Hid (∀ X, Below z.heap.size z X → Calls Try.prog 19 #[.pointer (some ⟨gm, 0, none⟩)] X fun e w' => e = .returned (.agg #[.int .i64 0, .int .i64 0, .int .i64 (q'.hunt : Int), .int .i64 (q'.w.move : Int)]) ∧ Below X.heap.size X w') := Lib.hid fun X h => Met.counts_mt X gm 0 0 _ _ (HDz.out.keep h).sm.smt
        have L6 : Hid (∀ X, Below z.heap.size z X → X.cell? ⟨cb, 6, none⟩ = some (.int .i64 (q'.hunt : Int))) := Lib.hid fun X h => (HDz.out.keep h).rb.cells.2.2.2.2.2.2.1
        have L2 : Hid (∀ X, Below z.heap.size z X → X.cell? ⟨cb, 2, none⟩ = some (.int .i64 (q'.w.move : Int))) := Lib.hid fun X h => (HDz.out.keep h).rb.cells.2.2.1
        have n3 := Str.neq_counts 0 0 (q'.hunt : Int) (q'.w.move : Int)
        go_wp2_with fail
        refine wp_region_held_drew (S := fun w' => Below z.drew.heap.size z.drew w') (by kernel_rfl) (Below.refl _ _) (fun hH0 => ?_)
        have B0 := Lib.hid (below_drews HBB.out 1)
        change Hid (Below _ _ z.drew) at B0
        generalize z.drew = x0 at *
        refine held_take (i := 0) (d := 79) (oi := _) (v := ?_) rfl rfl (by kernel_rfl) (by kernel_rfl) (by kernel_rfl) (fun _ _ _ h => h) (Or.inl ⟨by rfl, ?_⟩) (by assumption) ?_
        rotate_left
        · (intro w hSw; clear hSw; go_simp; (try with_reducible rfl))
        simp only [Act.put, List.setIfInBounds_toArray, List.set_cons_zero, List.set_cons_succ]
        refine held_take (i := 1) (d := 80) (oi := _) (v := ?_) rfl rfl (by kernel_rfl) (by kernel_rfl) (by kernel_rfl) (fun _ _ _ h => h) (Or.inl ⟨by rfl, ?_⟩) (by assumption) ?_
        rotate_left
        · (intro w hSw; clear hSw; go_simp; (try with_reducible rfl))
        simp only [Act.put, List.setIfInBounds_toArray, List.set_cons_zero, List.set_cons_succ]
        refine held_take (i := 2) (d := 81) (oi := _) (v := ?_) rfl rfl (by kernel_rfl) (by kernel_rfl) (by kernel_rfl) (fun _ _ _ h => h) (Or.inl ⟨by rfl, ?_⟩) (by assumption) ?_
        rotate_left
        · (intro w hSw; clear hSw; go_simp; (try with_reducible rfl))
        simp only [Act.put, List.setIfInBounds_toArray, List.set_cons_zero, List.set_cons_succ]
        refine held_take (i := 3) (d := 82) (oi := _) (v := ?_) rfl rfl (by kernel_rfl) (by kernel_rfl) (by kernel_rfl) (fun _ _ _ h => h) (Or.inl ⟨by rfl, ?_⟩) (by assumption) ?_
        rotate_left
        · (intro w hSw; clear hSw; go_simp; (try with_reducible rfl))
        simp only [Act.put, List.setIfInBounds_toArray, List.set_cons_zero, List.set_cons_succ]
        refine held_take (i := 4) (d := 83) (oi := _) (v := ?_) rfl rfl (by kernel_rfl) (by kernel_rfl) (by kernel_rfl) (fun _ _ _ h => h) (Or.inl ⟨by rfl, ?_⟩) (by assumption) ?_
        rotate_left
        · (intro w hSw; clear hSw; go_simp; (try with_reducible rfl))
        simp only [Act.put, List.setIfInBounds_toArray, List.set_cons_zero, List.set_cons_succ]
        refine held_take (i := 5) (d := 84) (oi := _) (v := ?_) rfl rfl (by kernel_rfl) (by kernel_rfl) (by kernel_rfl) (fun _ _ _ h => h) (Or.inl ⟨by rfl, ?_⟩) (by assumption) ?_
        rotate_left
        · (intro w hSw; clear hSw; go_simp; (try with_reducible rfl))
        simp only [Act.put, List.setIfInBounds_toArray, List.set_cons_zero, List.set_cons_succ]
        refine held_take (i := 6) (d := 85) (oi := _) (v := ?_) rfl rfl (by kernel_rfl) (by kernel_rfl) (by kernel_rfl) (fun _ _ _ h => h) (Or.inl ⟨by rfl, ?_⟩) (by assumption) ?_
        rotate_left
        · (intro w hSw; clear hSw; go_simp; (try with_reducible rfl))
        simp only [Act.put, List.setIfInBounds_toArray, List.set_cons_zero, List.set_cons_succ]
        refine held_take (i := 8) (d := 87) (oi := _) (v := ?_) rfl rfl (by kernel_rfl) (by kernel_rfl) (by kernel_rfl) (fun _ _ _ h => h) (Or.inl ⟨by rfl, ?_⟩) (by assumption) ?_
        rotate_left
        · (intro w hSw; clear hSw; go_simp; (try with_reducible rfl))
        simp only [Act.put, List.setIfInBounds_toArray, List.set_cons_zero, List.set_cons_succ]
        refine held_take (i := 9) (d := 88) (oi := _) (v := ?_) rfl rfl (by kernel_rfl) (by kernel_rfl) (by kernel_rfl) (fun _ _ _ h => h) (Or.inl ⟨by rfl, ?_⟩) (by assumption) ?_
        rotate_left
        · (intro w hSw; have hld := L6.out w (B0.out.trans (hSw.mono B0.out.size)); clear hSw; go_simp; (try with_reducible rfl))
        simp only [Act.put, List.setIfInBounds_toArray, List.set_cons_zero, List.set_cons_succ]
        refine held_take (i := 10) (d := 89) (oi := _) (v := ?_) rfl rfl (by kernel_rfl) (by kernel_rfl) (by kernel_rfl) (fun _ _ _ h => h) (Or.inl ⟨by rfl, ?_⟩) (by assumption) ?_
        rotate_left
        · (intro w hSw; clear hSw; go_simp; (try with_reducible rfl))
        simp only [Act.put, List.setIfInBounds_toArray, List.set_cons_zero, List.set_cons_succ]
        refine held_take (i := 11) (d := 90) (oi := _) (v := ?_) rfl rfl (by kernel_rfl) (by kernel_rfl) (by kernel_rfl) (fun _ _ _ h => h) (Or.inl ⟨by rfl, ?_⟩) (by assumption) ?_
        rotate_left
        · (intro w hSw; clear hSw; go_simp; (try with_reducible rfl))
        simp only [Act.put, List.setIfInBounds_toArray, List.set_cons_zero, List.set_cons_succ]
        refine held_take (i := 12) (d := 91) (oi := _) (v := ?_) rfl rfl (by kernel_rfl) (by kernel_rfl) (by kernel_rfl) (fun _ _ _ h => h) (Or.inl ⟨by rfl, ?_⟩) (by assumption) ?_
        rotate_left
        · (intro w hSw; have hld := L2.out w (B0.out.trans (hSw.mono B0.out.size)); clear hSw; go_simp; (try with_reducible rfl))
        simp only [Act.put, List.setIfInBounds_toArray, List.set_cons_zero, List.set_cons_succ]
        refine held_take (i := 13) (d := 92) (oi := _) (v := ?_) rfl rfl (by kernel_rfl) (by kernel_rfl) (by kernel_rfl) (fun _ _ _ h => h) (Or.inl ⟨by rfl, ?_⟩) (by assumption) ?_
        rotate_left
        · (intro w hSw; clear hSw; go_simp; (try with_reducible rfl))
        simp only [Act.put, List.setIfInBounds_toArray, List.set_cons_zero, List.set_cons_succ]
        refine wpAnyH_ready (rs := [7]) (by kernel_rfl) (by simp) ?_
        refine AllReadyH.cons rfl (fun K hK => ?_) AllReadyH.nil
        go_simp
        go_wp2_with (go_at_call 19; (with_reducible refine (CC.out _ B0.out).mono ?_); rintro e x1 ⟨rfl, hb⟩)
        refine hK.out _ _ hb (fun _ => ?_)
        have B1 := Lib.hid (B0.out.trans (hb.mono B0.out.size))
        refine wpAnyH_more (S' := fun w' => Below x1.heap.size x1 w') (fun w' h => hb.trans (h.mono hb.size)) _ _ _ _ ?_
        have hH1 : Below x1.heap.size x1 x1 := Below.refl _ _
        clear hK K hH0 hb B0
        refine held_take (i := 14) (d := 93) (oi := _) (v := ?_) rfl rfl (by kernel_rfl) (by kernel_rfl) (by kernel_rfl) (fun _ _ _ h => h) (Or.inl ⟨by rfl, ?_⟩) (by assumption) ?_
        rotate_left
        · (intro w hSw; clear hSw; go_simp; (try with_reducible rfl))
        simp only [Act.put, List.setIfInBounds_toArray, List.set_cons_zero, List.set_cons_succ]
        refine held_take (i := 15) (d := 94) (oi := _) (v := ?_) rfl rfl (by kernel_rfl) (by kernel_rfl) (by kernel_rfl) (fun _ _ _ h => h) (Or.inl ⟨by rfl, ?_⟩) (by assumption) ?_
        rotate_left
        · (intro w hSw; clear hSw; go_simp; (try with_reducible rfl))
        simp only [Act.put, List.setIfInBounds_toArray, List.set_cons_zero, List.set_cons_succ]
        refine wpAnyH_done (by kernel_rfl) ?_ _
        have HDy := Lib.hid (HDz.out.keep B1.out)
        have HLy := Lib.hid (HLz.out.keep B1.out)
        have HRy := Lib.hid (HRz.out.keep B1.out)
        clear CC L6 L2 HBB B1 n3
        go_wp2_with fail
        go_loopw [16] (fun i wr => ∃ j : Nat, j ≤ ys.length ∧ i = .int .i64 (j : Int) ∧ Hid (∃ q, wr = x1.drewN q)) (fun i _ => ys.length - (intOf i).toNat)
        case atStart => exact ⟨0, Nat.zero_le _, rfl, Lib.hid ⟨0, rfl⟩⟩
        case round =>
          obtain ⟨j, hj, rfl, HQ⟩ := hrel
          have hbel : Below x1.heap.size x1 wr := by obtain ⟨q, e⟩ := HQ.out; rw [e]; exact below_drews (Below.refl _ _) _
          by_cases hjl : j < ys.length
          · have hjF : j < F.length := by omega
            obtain ⟨ba, oa, rfl, hba, hca⟩ := (HLy.out.keep hbel).1 (by omega)
            obtain ⟨bb, ob, rfl, hbb, hcb⟩ := HRy.out.keep hbel (by omega)
            have hsl : ys[j].sl = F[j] := by
              have e := congrArg (fun l => l[j]?) HYF.out
              simpa [hjl, hjF] using e
            have htx := (HLy.out.keep hbel).2 ys[j] (List.getElem_mem hjl)
            obtain ⟨ca0, ca1, ca2⟩ := hca j hjl
            obtain ⟨cb0, cb1, cb2⟩ := hcb j hjF
            rw [hsl] at ca0 ca1 ca2 htx
            clear hca hcb hsl
            generalize ys[j].a = A1 at *
            generalize ys[j].cap = C1 at *
            generalize F[j] = L at *
            obtain ⟨nu, o, tt⟩ := L
            simp only at ca0 ca1 ca2 cb0 cb1 cb2 htx
            have hk1 : ∀ n, (convert 38 9 (.slice A1 tt.length C1)).run Try.prog (wr.drewN n) = .ok (.string (str tt)) (wr.drewN n) := fun n => str_of_bs (w := wr.drewN n) C1 htx
            have hkl1 : (j : Int) < (ys.length : Int) := by omega
            have hkl2 : (j : Int) < (F.length : Int) := by omega
            have d1 : ((nu : Int) != (nu : Int)) = false := by simp
            have d2 : ((o : Int) != (o : Int)) = false := by simp
            go_wp2_with fail
            go_quiet (fail)
            go_wp2_with fail
            go_roundw
            case rel =>
              obtain ⟨q, e⟩ := HQ.out
              exact ⟨j + 1, by omega, by go_num, Lib.hid ⟨q + nq, by rw [e, World.drewN_drewN]⟩⟩
            case measure => simp [intOf]; omega
          · have HDw := Lib.hid (HDy.out.keep hbel)
            have ER := Lib.hid (serr_any w wr p _ g d' q' HDw.out.sm)
            clear HLy HRy HDy hbel HQ HYF
            go_wp2_with fail
            refine ER.out.mono ?_
            rintro e' wv ⟨rfl, qv, hqv⟩
            have HDv := Lib.hid (HDw.out.keep (by rw [hqv]; exact below_drews (Below.refl _ _) _ : Below wr.heap.size wr wv))
            have cz := HDv.out.rb.cells
            obtain ⟨v0, v1', v2, v3, v4, v5, v6, v7', v8⟩ := cz
            clear hqv HDw ER
            cases hbad : q'.bad
            · have he : errOf q' = 0 := by unfold errOf; rw [if_neg (by rw [hbad]; decide)]
              have hn : badNum q' = 0 := by unfold badNum; rw [if_neg (by rw [hbad]; decide)]
              rw [he] at v8 ⊢
              rw [hn]
              go_wp2_with fail
              go_roundw
              case rel => exact ⟨k + 1, d', q', by omega, by go_num, HDv, HBD'⟩
              case measure => simp [intOf]; omega
            · have he : errOf q' = 15 := by unfold errOf; rw [if_pos hbad]
              have hn : badNum q' = (q'.num : Int) := by unfold badNum; rw [if_pos hbad]
              have d3 : ((q'.num : Int) != (q'.num : Int)) = false := by simp
              rw [he] at v8 ⊢
              rw [hn]
              go_wp2_with fail
              go_roundw
              case rel => exact ⟨k + 1, d', q', by omega, by go_num, HDv, HBD'⟩
              case measure => simp [intOf]; omega
    · obtain rfl : k = xs.length + 1 := by omega
      go_wp2_with fail
      refine (serr_none wr).mono ?_
      rintro e' wv ⟨rfl, rfl⟩
      go_wp2_with (first
        | (go_at_call 15; (with_reducible refine (sfeed_none _ _ _ _).mono ?_); rintro e' wy ⟨rfl, hby⟩; have HBY := Lib.hid hby; clear hby)
        | (go_at_call 17; (with_reducible refine (send_none wy).mono ?_); rintro e' wq ⟨rfl, rfl⟩))
      go_ret
      have hsw := HD.out.sm.sbel
      exact ⟨ret_bool (by simp), (hsw.alloc hsw.size _).trans (HBY.out.mono (by have := hsw.size; simp; omega))⟩
end Go.Proofs.Ytcekifknbljbiaa.streamPlays
