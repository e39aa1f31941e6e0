/- The walk of MeterDense. -/
import Derived.Test.YteadlgmajakomaaMk
namespace Go.Proofs.Yteadlgmajakomaa.meterDense
open Go.RowKit Go.Maps
attribute [local go_sem ↓] Go.wp_at_zero Go.wp_at_succ

theorem info48 : (Try.prog.info? 48).map (fun i => (i.zero, i.size)) = some (some (.agg (Array.replicate 256 (.int .i64 0))), 256) := by kernel_rfl
/-- An array's numbers: some, and noughts behind them. -/
def pad (l : List Int) (k : Nat) : List Int := l.take k ++ List.replicate (256 - k) 0
theorem pad_length (l : List Int) (k : Nat) (h : k ≤ l.length) (h2 : l.length ≤ 256) : (pad l k).length = 256 := by simp [pad]; omega
theorem pad_set (l : List Int) (k : Nat) (h : k < l.length) (h2 : l.length ≤ 256) : (pad l k).set k l[k] = pad l (k + 1) := by
  unfold pad
  rw [List.set_append_right k _ (by simp; omega)]
  have e : k - (l.take k).length = 0 := by simp; omega
  rw [e, show 256 - k = (256 - (k + 1)) + 1 by omega, List.replicate_succ, List.set_cons_zero, List.take_succ_eq_append_getElem h, List.append_assoc]
  rfl
theorem zeros (l : List Int) : icells (pad l 0) = Array.replicate 256 (.int .i64 0) := by
  simp only [pad, List.take_zero, List.nil_append, Nat.sub_zero, icells, ivals, List.map_replicate, List.toArray_replicate]
theorem zero48 (l : List Int) (w : World) : (zeroValue 48).run Try.prog w = .ok (.agg (icells (pad l 0))) w := by
  rw [zeros]; exact (zero_of_info info48).1 w
theorem size48 : (Try.prog.info? 48).map (·.size) = some 256 := (zero_of_info info48).2
theorem und48 : Try.prog.underlying 48 = some (.array 256 3) := by kernel_rfl
/-- A number appended to numbers of the call's own. -/
theorem app_is {w : World} {ops : Array Oper} {rest : List Oper} {o : Oper} {a : Act} {Q : Exit → Act → World → Prop} (hgd : o.guard = none) (s x : Operand)
    (ho : o.op = .call { callee := .builtin .append, args := #[s, x], argTypes := #[23, 23] })
    (base : Nat) (v : Value) (n : Nat) (xs : List Int) (y : Int) (hs : a.eval s = v) (hown : w.ownsRow base 3 1 v n (ivals xs))
    (ad : Addr) (hx : a.eval x = .slice (some ad) 1 1) (hc : ∀ j u, [Value.int .i64 y][j]? = some u → w.cell? (ad.add j) = some u) (hn : n ≤ 1000000) (hbase : base ≤ w.heap.size)
    (h : ∀ v' w', w'.ownsRow base 3 1 v' (n + 1) (ivals (xs ++ [y])) → w.grownBy w' v.ownBlock → wpList Try.prog ops Q rest (a.put o.dst v') w') : wpList Try.prog ops Q (o :: rest) a w := by
  obtain ⟨i0, hi, hz0, hz1, hz2⟩ := info_parts info3
  have hr : ivals (xs ++ [y]) = ivals xs ++ [.int .i64 y] := by simp [ivals]
  rw [hr] at h
  exact wpList_append_own w hgd s x 23 ho base 3 i0 (.int .i64 0) 1 8 und23 hi hz0 hz1 hz2 rfl (by decide) v n (ivals xs) hs hown ad 1 1 [.int .i64 y] hx rfl hc (by simp [Value.oneCell']) (by unfold maxLen; omega) (by omega) hbase (fun v' w' h1 h2 _ => h v' w' h1 h2)
theorem icell_new (w : World) (y : Int) : ∀ j u, [Value.int .i64 y][j]? = some u → (w.alloc (.cells #[.int .i64 y] 3)).cell? ((⟨w.heap.size, 0, none⟩ : Addr).add j) = some u := by
  intro j u h
  have ea : (⟨w.heap.size, 0, none⟩ : Addr).add j = ⟨w.heap.size, j, none⟩ := by unfold Addr.add; split <;> simp_all
  rw [ea, cell_of_row _ w.heap.size _ _ 3 (0, 0) (heap_alloc_new w _)]
  simpa using h
set_option maxRecDepth 100000 in
set_option maxHeartbeats 8000000 in
theorem walk (W : World) (l : List Int) (a : Option Addr) (cap : Nat) (hl : l.length ≤ maxLen) (hL : Is W W.heap.size a l) (wd : Int) (nx : List Int) (an : Option Addr) (cn : Nat) (hnl : nx.length ≤ maxLen) (hN : Is W W.heap.size an nx) (l2 : List Ak) (a2 : Option Addr) (cap2 : Nat) (hl2 : l2.length ≤ maxLen) (hA : As W W.heap.size a2 l2) :
    Calls Try.prog 5 #[.slice a l.length cap, .int .i64 wd, .slice an nx.length cn, .slice a2 l2.length cap2] W fun e w' => e = .returned (.bool true) ∧ Below W.heap.size W w' := by
  unfold maxLen at hl hl2 hnl
  have HL := Lib.hid hL
  have HN := Lib.hid hN
  have HA := Lib.hid hA
  clear hL hN hA
  by_cases h3 : 256 < l.length
  · go_enter Try.func5, Try.ntmps5
    go_wp2_with (go_at_call 8; (with_reducible refine (awake_any W).mono ?_); rintro e w0 ⟨rfl, hb0⟩)
    go_ret
    exact ⟨rfl, hb0⟩
  by_cases h2 : 200 < nx.length
  · go_enter Try.func5, Try.ntmps5
    go_wp2_with (go_at_call 8; (with_reducible refine (awake_any W).mono ?_); rintro e w0 ⟨rfl, hb0⟩)
    go_ret
    exact ⟨rfl, hb0⟩
  by_cases h1 : 60 < l2.length
  · go_enter Try.func5, Try.ntmps5
    go_wp2_with (go_at_call 8; (with_reducible refine (awake_any W).mono ?_); rintro e w0 ⟨rfl, hb0⟩)
    go_ret
    exact ⟨rfl, hb0⟩
  have q1 : decide ((256 : Int) < (l.length : Int)) = false := by simp; omega
  have q2 : decide ((200 : Int) < (nx.length : Int)) = false := by simp; omega
  have q3 : decide ((60 : Int) < (l2.length : Int)) = false := by simp; omega
  go_enter Try.func5, Try.ntmps5
  go_wp2_with fail
  refine (awake_any W).mono ?_
  rintro e w0 ⟨rfl, hb0⟩
  have s0 := hb0.size
  have hz := zero48 l
  have hp0 := pad_length l 0 (Nat.zero_le _) (by omega)
  obtain ⟨c0, hc0⟩ : ∃ c0, c0 = icells (pad l 0) := ⟨_, rfl⟩
  have hcs : c0.size = 256 := by rw [hc0, icells_size, hp0]
  have hone : c0.all (·.oneCell') = true := by rw [hc0]; exact icells_one _
  rw [← hc0] at hz
  have hsc := run_storeCells_new (P := Try.prog) w0 48 c0 c0 (by rw [hcs]; exact size48) rfl hone
  have HC0 := Lib.hid hc0
  have HP0 := Lib.hid hp0
  clear hc0 hone hp0
  go_wp2
  clear hz hsc hcs q1 q2 q3
  have HG0 : Hid ((w0.alloc (.cells c0 48)).heap[w0.heap.size]? = some (.cells (icells (pad l 0)) 48 (0, 0))) := Lib.hid (by rw [heap_alloc_new, HC0.out])
  have hbw := hb0.alloc s0 (.cells c0 48)
  generalize w0.heap.size = G at *
  generalize w0.alloc (.cells c0 48) = w1 at *
  clear hb0 HC0 HP0
  go_loopw [11] (fun i wr => ∃ k : Nat, k ≤ l.length ∧ i = .int .i64 k ∧ wr.heap[G]? = some (.cells (icells (pad l k)) 48 (0, 0)) ∧ Below W.heap.size W wr) (fun i _ => l.length - (intOf i).toNat)
  case atStart => exact ⟨0, Nat.zero_le _, rfl, HG0.out, hbw⟩
  case round =>
    obtain ⟨k, hk, rfl, hg, hbel⟩ := hrel
    clear HG0 hbw
    by_cases hlt : k < l.length
    · have hkl : (k : Int) < (l.length : Int) := by omega
      have hk2 : (k : Int) < 256 := by omega
      obtain ⟨bb, off, rfl, hbb, hcs⟩ := HL.out (by omega)
      have hcell := (hbel.cell (p := ⟨bb, off + k, none⟩) hbb).trans (hcs k hlt)
      have HS := Lib.hid (heap_set_same (i := k) (u := .int .i64 l[k]) hg)
      have HP := Lib.hid (pad_set l k hlt (by omega))
      have hfz : wr.frozen? ⟨G, k, none⟩ = false := by simp [World.frozen?, hg]
      have hold : wr.cell? ⟨G, k, none⟩ = some (.int .i64 ((pad l k)[k]'(by rw [pad_length l k hk (by omega)]; omega))) := (cell_of_row wr G k _ 48 (0, 0) hg).trans (icells_at _ k _)
      have HBL := Lib.hid hbel
      clear hcs hg hbel
      generalize l[k] = x at *
      go_wp2
      go_roundw
      case rel =>
        refine ⟨k + 1, by omega, by go_num, ?_, HBL.out.setCell (p := ⟨G, k, none⟩) s0 _⟩
        rw [HS.out, icells_set, HP.out]
      case measure => simp [intOf]; omega
    · obtain rfl : k = l.length := by omega
      have HCL : Hid ((pad l l.length).length = 256) := Lib.hid (pad_length l l.length (Nat.le_refl _) (by omega))
      generalize pad l l.length = cl at *
      have HG := Lib.hid hg
      have HBL := Lib.hid hbel
      clear hg hbel hlt hk
      go_wp2_with fail
      refine (new_mt wr).mono ?_
      rintro e w2 ⟨rfl, hM2, hb2⟩
      have s0' := HBL.out.size
      have D1 := Lib.hid (HBL.out.trans (hb2.mono s0'))
      have D2 := Lib.hid hM2
      have D3 := Lib.hid ((hb2.block G (txt_lt HG.out)).trans HG.out)
      have s2 := D1.out.size
      generalize wr.heap.size = P at *
      clear hM2 hb2 HG HBL
      go_wp2_with (with_reducible refine wpList_load_row rfl 48 (.tmp 10) rfl G rfl 48 (icells cl) (0, 0) _ D3.out und48 rfl (by rw [icells_size, HCL.out]; exact size48) ?_)
      refine (dense_any w2 (some ⟨P, 0, none⟩) cl wd nx an cn (by omega) (fun h0 => by obtain ⟨b, off, e, hlt, hc⟩ := (HN.out.keep D1.out) h0; exact ⟨b, off, e, by omega, hc⟩)).mono ?_
      rintro e w3 ⟨t, rfl, hT3, hb3⟩
      have E1 := Lib.hid (D1.out.trans (hb3.mono s2))
      have E2 := Lib.hid (D2.out.keep hb3)
      have E3 := Lib.hid ((hb3.block G (txt_lt D3.out)).trans D3.out)
      have E4 := Lib.hid hT3
      have s3 := E1.out.size
      clear hT3 hb3 D1 D2 D3
      go_wp2
      go_loopw [14, 15] (fun v i wr => ∃ k : Nat, k ≤ 256 ∧ i = .int .i64 k ∧ wr.ownsRow w3.heap.size 3 1 v k (ivals (cl.take k)) ∧ Below w3.heap.size w3 wr) (fun _ i _ => 256 - (intOf i).toNat)
      case atStart => exact ⟨0, Nat.zero_le _, rfl, ⟨rfl, Or.inl ⟨rfl, rfl⟩⟩, Below.refl _ _⟩
      case round =>
        obtain ⟨k, hk, rfl, hown, hbel⟩ := hrel
        by_cases hlt : k < 256
        · have hkl : (k : Int) < 256 := by omega
          have hkc : k < cl.length := by rw [HCL.out]; exact hlt
          have HS : Hid (cl.take (k + 1) = cl.take k ++ [cl[k]]) := Lib.hid (by rw [List.take_succ_eq_append_getElem hkc])
          have hcell : wr.cell? ⟨G, k, none⟩ = some (.int .i64 cl[k]) := (cell_of_row wr G k _ 48 (0, 0) ((hbel.block G (txt_lt E3.out)).trans E3.out)).trans (icells_at _ k hkc)
          have HO := Lib.hid hown
          have HBL := Lib.hid hbel
          clear hown hbel
          generalize cl[k] = x at *
          go_wp2_with (at_builtin; (with_reducible refine app_is rfl _ _ rfl w3.heap.size _ k (cl.take k) x rfl (HO.out.alloc _) ⟨wr.heap.size, 0, none⟩ rfl (icell_new wr x) (by omega) (by have := HBL.out.size; simp; omega) ?_); intro v' w4 ho4 hg4; have HO4 := Lib.hid ho4; have HG4 := Lib.hid hg4; clear ho4 hg4)
          go_roundw
          case rel =>
            have hz := HBL.out.size
            exact ⟨k + 1, by omega, by go_num, by rw [HS.out]; exact HO4.out, (HBL.out.alloc hz _).grown HG4.out (by simp; omega) (fun j hj => own_ge HO.out hj)⟩
          case measure => simp [intOf]; omega
        · obtain rfl : k = 256 := by omega
          rw [List.take_of_length_le (by rw [HCL.out]; exact Nat.le_refl _)] at hown
          obtain ⟨ar, cr, rfl, hit⟩ := own_it hown
          have F1 := Lib.hid (E1.out.trans (hbel.mono s3))
          have F2 := Lib.hid (E2.out.keep hbel)
          have F3 := Lib.hid (E4.out.keep hbel)
          have F4 := Lib.hid hit
          rw [HCL.out, show ((256 : Nat) : Int) = 256 from rfl]
          clear hown hbel hit E1 E2 E3 E4
          go_wp2
          go_loopw [16] (fun i wr => ∃ k : Nat, k ≤ l2.length ∧ i = .int .i64 k ∧ Below W.heap.size W wr ∧ Mt wr (some ⟨P, 0, none⟩) 0 k 0 0 ∧ Td wr t (some ⟨P, 0, none⟩) cl wd nx ∧ It wr ar cl) (fun i _ => l2.length - (intOf i).toNat)
          case atStart => exact ⟨0, Nat.zero_le _, rfl, F1.out, F2.out, F3.out, F4.out⟩
          case round =>
            obtain ⟨k, hk, rfl, g1, g2, g3, g4⟩ := hrel
            clear F1 F2 F3 F4
            have G1 := Lib.hid g1
            have G2 := Lib.hid g2
            have G3 := Lib.hid g3
            have G4 := Lib.hid g4
            clear g1 g2 g3 g4
            by_cases hlt : k < l2.length
            · have hkl : (k : Int) < (l2.length : Int) := by omega
              obtain ⟨bq, oq, rfl, hbq, hcs⟩ := (HA.out.keep G1.out) (by omega)
              have HC := Lib.hid (hcs k hlt)
              have NB : Hid (some bq ≠ blk (some ⟨P, 0, none⟩)) := Lib.hid (fun e => by cases e; exact Nat.lt_irrefl _ (Nat.lt_of_lt_of_le hbq s0'))
              clear hcs
              generalize l2[k] = q at *
              have hS0 : wr.drew.cell? ⟨bq, oq + k * 2, none⟩ = some (.int .i64 q.s) ∧ wr.drew.cell? ⟨bq, oq + k * 2 + 1, none⟩ = some (.int .u8 (q.c.toNat : Int)) := HC.out
              obtain ⟨kk, hkk⟩ : ∃ kk, cl[q.c.toNat]'(by rw [HCL.out]; exact q.c.toNat_lt) = kk := ⟨_, rfl⟩
              have HKK := Lib.hid hkk
              have L1 := Lib.hid (lookd_some wr.drew t _ cl wd nx (by omega) G3.out q.s q.c kk (by rw [← hkk]; exact List.getElem?_eq_getElem _) _ _ _ _ G2.out (by omega) (by omega) (by omega) (by omega))
              clear hkk
              go_wp2
              refine wp_region_held_drew (S := fun w' => w'.cell? ⟨bq, oq + k * 2, none⟩ = some (.int .i64 q.s) ∧ w'.cell? ⟨bq, oq + k * 2 + 1, none⟩ = some (.int .u8 (q.c.toNat : Int))) (by kernel_rfl) hS0 (fun hH0 => ?_)
              refine held_take (i := 0) (d := 68) (oi := _) (v := ?_) rfl rfl (by kernel_rfl) (by kernel_rfl) (by kernel_rfl) (fun _ _ _ h => h) (Or.inl ⟨by rfl, ?_⟩) (by assumption) ?_
              rotate_left
              · (intro w hSw; (try dsimp only at hSw); go_simp; (try with_reducible rfl))
              simp only [Act.put, List.setIfInBounds_toArray, List.set_cons_zero, List.set_cons_succ]
              refine held_take (i := 1) (d := 69) (oi := _) (v := ?_) rfl rfl (by kernel_rfl) (by kernel_rfl) (by kernel_rfl) (fun _ _ _ h => h) (Or.inl ⟨by rfl, ?_⟩) (by assumption) ?_
              rotate_left
              · (intro w hSw; (try dsimp only at hSw); go_simp; (try with_reducible rfl))
              simp only [Act.put, List.setIfInBounds_toArray, List.set_cons_zero, List.set_cons_succ]
              refine held_take (i := 2) (d := 70) (oi := _) (v := ?_) rfl rfl (by kernel_rfl) (by kernel_rfl) (by kernel_rfl) (fun _ _ _ h => h) (Or.inl ⟨by rfl, ?_⟩) (by assumption) ?_
              rotate_left
              · (intro w hSw; (try dsimp only at hSw); go_simp; (try with_reducible rfl))
              simp only [Act.put, List.setIfInBounds_toArray, List.set_cons_zero, List.set_cons_succ]
              refine held_take (i := 3) (d := 71) (oi := _) (v := ?_) rfl rfl (by kernel_rfl) (by kernel_rfl) (by kernel_rfl) (fun _ _ _ h => h) (Or.inl ⟨by rfl, ?_⟩) (by assumption) ?_
              rotate_left
              · (intro w hSw; (try dsimp only at hSw); go_simp; (try with_reducible rfl))
              simp only [Act.put, List.setIfInBounds_toArray, List.set_cons_zero, List.set_cons_succ]
              refine held_take (i := 4) (d := 72) (oi := _) (v := ?_) rfl rfl (by kernel_rfl) (by kernel_rfl) (by kernel_rfl) (fun _ _ _ h => h) (Or.inl ⟨by rfl, ?_⟩) (by assumption) ?_
              rotate_left
              · (intro w hSw; (try dsimp only at hSw); go_simp; (try with_reducible rfl))
              simp only [Act.put, List.setIfInBounds_toArray, List.set_cons_zero, List.set_cons_succ]
              refine held_take (i := 5) (d := 73) (oi := _) (v := ?_) rfl rfl (by kernel_rfl) (by kernel_rfl) (by kernel_rfl) (fun _ _ _ h => h) (Or.inl ⟨by rfl, ?_⟩) (by assumption) ?_
              rotate_left
              · (intro w hSw; (try dsimp only at hSw); go_simp; (try with_reducible rfl))
              simp only [Act.put, List.setIfInBounds_toArray, List.set_cons_zero, List.set_cons_succ]
              refine held_take (i := 6) (d := 74) (oi := _) (v := ?_) rfl rfl (by kernel_rfl) (by kernel_rfl) (by kernel_rfl) (fun _ _ _ h => h) (Or.inl ⟨by rfl, ?_⟩) (by assumption) ?_
              rotate_left
              · (intro w hSw; (try dsimp only at hSw); go_simp; (try with_reducible rfl))
              simp only [Act.put, List.setIfInBounds_toArray, List.set_cons_zero, List.set_cons_succ]
              refine held_take (i := 7) (d := 75) (oi := _) (v := ?_) rfl rfl (by kernel_rfl) (by kernel_rfl) (by kernel_rfl) (fun _ _ _ h => h) (Or.inl ⟨by rfl, ?_⟩) (by assumption) ?_
              rotate_left
              · (intro w hSw; (try dsimp only at hSw); go_simp; (try with_reducible rfl))
              simp only [Act.put, List.setIfInBounds_toArray, List.set_cons_zero, List.set_cons_succ]
              refine held_take (i := 8) (d := 76) (oi := _) (v := ?_) rfl rfl (by kernel_rfl) (by kernel_rfl) (by kernel_rfl) (fun _ _ _ h => h) (Or.inl ⟨by rfl, ?_⟩) (by assumption) ?_
              rotate_left
              · (intro w hSw; (try dsimp only at hSw); go_simp; (try with_reducible rfl))
              simp only [Act.put, List.setIfInBounds_toArray, List.set_cons_zero, List.set_cons_succ]
              refine held_take (i := 9) (d := 77) (oi := _) (v := ?_) rfl rfl (by kernel_rfl) (by kernel_rfl) (by kernel_rfl) (fun _ _ _ h => h) (Or.inl ⟨by rfl, ?_⟩) (by assumption) ?_
              rotate_left
              · (intro w hSw; (try dsimp only at hSw); go_simp; (try with_reducible rfl))
              simp only [Act.put, List.setIfInBounds_toArray, List.set_cons_zero, List.set_cons_succ]
              refine held_take (i := 10) (d := 78) (oi := _) (v := ?_) rfl rfl (by kernel_rfl) (by kernel_rfl) (by kernel_rfl) (fun _ _ _ h => h) (Or.inl ⟨by rfl, ?_⟩) (by assumption) ?_
              rotate_left
              · (intro w hSw; (try dsimp only at hSw); go_simp; (try with_reducible rfl))
              simp only [Act.put, List.setIfInBounds_toArray, List.set_cons_zero, List.set_cons_succ]
              refine held_take (i := 12) (d := 80) (oi := _) (v := ?_) rfl rfl (by kernel_rfl) (by kernel_rfl) (by kernel_rfl) (fun _ _ _ h => h) (Or.inl ⟨by rfl, ?_⟩) (by assumption) ?_
              rotate_left
              · (intro w hSw; (try dsimp only at hSw); go_simp; (try with_reducible rfl))
              simp only [Act.put, List.setIfInBounds_toArray, List.set_cons_zero, List.set_cons_succ]
              refine held_take (i := 13) (d := 81) (oi := _) (v := ?_) rfl rfl (by kernel_rfl) (by kernel_rfl) (by kernel_rfl) (fun _ _ _ h => h) (Or.inl ⟨by rfl, ?_⟩) (by assumption) ?_
              rotate_left
              · (intro w hSw; (try dsimp only at hSw); go_simp; (try with_reducible rfl))
              simp only [Act.put, List.setIfInBounds_toArray, List.set_cons_zero, List.set_cons_succ]
              refine held_take (i := 14) (d := 82) (oi := _) (v := ?_) rfl rfl (by kernel_rfl) (by kernel_rfl) (by kernel_rfl) (fun _ _ _ h => h) (Or.inl ⟨by rfl, ?_⟩) (by assumption) ?_
              rotate_left
              · (intro w hSw; (try dsimp only at hSw); go_simp; (try with_reducible rfl))
              simp only [Act.put, List.setIfInBounds_toArray, List.set_cons_zero, List.set_cons_succ]
              refine held_take (i := 15) (d := 83) (oi := _) (v := ?_) rfl rfl (by kernel_rfl) (by kernel_rfl) (by kernel_rfl) (fun _ _ _ h => h) (Or.inl ⟨by rfl, ?_⟩) (by assumption) ?_
              rotate_left
              · (intro w hSw; (try dsimp only at hSw); go_simp; (try with_reducible rfl))
              simp only [Act.put, List.setIfInBounds_toArray, List.set_cons_zero, List.set_cons_succ]
              refine held_take (i := 16) (d := 84) (oi := _) (v := ?_) rfl rfl (by kernel_rfl) (by kernel_rfl) (by kernel_rfl) (fun _ _ _ h => h) (Or.inl ⟨by rfl, ?_⟩) (by assumption) ?_
              rotate_left
              · (intro w hSw; (try dsimp only at hSw); go_simp; (try with_reducible rfl))
              simp only [Act.put, List.setIfInBounds_toArray, List.set_cons_zero, List.set_cons_succ]
              refine held_take (i := 17) (d := 85) (oi := _) (v := ?_) rfl rfl (by kernel_rfl) (by kernel_rfl) (by kernel_rfl) (fun _ _ _ h => h) (Or.inl ⟨by rfl, ?_⟩) (by assumption) ?_
              rotate_left
              · (intro w hSw; (try dsimp only at hSw); go_simp; (try with_reducible rfl))
              simp only [Act.put, List.setIfInBounds_toArray, List.set_cons_zero, List.set_cons_succ]
              refine held_take (i := 18) (d := 86) (oi := _) (v := ?_) rfl rfl (by kernel_rfl) (by kernel_rfl) (by kernel_rfl) (fun _ _ _ h => h) (Or.inl ⟨by rfl, ?_⟩) (by assumption) ?_
              rotate_left
              · (intro w hSw; (try dsimp only at hSw); go_simp; (try with_reducible rfl))
              simp only [Act.put, List.setIfInBounds_toArray, List.set_cons_zero, List.set_cons_succ]
              refine held_take (i := 19) (d := 87) (oi := _) (v := ?_) rfl rfl (by kernel_rfl) (by kernel_rfl) (by kernel_rfl) (fun _ _ _ h => h) (Or.inl ⟨by rfl, ?_⟩) (by assumption) ?_
              rotate_left
              · (intro w hSw; (try dsimp only at hSw); go_simp; (try with_reducible rfl))
              simp only [Act.put, List.setIfInBounds_toArray, List.set_cons_zero, List.set_cons_succ]
              refine held_take (i := 20) (d := 88) (oi := _) (v := ?_) rfl rfl (by kernel_rfl) (by kernel_rfl) (by kernel_rfl) (fun _ _ _ h => h) (Or.inl ⟨by rfl, ?_⟩) (by assumption) ?_
              rotate_left
              · (intro w hSw; (try dsimp only at hSw); go_simp; (try with_reducible rfl))
              simp only [Act.put, List.setIfInBounds_toArray, List.set_cons_zero, List.set_cons_succ]
              refine held_take (i := 21) (d := 89) (oi := _) (v := ?_) rfl rfl (by kernel_rfl) (by kernel_rfl) (by kernel_rfl) (fun _ _ _ h => h) (Or.inl ⟨by rfl, ?_⟩) (by assumption) ?_
              rotate_left
              · (intro w hSw; (try dsimp only at hSw); go_simp; (try with_reducible rfl))
              simp only [Act.put, List.setIfInBounds_toArray, List.set_cons_zero, List.set_cons_succ]
              refine held_take (i := 22) (d := 90) (oi := _) (v := ?_) rfl rfl (by kernel_rfl) (by kernel_rfl) (by kernel_rfl) (fun _ _ _ h => h) (Or.inl ⟨by rfl, ?_⟩) (by assumption) ?_
              rotate_left
              · (intro w hSw; (try dsimp only at hSw); go_simp; (try with_reducible rfl))
              simp only [Act.put, List.setIfInBounds_toArray, List.set_cons_zero, List.set_cons_succ]
              refine held_take (i := 23) (d := 91) (oi := _) (v := ?_) rfl rfl (by kernel_rfl) (by kernel_rfl) (by kernel_rfl) (fun _ _ _ h => h) (Or.inl ⟨by rfl, ?_⟩) (by assumption) ?_
              rotate_left
              · (intro w hSw; (try dsimp only at hSw); go_simp; (try with_reducible rfl))
              simp only [Act.put, List.setIfInBounds_toArray, List.set_cons_zero, List.set_cons_succ]
              refine held_take (i := 24) (d := 92) (oi := _) (v := ?_) rfl rfl (by kernel_rfl) (by kernel_rfl) (by kernel_rfl) (fun _ _ _ h => h) (Or.inl ⟨by rfl, ?_⟩) (by assumption) ?_
              rotate_left
              · (intro w hSw; (try dsimp only at hSw); go_simp; (try with_reducible rfl))
              simp only [Act.put, List.setIfInBounds_toArray, List.set_cons_zero, List.set_cons_succ]
              refine wpAnyH_ready (rs := [11]) (by kernel_rfl) (by simp) ?_
              refine AllReadyH.cons rfl (fun K hK => ?_) AllReadyH.nil
              go_simp
              go_wp2_with (go_at_call 15; ((with_reducible refine L1.out.mono ?_)); rintro e' x1 ⟨rfl, hM1, hg1⟩)
              refine hK.out _ _ ?_ (fun hH1 => ?_)
              · exact ⟨(hg1.cell hH0.1 NB.out), (hg1.cell hH0.2 NB.out)⟩
              clear hK K hH0
              have C1 := Lib.hid (below_adds (below_drews G1.out 1) hg1 s0' (Nat.le_refl _))
              have C3 := Lib.hid (Td.adds (w := wr.drew) G3.out hg1 G2.out)
              have C4 := Lib.hid (It.adds (w := wr.drew) G4.out hg1 G2.out)
              have C2 := Lib.hid hM1
              clear hM1 hg1
              have R0 := rdense_any x1 cl ar cr _ C4.out.is wd nx (by omega) an cn _ (HN.out.keep C1.out) q.s q.c kk (by rw [HCL.out]; exact q.c.toNat_lt) HKK.out
              rw [HCL.out] at R0
              have R1 := Lib.hid R0
              clear R0
              refine wpAnyH_ready (rs := [25]) (by kernel_rfl) (by simp) ?_
              refine AllReadyH.cons rfl (fun K hK => ?_) AllReadyH.nil
              go_simp
              go_wp2_with (go_at_call 18; ((with_reducible refine R1.out.mono ?_)); rintro e' x2 ⟨rfl, rfl⟩)
              refine hK.out _ _ ?_ (fun hH2 => ?_)
              · exact hH1
              clear hK K hH1
              refine held_take (i := 26) (d := 94) (oi := _) (v := ?_) rfl rfl (by kernel_rfl) (by kernel_rfl) (by kernel_rfl) (fun _ _ _ h => h) (Or.inl ⟨by rfl, ?_⟩) (by assumption) ?_
              rotate_left
              · (intro w hSw; (try dsimp only at hSw); go_simp; (try with_reducible rfl))
              simp only [Act.put, List.setIfInBounds_toArray, List.set_cons_zero, List.set_cons_succ]
              refine wpAnyH_done (by kernel_rfl) ?_ _
              go_wp2
              go_roundw
              case rel => exact ⟨k + 1, by omega, by go_num, C1.out, by simpa using C2.out, C3.out, C4.out⟩
              case measure => simp [intOf]; omega
            · obtain rfl : k = l2.length := by omega
              have C4 := Lib.hid (counts_mt _ _ _ _ _ _ G2.out)
              have hq := eql_counts
              go_wp2_with (go_at_call 12; (with_reducible refine C4.out.mono ?_); rintro e w5 ⟨rfl, hb5⟩; have HB5 := Lib.hid (G1.out.trans (hb5.mono G1.out.size)); clear hb5)
              go_ret
              exact ⟨rfl, HB5.out⟩
end Go.Proofs.Yteadlgmajakomaa.meterDense
