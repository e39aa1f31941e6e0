/- The reference of layer 20: Feed, of a stream that goes on. -/
import Derived.Test.YtcekifknbljbiaaStrB2
namespace Go.Proofs.Ytcekifknbljbiaa.Str
open Go.Proofs.Ytcekifknbljbiaa.Stm Go.Proofs.Ytcekifknbljbiaa.Reg Go.RowKit Go.Maps
set_option maxRecDepth 100000
set_option linter.unusedVariables false

/-- While the reference's Feed goes: its box in block N, its result's block, what was told. -/
structure Rp (w W : World) (N : Nat) (s : St) (pre : List SlV) (v : Value) : Prop where
  rs : Rb W N s
  rz : Zb W (N + 1)
  rr : W.ownsRow (N + 2) 49 3 v pre.length ((pre.map SlV.sl).flatMap rcells)
  rb : Below N w W
  rN : w.heap.size = N
theorem Rp.sz {w W : World} {N : Nat} {s : St} {pre : List SlV} {v : Value} (h : Rp w W N s pre v) : N + 2 ≤ W.heap.size := by have := h.rz.lt; omega
theorem Rp.keep {w W W' : World} {N : Nat} {s : St} {pre : List SlV} {v : Value} (h : Rp w W N s pre v) (hb : Below W.heap.size W W') : Rp w W' N s pre v :=
  ⟨h.rs.keep hb h.rs.lt, h.rz.keep hb h.rz.lt, own_keep h.rr hb, h.rb.trans (hb.mono h.rb.size |>.mono (by have := h.rb.size; have := h.rN; omega)), h.rN⟩
theorem row_ge {W : World} {m e size n : Nat} {v : Value} {xs : List Value} (h : W.ownsRow m e size v n xs) {k : Nat} (hk : v.ownBlock = some k) : m ≤ k := (own_block_lt h hk).1
/-- The box alone has changed. -/
theorem Rp.put {w W W' : World} {N : Nat} {s s' : St} {pre : List SlV} {v : Value} (h : Rp w W N s pre v) (hs : Rb W' N s') (hc : Ch W W' (fun k => k = N)) : Rp w W' N s' pre v :=
  ⟨hs, (hc.cblk _ h.rz.lt (by omega)).trans h.rz, own_row h.rr (fun k cs e hh => hc.cblk k (txt_lt hh) (by have := row_ge h.rr e; omega)), hc.below h.rb (by have := h.sz; omega) (fun k e => by omega), h.rN⟩
theorem ch_set9 (w : World) (g : Nat) (s : St) : Ch w (set9 w g s) (fun k => k = g) := by
  have t : ∀ {A B : World} (i : Nat) (v : Value), Ch A B (fun k => k = g) → Ch A (B.setCell ⟨g, i, none⟩ v) (fun k => k = g) := fun i v h => h.trans (ch_set _ g i v) (fun _ _ h => h)
  unfold set9
  exact t _ _ (t _ _ (t _ _ (t _ _ (t _ _ (t _ _ (t _ _ (t _ _ (ch_set _ _ _ _))))))))
theorem byte_at (b : Tx) (k : Nat) (h : k < b.length) (hl : b.length ≤ 1000000) (w : World) : (Instr.slice 9 (.string (str b)) (some (.int .i64 (k : Int))) (some (.int .i64 ((k : Int) + 1))) none).run Try.prog w = .ok (.string (str [b[k]])) w := by
  have hz := str_size b
  rw [run_slice_string (P := Try.prog) w 9 (str b) .i64 .i64 (k : Int) ((k : Int) + 1) und9 (by omega) (by omega) (by rw [hz]; omega)]
  have e1 : (k : Int).toNat = k := by omega
  have e2 : ((k : Int) + 1).toNat = k + 1 := by omega
  rw [e1, e2, extract_mid]
  have e3 : mid b k (k + 1) = [b[k]] := by
    unfold mid
    rw [List.take_succ_eq_append_getElem h, List.drop_append_of_le_length (by simp; omega)]
    simp
  rw [e3]
/-- One line more was told. -/
theorem Rp.tells {w W W1 W2 : World} {N : Nat} {s : St} {pre : List SlV} {v v2 : Value} (h : Rp w W N s pre v) (hb : Below W.heap.size W W1) (x : SlV) (hown : W2.ownsRow (N + 2) 49 3 v2 (pre.length + 1) ((pre.map SlV.sl).flatMap rcells ++ rcells x.sl)) (hg : W1.grownBy W2 v.ownBlock) : Rp w W2 N s (pre ++ [x]) v2 := by
  have h1 := h.keep hb
  have hk : ∀ k, k < N + 2 → W2.heap[k]? = W1.heap[k]? := fun k hk => hg.block k (by have := h1.sz; omega) (fun e => by have := row_ge h1.rr e.symm; omega)
  refine ⟨(hk _ (by omega)).trans h1.rs, (hk _ (by omega)).trans h1.rz, ?_, h1.rb.grown hg (by have := h1.sz; omega) (fun q e => by have := row_ge h1.rr e; omega), h.rN⟩
  have e1 : ((pre ++ [x]).map SlV.sl).flatMap rcells = (pre.map SlV.sl).flatMap rcells ++ rcells x.sl := by simp
  have e2 : (pre ++ [x]).length = pre.length + 1 := by simp
  rw [e1, e2]
  exact hown
/-- The result, stored. -/
theorem Rp.done {w W : World} {N : Nat} {s : St} {pre : List SlV} {v : Value} (h : Rp w W N s pre v) : Rb (set9 W (N + 1) s) (N + 1) s ∧ GivesR w (s, pre.map SlV.sl) (.returned (.tuple #[rv s, v])) (set9 W (N + 1) s) := by
  have hc := ch_set9 W (N + 1) s
  have hN := h.rN
  refine ⟨set9_rb h.rz s, v, rfl, ?_, set9_below (h.rb.mono (by omega)) (by omega)⟩
  rw [List.length_map]
  exact own_base (own_row h.rr (fun k cs e hh => hc.cblk k (txt_lt hh) (by have := row_ge h.rr e; omega))) (by omega)
set_option maxHeartbeats 4000000 in
theorem rsfeed_any (w : World) (s : St) (ho : s.over = false) (n : Nat) (hv : Rv n s.w) (hn : n ≤ 100000) (hh : s.hunt ≤ 100000) (hnum : s.num ≤ 100000) (hoff : s.off ≤ 100000) (b : Tx) (hl : b.length ≤ 100000) :
    Calls Try.prog 16 #[rv s, .string (str b)] w (GivesR w (s.feed b)) := by
  obtain ⟨i0, hi, hz0, hz1, hz2⟩ := info_parts infoR
  have HG := Lib.hid (goes_start ho b)
  have hhl : s.w.held.length ≤ 100000 := by have := hv.rinv.came; omega
  have HRV := Lib.hid hv
  have hbz := str_size b
  clear hv
  go_enter Try.func16, Try.ntmps16
  go_wp2_with fail
  obtain ⟨y, hy, HB, HZ, hby, hys⟩ := two_new w s
  rw [show ((w.alloc (.cells #[.string (str s.w.held), .int .i64 (s.w.room : Int), .int .i64 (s.w.move : Int), .int .i64 (s.most : Int), .int .i64 (s.num : Int), .int .i64 (s.off : Int), .int .i64 (s.hunt : Int), .bool false, .int .i64 (errOf s)] 33)).alloc (.cells #[.string { data := #[] }, .int .i64 0, .int .i64 0, .int .i64 0, .int .i64 0, .int .i64 0, .int .i64 0, .bool false, .int .i64 0] 33)) = y from by rw [← hy, ho]]
  have HRP : Hid (Rp w y w.heap.size s [] (.slice none 0 0)) := Lib.hid ⟨HB, HZ, World.ownsRow_nil _ _ _ _, hby, rfl⟩
  clear hy HB HZ hby hys
  generalize w.heap.size = N at *
  go_loopw [6, 7, 8] (fun v pt i wr => ∃ (k f : Nat) (s' : St) (pre : List SlV) (n' : Nat), k ≤ b.length ∧ i = .int .i64 (k : Int) ∧ f ≤ k ∧ pt = .string (str (mid b f k)) ∧ Hid (Rp w wr N s' pre v) ∧ Hid (Rv n' s'.w) ∧ n' ≤ n + f ∧ s'.hunt ≤ s.hunt + k ∧ s'.num ≤ s.num + k ∧ s'.off + s'.w.held.length + (k - f) ≤ s.off + s.w.held.length + k ∧ pre.length ≤ k ∧ Hid (Goes s s' b f k pre)) (fun _ _ i _ => b.length - (intOf i).toNat)
  case atStart => exact ⟨0, 0, s, [], n, Nat.zero_le _, rfl, Nat.le_refl _, by rw [mid_self]; rfl, HRP, HRV, Nat.le_refl _, Nat.le_refl _, Nat.le_refl _, by omega, Nat.le_refl _, HG⟩
  case round =>
    clear HRP HRV HG
    obtain ⟨k, f, s1, pre, n1, hk, rfl, hfk, rfl, HRP, HRV, hn1, hh1, hnum1, hoff1, hp1, HG⟩ := hrel
    generalize u6 = v at *
    have hhl1 : s1.w.held.length ≤ 200000 := by have := HRV.out.rinv.came; omega
    have hml := mid_len b f k hk
    have hszN := HRP.out.sz
    obtain ⟨c0, c1, c2, c3, c4, c5, c6, c7, c8⟩ := HRP.out.rs.cells
    have fb := HRP.out.rs.free
    by_cases hlt : k < b.length
    · have hix := str_at b k hlt
      have HR1 : Hid (Rp w (wr.setCell ⟨N, 6, none⟩ (.int .i64 ((s1.hunt : Int) + 1))) N { s1 with hunt := s1.hunt + 1 } pre v) := Lib.hid (HRP.out.put (HRP.out.rs.hunt) (ch_set _ _ _ _))
      by_cases h10 : b[k] = 10
      · have htt : ((b[k].toNat : Int) == 10) = true := by rw [u8_ten]; simp [h10]
        have H10 := Lib.hid h10
        clear h10
        have hsm : Hid (Small { s1 with hunt := s1.hunt + 1 }) := Lib.hid ⟨by simp only; omega, by have := HRV.out.rroom; simp only; omega, by have := HRV.out.rinv.most; simp only; omega, by simp only; omega, by simp only; omega, by simp only; omega⟩
        have hNs : N + 2 ≤ (wr.setCell ⟨N, 6, none⟩ (.int .i64 ((s1.hunt : Int) + 1))).heap.size := HR1.out.sz
        go_wp2_with fail
        clear c0 c1 c2 c3 c4 c5 c6 c7 c8 fb
        generalize wr.setCell ⟨N, 6, none⟩ (.int .i64 ((s1.hunt : Int) + 1)) = x0 at *
        refine (rsline_any x0 { s1 with hunt := s1.hunt + 1 } hsm.out (mid b f k) (by omega)).mono ?_
        rintro e x1 ⟨rfl, hb1⟩
        rw [show ({ s1 with hunt := s1.hunt + 1 } : St).told (mid b f k) = s1.told (mid b f k) from rfl]
        obtain ⟨q, hq⟩ : ∃ q, q = ({ s1 with hunt := s1.hunt + 1 } : St).line (mid b f k) := ⟨_, rfl⟩
        obtain ⟨td, htd⟩ : ∃ td, td = s1.told (mid b f k) := ⟨_, rfl⟩
        rw [← hq, ← htd]
        have HQ := Lib.hid hq
        have HTD := Lib.hid htd
        have HR2 := Lib.hid (HR1.out.keep hb1)
        have hN1 : N < x1.heap.size := by have := hb1.size; omega
        clear hq htd hb1 HR1 hNs HRP hsm
        rw [show rv q = .agg #[.string (str q.w.held), .int .i64 (q.w.room : Int), .int .i64 (q.w.move : Int), .int .i64 (q.most : Int), .int .i64 (q.num : Int), .int .i64 (q.off : Int), .int .i64 (q.hunt : Int), .bool q.over, .int .i64 (errOf q)] from rfl, show rl td = .agg #[.int .i64 (td.num : Int), .int .i64 (td.off : Int), .string (str td.text)] from rfl]
        dsimp only
        iterate 24 (first | go_values | go_step)
        obtain ⟨z, hz, hq9, ht3, hbz, hzs⟩ := res_new x1 q td
        rw [hz]
        have HR3 := HR2.out.keep hbz
        obtain ⟨c0, c1, c2, c3, c4, c5, c6, c7, c8⟩ := HR3.rs.cells
        have fb := HR3.rs.free
        obtain ⟨d0, d1, d2, d3, d4, d5, d6, d7, d8⟩ := hq9.cells
        have HR3h := Lib.hid HR3
        have HT3 := Lib.hid ht3
        clear hz hq9 ht3 hbz hzs HR3
        iterate 12 (first | go_values | go_step)
        obtain ⟨z2, hz2⟩ : ∃ z2, z2 = set9 z N q := ⟨_, rfl⟩
        rw [show (((((((((z.setCell ⟨N, 0, none⟩ (.string (str q.w.held))).setCell ⟨N, 1, none⟩ (.int .i64 (q.w.room : Int))).setCell ⟨N, 2, none⟩ (.int .i64 (q.w.move : Int))).setCell ⟨N, 3, none⟩ (.int .i64 (q.most : Int))).setCell ⟨N, 4, none⟩ (.int .i64 (q.num : Int))).setCell ⟨N, 5, none⟩ (.int .i64 (q.off : Int))).setCell ⟨N, 6, none⟩ (.int .i64 (q.hunt : Int))).setCell ⟨N, 7, none⟩ (.bool q.over)).setCell ⟨N, 8, none⟩ (.int .i64 (errOf q))) = z2 from hz2.symm]
        have hr4 : Rp w z2 N q pre v := by rw [hz2]; exact HR3h.out.put (set9_rb HR3h.out.rs q) (ch_set9 _ _ _)
        have ht4 : Blk3 z2 (x1.heap.size + 1) 49 (.int .i64 (td.num : Int)) (.int .i64 (td.off : Int)) (.string (str td.text)) := by rw [hz2]; exact (set9_other (by omega)).trans HT3.out
        obtain ⟨g0, g1, g2⟩ := ht4.cells
        have HR4 := Lib.hid hr4
        clear c0 c1 c2 c3 c4 c5 c6 c7 c8 fb d0 d1 d2 d3 d4 d5 d6 d7 d8 hz2 hr4 ht4 HR3h HT3 HR2
        go_wp2_with (at_builtin; refine wpList_append_own _ rfl (.tmp 36) (.tmp 38) 36 rfl (N + 2) 49 i0 (.agg #[.int .i64 0, .int .i64 0, .string ByteArray.empty]) 3 32 Try.underlying36 hi hz0 hz1 hz2 rfl (by decide) v pre.length ((pre.map SlV.sl).flatMap rcells) rfl (HR4.out.rr.alloc _) ⟨z2.heap.size, 0, none⟩ 1 1 (rcells td) rfl rfl (cells_new3 _ _ _ _ _) (by simp [rcells, Value.oneCell']) (by unfold maxLen; omega) (by omega) (by have := HR4.out.sz; simp; omega) ?_; intro v2 w3 hown3 hg3 _)
        obtain ⟨m, hm1, hm2⟩ := line_rv (s := { s1 with hunt := s1.hunt + 1 }) HRV.out (mid b f k)
        have hhe := line_len { s1 with hunt := s1.hunt + 1 } (mid b f k)
        have hof : (({ s1 with hunt := s1.hunt + 1 } : St).line (mid b f k)).off = s1.off + (s1.w.held.length + (k - f)) + 1 := by
          show s1.off + (s1.w.held ++ mid b f k).length + 1 = _
          rw [List.length_append, hml]
        have hnu : (({ s1 with hunt := s1.hunt + 1 } : St).line (mid b f k)).num = s1.num + 1 := rfl
        have hhu : (({ s1 with hunt := s1.hunt + 1 } : St).line (mid b f k)).hunt = s1.hunt + 1 := rfl
        rw [← HQ.out] at hm1 hhe hof hnu hhu
        have hmw : m ≤ n1 + (k - f) := by rw [hml] at hm2; exact hm2
        go_roundw
        case rel =>
          refine ⟨k + 1, k + 1, q, pre ++ [⟨td, none, 0⟩], m, hlt, by go_num, Nat.le_refl _, by rw [mid_self]; rfl, Lib.hid (HR4.out.tells (Met.below_new _ _) ⟨td, none, 0⟩ hown3 hg3), Lib.hid hm1, by omega, by omega, by omega, ?_, by simp; omega, Lib.hid (by rw [HQ.out]; exact HG.out.ten hlt H10.out ⟨td, none, 0⟩ HTD.out)⟩
          rw [hof, hhe]; simp only [List.length_nil]; omega
        case measure => simp [intOf]; omega
      · have htt : ((b[k].toNat : Int) == 10) = false := by rw [u8_ten]; simp [h10]
        have H10 := Lib.hid h10
        clear h10
        have hbt := byte_at b k hlt (by omega)
        have hap : str (mid b f k) ++ str [b[k]] = str (mid b f (k + 1)) := by rw [Win.str_add, mid_snoc b f k hfk hlt]
        have hsp := str_size (mid b f (k + 1))
        have hsp0 := str_size (mid b f k)
        have hsp1 : (str [b[k]]).size = 1 := str_size [b[k]]
        have hml2 := mid_len b f (k + 1) hlt
        have hsh := str_size s1.w.held
        have e1 : (((mid b f (k + 1)).length : Nat) : Int) = (k : Int) + 1 - (f : Int) := by omega
        by_cases hlg : s1.most < s1.w.held.length + (k - f) + 1
        · have hge : (s1.most : Int) < (s1.w.held.length : Int) + ((k : Int) + 1 - (f : Int)) := by omega
          have HLG := Lib.hid hlg
          clear hlg
          obtain ⟨d0, d1, d2, d3, d4, d5, d6, d7, d8⟩ := HRP.out.rz.cells
          have fr := HRP.out.rz.free
          go_wp2_with fail
          have hfd := HG.out.long hlt H10.out HLG.out
          have hR3 := HR1.out.put (s' := St.fail { s1 with hunt := s1.hunt + 1 }) (HR1.out.rs.fail) ((ch_set _ _ _ _).trans (ch_set _ _ _ _) (fun _ _ h => h))
          obtain ⟨hzb, hgr⟩ := hR3.done
          rw [hfd]
          change bodyPost _ _ _ _ _ (set9 (((wr.setCell ⟨N, 6, none⟩ (.int .i64 ((s1.hunt : Int) + 1))).setCell ⟨N, 7, none⟩ (.bool true)).setCell ⟨N, 8, none⟩ (.int .i64 15)) (N + 1) (St.fail { s1 with hunt := s1.hunt + 1 }))
          generalize set9 (((wr.setCell ⟨N, 6, none⟩ (.int .i64 ((s1.hunt : Int) + 1))).setCell ⟨N, 7, none⟩ (.bool true)).setCell ⟨N, 8, none⟩ (.int .i64 15)) (N + 1) (St.fail { s1 with hunt := s1.hunt + 1 }) = zf at *
          generalize St.fail { s1 with hunt := s1.hunt + 1 } = q at *
          obtain ⟨k0, k1, k2, k3, k4, k5, k6, k7, k8⟩ := hzb.cells
          exact bodyPost_ret (v := .tuple #[rv q, v]) (by simp [results, Try.results16, go_sem, k0, k1, k2, k3, k4, k5, k6, k7, k8]) rfl hgr
        · have hge : ¬ (s1.most : Int) < (s1.w.held.length : Int) + ((k : Int) + 1 - (f : Int)) := by omega
          have HLG := Lib.hid hlg
          clear hlg
          go_wp2_with fail
          go_roundw
          case rel =>
            refine ⟨k + 1, f, { s1 with hunt := s1.hunt + 1 }, pre, n1, hlt, by go_num, by omega, rfl, HR1, HRV, hn1, ?_, ?_, ?_, by omega, Lib.hid (HG.out.byte hlt hfk H10.out (by have := HLG.out; omega))⟩
            · show s1.hunt + 1 ≤ _; omega
            · show s1.num ≤ _; omega
            · show s1.off + s1.w.held.length + (k + 1 - f) ≤ _; omega
          case measure => simp [intOf]; omega
    · obtain rfl : k = b.length := by omega
      go_wp2_with fail
      refine (Win.rwadd_any wr s1.w (mid b f b.length) (by omega) (by have := HRV.out.rroom; omega) (by have := HRV.out.rinv.most; omega) (by omega)).mono ?_
      rintro e x1 ⟨rfl, hb1⟩
      obtain ⟨xw, hxw⟩ : ∃ xw, xw = s1.w.add (mid b f b.length) := ⟨_, rfl⟩
      rw [← hxw, show Win.wv xw = .agg #[.string (str xw.held), .int .i64 (xw.room : Int), .int .i64 (xw.move : Int)] from rfl]
      have HR2 := Lib.hid (HRP.out.keep hb1)
      have HXW := Lib.hid hxw
      clear c0 c1 c2 c3 c4 c5 c6 c7 c8 fb hb1 hxw HRP
      obtain ⟨c0, c1, c2, c3, c4, c5, c6, c7, c8⟩ := HR2.out.rs.cells
      have fb := HR2.out.rs.free
      obtain ⟨d0, d1, d2, d3, d4, d5, d6, d7, d8⟩ := HR2.out.rz.cells
      have fr := HR2.out.rz.free
      go_wp2_with fail
      have hfd := HG.out.ends
      rw [← HXW.out] at hfd
      have hR3 := HR2.out.put (s' := { s1 with w := xw }) (HR2.out.rs.win xw) (((ch_set _ _ _ _).trans (ch_set _ _ _ _) (fun _ _ h => h)).trans (ch_set _ _ _ _) (fun _ _ h => h))
      obtain ⟨hzb, hgr⟩ := hR3.done
      rw [hfd]
      change bodyPost _ _ _ _ _ (set9 (((x1.setCell ⟨N, 0, none⟩ (.string (str xw.held))).setCell ⟨N, 1, none⟩ (.int .i64 (xw.room : Int))).setCell ⟨N, 2, none⟩ (.int .i64 (xw.move : Int))) (N + 1) { s1 with w := xw })
      generalize set9 (((x1.setCell ⟨N, 0, none⟩ (.string (str xw.held))).setCell ⟨N, 1, none⟩ (.int .i64 (xw.room : Int))).setCell ⟨N, 2, none⟩ (.int .i64 (xw.move : Int))) (N + 1) { s1 with w := xw } = zf at *
      generalize ({ s1 with w := xw } : St) = q at *
      obtain ⟨k0, k1, k2, k3, k4, k5, k6, k7, k8⟩ := hzb.cells
      exact bodyPost_ret (v := .tuple #[rv q, v]) (by simp [results, Try.results16, go_sem, k0, k1, k2, k3, k4, k5, k6, k7, k8]) rfl hgr
end Go.Proofs.Ytcekifknbljbiaa.Str
