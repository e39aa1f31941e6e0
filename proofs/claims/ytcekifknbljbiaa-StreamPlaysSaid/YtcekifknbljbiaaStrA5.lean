/- What Feed answers. -/
import Derived.Test.YtcekifknbljbiaaStrA4
namespace Go.Proofs.Ytcekifknbljbiaa.Str
open Go.Proofs.Ytcekifknbljbiaa.Stm Go.Proofs.Ytcekifknbljbiaa.Reg Go.RowKit Go.Maps
set_option maxRecDepth 100000
set_option linter.unusedVariables false

/-- A byte was counted. -/
theorem Sm.counted {W0 W W' : World} {p g : Nat} {mp : Option Addr} {d : Option Nat} {s : St} (h : Sm W0 W p mp g d s) (hM : Met.Mt W' mp 0 0 ((s.hunt : Int) + 1) (s.w.move : Int)) (hg : W.grownBy W' (Met.blk mp)) : Sm W0 W' p mp g d { s with hunt := s.hunt + 1 } ∧ Ch W W' (Own p g d mp) := by
  have hc : Ch W W' (fun k => Met.blk mp = some k) := Ch.of_grown hg (fun k e _ => e)
  have hk : ∀ k, k < W.heap.size → Met.blk mp ≠ some k → W'.heap[k]? = W.heap[k]? := fun k hl e => hc.cblk k hl e
  refine ⟨⟨h.sblk.same (hk p h.sblk.lt (fun e => (h.sm0 p e).2.1 rfl)), h.swd.same (hk g h.sgl (fun e => (h.sm0 g e).2.2.1 rfl)) (fun k e => hk k (h.sdl k e) (fun e2 => (h.sm0 k e2).2.2.2 e)), ?_, hc.below h.sbel h.sbel.size (fun k e => (h.sm0 k e).1), h.sp0, h.sg0, h.sd0, h.sm0, h.spg, h.spd, Nat.lt_of_lt_of_le h.sgl hc.csize, fun k e => Nat.lt_of_lt_of_le (h.sdl k e) hc.csize⟩, hc.more (fun k e => .inr (.inr (.inr e)))⟩
  have e : (((s.hunt + 1 : Nat)) : Int) = (s.hunt : Int) + 1 := by omega
  rw [e]
  exact hM
/-- Lines that were told, in memory of the call's own. -/
def Gave (w w' : World) (p g : Nat) (d : Option Nat) (mp : Option Addr) (v : Value) (xs : List SlV) : Prop :=
  w'.ownsRow w.heap.size 47 3 v xs.length (xs.flatMap scells) ∧ ∀ x ∈ xs, Txt w' w.heap.size x.a x.sl.text ∧ Ap p g d mp x.a x.sl.text
/-- What a call of Feed gives. -/
def GivesFeed (W0 w : World) (p : Nat) (mp : Option Addr) (g : Nat) (d : Option Nat) (s : St) (b : Tx) (e : Ending) (w' : World) : Prop :=
  ∃ v xs d', e = .returned v ∧ xs.map SlV.sl = (s.feed b).2 ∧ Gave w w' p g d' mp v xs ∧ Nd w d d' ∧ Sm W0 w' p mp g d' (s.feed b).1 ∧ Ch w w' (Own p g d mp)
theorem Lp.gives {W0 w W : World} {N p g : Nat} {mp : Option Addr} {d0 d : Option Nat} {s0 s : St} {a : Option Addr} {b : Tx} {c f : Nat} {pre : List SlV} {v : Value} (h : Lp W0 w W N p mp g d0 d s a b c f pre v) (h1 : (s0.feed b).1 = s) (h2 : (s0.feed b).2 = pre.map SlV.sl) : GivesFeed W0 w p mp g d0 s0 b (.returned v) W := by
  have hN := h.lN
  refine ⟨v, pre, d, rfl, h2.symm, ⟨own_base h.lr (by omega), fun x hx => ⟨(h.lx x hx).1.less (by omega), (h.lx x hx).2⟩⟩, h.lnd, ?_, h.lch⟩
  rw [h1]
  exact h.lm
theorem sfeed_none (w : World) (a : Option Addr) (n c : Nat) : Calls Try.prog 15 #[.pointer none, .slice a n c] w fun e w' => e = .returned (.slice none 0 0) ∧ Below w.heap.size w w' := by
  go_enter Try.func15, Try.ntmps15
  go_wp2_with fail
  go_ret
  exact ⟨rfl, ((Below.refl _ _).alloc (Nat.le_refl _) _).alloc (by simp) _⟩
theorem sfeed_over (W0 w : World) (p : Nat) (mp : Option Addr) (g : Nat) (d : Option Nat) (s : St) (h : Sm W0 w p mp g d s) (ho : s.over = true) (b : Tx) (a : Option Addr) (n c : Nat) :
    Calls Try.prog 15 #[.pointer (some ⟨p, 0, none⟩), .slice a n c] w (GivesFeed W0 w p mp g d s b) := by
  have c6 := h.sblk.cells.2.2.2.2.2.2
  rw [ho] at c6
  have hpl := h.sblk.lt
  have H := Lib.hid h
  have HO := Lib.hid ho
  clear h ho
  go_enter Try.func15, Try.ntmps15
  go_wp2_with fail
  go_ret
  have hb := ((Below.refl w.heap.size w).alloc (Nat.le_refl _) (.cells #[.pointer (some ⟨p, 0, none⟩)] 27)).alloc (by simp) (.cells #[.slice a n c] 38)
  have hf : s.feed b = (s, []) := by rw [St.feed, if_pos HO.out]
  refine ⟨_, [], d, rfl, by rw [hf]; rfl, ⟨World.ownsRow_nil _ _ _ _, fun x hx => by cases hx⟩, .inl rfl, ?_, Ch.of_below hb⟩
  rw [hf]
  exact H.out.keep hb
/-- The first of all. -/
theorem lp_start {W0 w : World} {p g : Nat} {mp : Option Addr} {d : Option Nat} {s : St} {a : Option Addr} {b : Tx} {c : Nat} (h : Sm W0 w p mp g d s) (hb : Bx w p g d mp a b) :
    Lp W0 w ((((w.alloc (.cells #[.pointer (some ⟨p, 0, none⟩)] 27)).alloc (.cells #[.slice a b.length c] 38)).alloc (.cells #[.slice none 0 0] 35)).alloc (.cells #[.int .i64 0] 3)) w.heap.size p mp g d d s a b c 0 [] (.slice none 0 0) := by
  have e1 := Boxed.new w 27 (.pointer (some ⟨p, 0, none⟩))
  have hs1 : (w.alloc (.cells #[.pointer (some ⟨p, 0, none⟩)] 27)).heap.size = w.heap.size + 1 := by simp
  have b1 := Met.below_new w (.cells #[.pointer (some ⟨p, 0, none⟩)] 27)
  generalize w.alloc (.cells #[.pointer (some ⟨p, 0, none⟩)] 27) = w1 at *
  have e2 := Boxed.new w1 38 (.slice a b.length c)
  have hs2 : (w1.alloc (.cells #[.slice a b.length c] 38)).heap.size = w1.heap.size + 1 := by simp
  have b2 := Met.below_new w1 (.cells #[.slice a b.length c] 38)
  generalize w1.alloc (.cells #[.slice a b.length c] 38) = w2 at *
  have e3 := Boxed.new w2 35 (.slice none 0 0)
  have hs3 : (w2.alloc (.cells #[.slice none 0 0] 35)).heap.size = w2.heap.size + 1 := by simp
  have b3 := Met.below_new w2 (.cells #[.slice none 0 0] 35)
  generalize w2.alloc (.cells #[.slice none 0 0] 35) = w3 at *
  have e4 := Boxed.new w3 3 (.int .i64 0)
  have hs4 : (w3.alloc (.cells #[.int .i64 0] 3)).heap.size = w3.heap.size + 1 := by simp
  have b4 := Met.below_new w3 (.cells #[.int .i64 0] 3)
  generalize w3.alloc (.cells #[.int .i64 0] 3) = w4 at *
  have b34 := b3.trans (b4.mono b3.size)
  have b24 := b2.trans (b34.mono b2.size)
  have b14 := b1.trans (b24.mono b1.size)
  have f1 : w1.heap.size = w.heap.size + 1 := hs1
  have f2 : w2.heap.size = w.heap.size + 2 := by omega
  have f3 : w3.heap.size = w.heap.size + 3 := by omega
  rw [f1] at e2
  rw [f2] at e3
  rw [f3] at e4
  refine ⟨(b24.block _ (by omega)).trans e1, (b34.block _ (by omega)).trans e2, (b4.block _ (by omega)).trans e3, e4, World.ownsRow_nil _ _ _ _, (fun x hx => by cases hx), h.keep b14, hb.keep b14, fun h0 ad e => bs_at hb.1 h0 e, Ch.of_below b14, .inl rfl, rfl, fun k e => h.ownl e, by omega⟩
/-- How the words go on: a newline, a byte of a line, a byte too many, the end. -/
theorem go_ten (s : St) (part : Tx) (t : Tx) : s.go part (10 :: t) = (((({ s with hunt := s.hunt + 1 } : St).line part).go [] t).1, s.told part :: ((({ s with hunt := s.hunt + 1 } : St).line part).go [] t).2) := by
  rw [St.go, if_pos rfl]
theorem go_byte (s : St) (part : Tx) (c : UInt8) (t : Tx) (h : c ≠ 10) (hm : s.w.held.length + part.length + 1 ≤ s.most) : s.go part (c :: t) = ({ s with hunt := s.hunt + 1 } : St).go (part ++ [c]) t := by
  rw [St.go, if_neg h, if_neg (by omega)]
theorem go_long (s : St) (part : Tx) (c : UInt8) (t : Tx) (h : c ≠ 10) (hm : s.most < s.w.held.length + part.length + 1) : s.go part (c :: t) = (St.fail { s with hunt := s.hunt + 1 }, []) := by
  rw [St.go, if_neg h, if_pos hm]; rfl
/-- The words behind the first k bytes. -/
def Goes (s0 s : St) (b : Tx) (f k : Nat) (pre : List SlV) : Prop := s0.feed b = ((s.go (mid b f k) (b.drop k)).1, pre.map SlV.sl ++ (s.go (mid b f k) (b.drop k)).2)
theorem goes_start {s : St} (h : s.over = false) (b : Tx) : Goes s s b 0 0 [] := by
  unfold Goes
  rw [St.feed, h, mid_self]; rfl
theorem Goes.ten {s0 s : St} {b : Tx} {f k : Nat} {pre : List SlV} (h : Goes s0 s b f k pre) (hk : k < b.length) (h10 : b[k] = 10) (x : SlV) (hx : x.sl = s.told (mid b f k)) : Goes s0 (({ s with hunt := s.hunt + 1 } : St).line (mid b f k)) b (k + 1) (k + 1) (pre ++ [x]) := by
  unfold Goes at h ⊢
  rw [h, List.drop_eq_getElem_cons hk, h10, go_ten, mid_self]
  simp [hx]
theorem Goes.byte {s0 s : St} {b : Tx} {f k : Nat} {pre : List SlV} (h : Goes s0 s b f k pre) (hk : k < b.length) (hf : f ≤ k) (h10 : b[k] ≠ 10) (hm : s.w.held.length + (k - f) + 1 ≤ s.most) : Goes s0 { s with hunt := s.hunt + 1 } b f (k + 1) pre := by
  unfold Goes at h ⊢
  rw [h, List.drop_eq_getElem_cons hk, go_byte _ _ _ _ h10 (by rw [mid_len b f k (by omega)]; exact hm), mid_snoc b f k hf hk]
theorem Goes.long {s0 s : St} {b : Tx} {f k : Nat} {pre : List SlV} (h : Goes s0 s b f k pre) (hk : k < b.length) (h10 : b[k] ≠ 10) (hm : s.most < s.w.held.length + (k - f) + 1) : s0.feed b = (St.fail { s with hunt := s.hunt + 1 }, pre.map SlV.sl) := by
  unfold Goes at h
  rw [h, List.drop_eq_getElem_cons hk, go_long _ _ _ _ h10 (by rw [mid_len b f k (by omega)]; exact hm)]
  simp
theorem Goes.ends {s0 s : St} {b : Tx} {f : Nat} {pre : List SlV} (h : Goes s0 s b f b.length pre) : s0.feed b = ({ s with w := s.w.add (mid b f b.length) }, pre.map SlV.sl) := by
  unfold Goes at h
  rw [h, List.drop_length, St.go]
  simp
theorem line_len (s : St) (part : Tx) : (s.line part).w.held = [] := by
  unfold St.line
  simp only
  split
  · assumption
  · rfl
theorem line_rv {n : Nat} {s : St} (h : Rv n s.w) (part : Tx) : ∃ m, Rv m (s.line part).w ∧ m ≤ n + part.length := by
  unfold St.line
  simp only
  split
  · exact ⟨n, h, by omega⟩
  · exact ⟨_, (h.add part).clear, Nat.le_refl _⟩
set_option maxHeartbeats 4000000 in
theorem sfeed_any (W0 w : World) (p : Nat) (mp : Option Addr) (g : Nat) (d : Option Nat) (s : St) (h : Sm W0 w p mp g d s) (ho : s.over = false) (hbad : s.bad = false) (n : Nat) (hv : Rv n s.w) (hn : n ≤ 100000) (hh : s.hunt ≤ 100000) (hnum : s.num ≤ 100000) (hoff : s.off ≤ 100000) (b : Tx) (a : Option Addr) (c : Nat) (hb : Bx w p g d mp a b) (hl : b.length ≤ 100000) (hbc : b.length ≤ c) (hac : a = none → c = 0) :
    Calls Try.prog 15 #[.pointer (some ⟨p, 0, none⟩), .slice a b.length c] w (GivesFeed W0 w p mp g d s b) := by
  have c6 := h.sblk.cells.2.2.2.2.2.2
  have c0 := h.sblk.cells.1
  rw [ho] at c6
  have hlp := lp_start (c := c) h hb
  have c00 := hlp.lm.sblk.cells.1
  have HLP := Lib.hid hlp
  clear hlp
  have HG := Lib.hid (goes_start ho b)
  have hhl : s.w.held.length ≤ 100000 := by have := hv.rinv.came; omega
  have HRV := Lib.hid hv
  have hpl := h.sblk.lt
  clear h hb hv
  go_enter Try.func15, Try.ntmps15
  go_wp2_with fail
  clear c6 c0 c00 hpl
  generalize w.heap.size = N at *
  simp only [Nat.add_assoc, Nat.reduceAdd]
  generalize ((((w.alloc (.cells #[.pointer (some ⟨p, 0, none⟩)] 27)).alloc (.cells #[.slice a b.length c] 38)).alloc (.cells #[.slice none 0 0] 35)).alloc (.cells #[.int .i64 0] 3)) = wz at *
  go_loopw [28] (fun i wr => ∃ (k f : Nat) (d' : Option Nat) (s' : St) (pre : List SlV) (v : Value) (n' : Nat), k ≤ b.length ∧ i = .int .i64 (k : Int) ∧ f ≤ k ∧ Hid (Lp W0 w wr N p mp g d d' s' a b c f pre v) ∧ s'.bad = false ∧ Hid (Rv n' s'.w) ∧ n' ≤ n + f ∧ s'.hunt = s.hunt + k ∧ s'.num ≤ s.num + k ∧ s'.off + s'.w.held.length + (k - f) ≤ s.off + s.w.held.length + k ∧ pre.length ≤ k ∧ Hid (Goes s s' b f k pre)) (fun i _ => b.length - (intOf i).toNat)
  case atStart => exact ⟨0, 0, d, s, [], .slice none 0 0, n, Nat.zero_le _, rfl, Nat.le_refl _, HLP, hbad, HRV, Nat.le_refl _, rfl, Nat.le_refl _, by omega, Nat.le_refl _, HG⟩
  case round =>
    clear HLP HRV HG hbad
    obtain ⟨k, f, d1, s1, pre, v, n1, hk, rfl, hfk, HLP, hbad, HRV, hn1, hh1, hnum1, hoff1, hp1, HG⟩ := hrel
    have hhl1 : s1.w.held.length ≤ 200000 := by have := HRV.out.rinv.came; omega
    have b0 := HLP.out.ls.cell
    have b1 := HLP.out.lc.cell
    by_cases hlt : k < b.length
    · have hkl : (k : Int) < (b.length : Int) := by omega
      have RD := Lib.hid (Met.read_in wr mp b a c HLP.out.lb.1 k hlt (by omega) 0 0 s1.hunt s1.w.move HLP.out.lm.smt (by omega) (by omega) (by omega) (by have := HRV.out.rinv.most; omega))
      by_cases h10 : b[k] = 10
      · have ht10 : ((b[k].toNat : Int) == 10) = true := by rw [u8_ten]; simp [h10]
        have H10 := Lib.hid h10
        clear h10
        go_wp2_with (first
          | (go_at_call 28; (with_reducible refine RD.out.mono ?_); rintro e x1 ⟨rfl, hM, hg⟩; have hsm := HLP.out.lm.counted hM hg; have HL1 := Lib.hid (HLP.out.ch hbad hsm.2 (.inl rfl) hsm.1); clear hM hg hsm)
          | (go_at_call 26; (with_reducible refine (tell_any W0 w x1 N p mp g d d1 { s1 with hunt := s1.hunt + 1 } a b c f pre v HL1.out hbad n1 HRV.out (by omega) (by simp only; omega) (by simp only; omega) (by simp only; omega) (by omega) hbc hac (by omega) k hfk (by omega)).mono ?_); rintro e x2 ⟨rfl, d2, x, v2, h2, hx⟩; have HL2 := Lib.hid h2; have HX := Lib.hid hx; clear h2 hx))
        have hml := mid_len b f k hk
        obtain ⟨m, hm1, hm2⟩ := line_rv (s := { s1 with hunt := s1.hunt + 1 }) HRV.out (mid b f k)
        have hhe := line_len { s1 with hunt := s1.hunt + 1 } (mid b f k)
        have hof : (({ s1 with hunt := s1.hunt + 1 } : St).line (mid b f k)).off = s1.off + (s1.w.held.length + (k - f)) + 1 := by
          show s1.off + (s1.w.held ++ mid b f k).length + 1 = _
          rw [List.length_append, hml]
        have hmw : m ≤ n1 + (k - f) := by rw [hml] at hm2; exact hm2
        go_roundw
        case rel =>
          refine ⟨k + 1, k + 1, d2, ({ s1 with hunt := s1.hunt + 1 } : St).line (mid b f k), pre ++ [x], v2, m, hlt, by go_num, Nat.le_refl _, HL2, hbad, Lib.hid hm1, by omega, ?_, ?_, ?_, by simp; omega, Lib.hid (HG.out.ten hlt H10.out x HX.out)⟩
          · show s1.hunt + 1 = _; omega
          · show s1.num + 1 ≤ _; omega
          · rw [hof, hhe]; simp only [List.length_nil]; omega
        case measure => simp [intOf]; omega
      · have ht10 : ((b[k].toNat : Int) == 10) = false := by rw [u8_ten]; simp [h10]
        have H10 := Lib.hid h10
        clear h10
        have hmst : s1.w.room ≤ 1000000000 := by have := HRV.out.rroom; omega
        by_cases hlg : s1.most < s1.w.held.length + (k - f) + 1
        · have hge : (s1.most : Int) ≤ (s1.w.held.length : Int) + (k : Int) - (f : Int) := by omega
          have HLG := Lib.hid hlg
          clear hlg
          go_wp2_with (first
            | (go_at_call 28; (with_reducible refine RD.out.mono ?_); rintro e x1 ⟨rfl, hM, hg⟩; have hsm := HLP.out.lm.counted hM hg; have hl1 := HLP.out.ch hbad hsm.2 (.inl rfl) hsm.1; have HL1 := Lib.hid hl1; clear hM hg hsm hl1))
          have q0 := HL1.out.ls.cell
          have q3 := HL1.out.lf.cell
          have hsb := HL1.out.lm.sblk.cells
          have hwp : wpOf g { s1 with hunt := s1.hunt + 1 } = some ⟨g, 0, none⟩ := by unfold wpOf; rw [if_neg (by rw [hbad]; decide)]
          rw [hwp] at hsb
          obtain ⟨_, d1', d2', _⟩ := hsb
          have LE := Lib.hid (fun (q : Nat) => slen_any W0 (x1.drewN q) p mp g d1 { s1 with hunt := s1.hunt + 1 } (HL1.out.lm.keep (below_drews (Below.refl _ _) q)) hbad hmst)
          go_quiet ((go_at_call 29; exact quietly (LE.out _)))
          have hlq := HL1.out.keep (below_drews (Below.refl _ _) nq)
          have HLQ := Lib.hid hlq
          clear hlq
          go_wp2_with (go_at_call 30; (with_reducible refine (sfail_any W0 _ p mp g d1 _ HLQ.out.lm).mono ?_); rintro e x2 ⟨rfl, hsm2, hch2⟩; have hl2 := HLQ.out.ch hbad (hch2.more (fun k e => .inl e)) (.inl rfl) hsm2; have t2 := hl2.lt.cell; have HL2 := Lib.hid hl2; clear hsm2 hch2 hl2)
          go_ret
          have hfd := HG.out.long hlt H10.out HLG.out
          exact HL2.out.gives (by rw [hfd]) (by rw [hfd])
        · have hge : ¬ (s1.most : Int) ≤ (s1.w.held.length : Int) + (k : Int) - (f : Int) := by omega
          have HLG := Lib.hid hlg
          clear hlg
          go_wp2_with (first
            | (go_at_call 28; (with_reducible refine RD.out.mono ?_); rintro e x1 ⟨rfl, hM, hg⟩; have hsm := HLP.out.lm.counted hM hg; have hl1 := HLP.out.ch hbad hsm.2 (.inl rfl) hsm.1; have HL1 := Lib.hid hl1; clear hM hg hsm hl1))
          have q0 := HL1.out.ls.cell
          have q3 := HL1.out.lf.cell
          have hsb := HL1.out.lm.sblk.cells
          have hwp : wpOf g { s1 with hunt := s1.hunt + 1 } = some ⟨g, 0, none⟩ := by unfold wpOf; rw [if_neg (by rw [hbad]; decide)]
          rw [hwp] at hsb
          obtain ⟨_, d1', d2', _⟩ := hsb
          have LE := Lib.hid (fun (q : Nat) => slen_any W0 (x1.drewN q) p mp g d1 { s1 with hunt := s1.hunt + 1 } (HL1.out.lm.keep (below_drews (Below.refl _ _) q)) hbad hmst)
          go_quiet ((go_at_call 29; exact quietly (LE.out _)))
          have HLQ := Lib.hid (HL1.out.keep (below_drews (Below.refl _ _) nq))
          go_wp2_with fail
          go_roundw
          case rel =>
            refine ⟨k + 1, f, d1, { s1 with hunt := s1.hunt + 1 }, pre, v, n1, hlt, by go_num, by omega, HLQ, hbad, HRV, hn1, ?_, ?_, ?_, by omega, Lib.hid (HG.out.byte hlt hfk H10.out (by have := HLG.out; omega))⟩
            · show s1.hunt + 1 = _; omega
            · show s1.num ≤ _; omega
            · show s1.off + s1.w.held.length + (k + 1 - f) ≤ _; omega
          case measure => simp [intOf]; omega
    · obtain rfl : k = b.length := by omega
      go_wp2_with fail
      have hwp : wpOf g s1 = some ⟨g, 0, none⟩ := by unfold wpOf; rw [if_neg (by rw [hbad]; decide)]
      have b2 := HLP.out.lm.sblk.cells.2.2.1
      rw [hwp] at b2
      have b3 := HLP.out.lf.cell
      have hml := mid_len b f b.length (Nat.le_refl _)
      obtain ⟨A, hA⟩ : ∃ A, A = (if c = f then a else a.map (fun x => x.add f)) := ⟨_, rfl⟩
      have HSL : Hid (∀ w : World, (Instr.slice 38 (.slice a b.length c) (some (.int .i64 (f : Int))) none none).run Try.prog w = .ok (.slice A (b.length - f) (c - f)) w) := Lib.hid (fun w => by rw [hA]; exact slice_tail a b.length c f hfk hbc hac w)
      have HBX : Hid (Bx wr.drew p g d1 mp A (mid b f b.length)) := Lib.hid (by rw [hA]; exact ((HLP.out.keep (below_drews (Below.refl _ _) 1)).lb.cut c f b.length hfk (Nat.le_refl _) hbc))
      have HWP := Lib.hid hwp
      clear hA hwp
      refine wp_region_held_drew (S := fun w' => w'.cell? ⟨N, 0, none⟩ = some (.pointer (some ⟨p, 0, none⟩)) ∧ w'.cell? ⟨N + 1, 0, none⟩ = some (.slice a b.length c) ∧ w'.cell? ⟨N + 3, 0, none⟩ = some (.int .i64 (f : Int)) ∧ w'.cell? ⟨p, 2, none⟩ = some (.pointer (some ⟨g, 0, none⟩))) (by kernel_rfl) ⟨b0, b1, b3, b2⟩ (fun hH0 => ?_)
      have HL0 : Hid (Lp W0 w wr.drew N p mp g d d1 s1 a b c f pre v) := Lib.hid (HLP.out.keep (below_drews (Below.refl _ _) 1))
      clear b0 b1 b2 b3 HLP
      generalize wr.drew = x0 at *
      refine held_take (i := 0) (d := 61) (oi := _) (v := ?_) rfl rfl (by kernel_rfl) (by kernel_rfl) (by kernel_rfl) (fun _ _ _ h => h) (Or.inl ⟨by rfl, ?_⟩) (by assumption) ?_
      rotate_left
      · (intro w hSw; obtain ⟨z0, z1, z3, z2⟩ := hSw; go_simp; (try with_reducible rfl))
      simp only [Act.put, List.setIfInBounds_toArray, List.set_cons_zero, List.set_cons_succ]
      refine held_take (i := 1) (d := 62) (oi := _) (v := ?_) rfl rfl (by kernel_rfl) (by kernel_rfl) (by kernel_rfl) (fun _ _ _ h => h) (Or.inl ⟨by rfl, ?_⟩) (by assumption) ?_
      rotate_left
      · (intro w hSw; obtain ⟨z0, z1, z3, z2⟩ := hSw; go_simp; (try with_reducible rfl))
      simp only [Act.put, List.setIfInBounds_toArray, List.set_cons_zero, List.set_cons_succ]
      refine held_take (i := 2) (d := 63) (oi := _) (v := ?_) rfl rfl (by kernel_rfl) (by kernel_rfl) (by kernel_rfl) (fun _ _ _ h => h) (Or.inl ⟨by rfl, ?_⟩) (by assumption) ?_
      rotate_left
      · (intro w hSw; obtain ⟨z0, z1, z3, z2⟩ := hSw; go_simp; (try with_reducible rfl))
      simp only [Act.put, List.setIfInBounds_toArray, List.set_cons_zero, List.set_cons_succ]
      refine held_take (i := 3) (d := 64) (oi := _) (v := ?_) rfl rfl (by kernel_rfl) (by kernel_rfl) (by kernel_rfl) (fun _ _ _ h => h) (Or.inl ⟨by rfl, ?_⟩) (by assumption) ?_
      rotate_left
      · (intro w hSw; obtain ⟨z0, z1, z3, z2⟩ := hSw; go_simp; (try with_reducible rfl))
      simp only [Act.put, List.setIfInBounds_toArray, List.set_cons_zero, List.set_cons_succ]
      refine held_take (i := 4) (d := 65) (oi := _) (v := ?_) rfl rfl (by kernel_rfl) (by kernel_rfl) (by kernel_rfl) (fun _ _ _ h => h) (Or.inl ⟨by rfl, ?_⟩) (by assumption) ?_
      rotate_left
      · (intro w hSw; obtain ⟨z0, z1, z3, z2⟩ := hSw; go_simp; (try with_reducible rfl))
      simp only [Act.put, List.setIfInBounds_toArray, List.set_cons_zero, List.set_cons_succ]
      refine held_take (i := 5) (d := 66) (oi := _) (v := ?_) rfl rfl (by kernel_rfl) (by kernel_rfl) (by kernel_rfl) (fun _ _ _ h => h) (Or.inl ⟨by rfl, ?_⟩) (by assumption) ?_
      rotate_left
      · (intro w hSw; obtain ⟨z0, z1, z3, z2⟩ := hSw; go_simp; (try with_reducible rfl))
      simp only [Act.put, List.setIfInBounds_toArray, List.set_cons_zero, List.set_cons_succ]
      refine held_take (i := 6) (d := 67) (oi := _) (v := ?_) rfl rfl (by kernel_rfl) (by kernel_rfl) (by kernel_rfl) (fun _ _ _ h => h) (Or.inl ⟨by rfl, ?_⟩) (by assumption) ?_
      rotate_left
      · (intro w hSw; obtain ⟨z0, z1, z3, z2⟩ := hSw; have hsl := HSL.out w; go_simp; (try with_reducible rfl))
      simp only [Act.put, List.setIfInBounds_toArray, List.set_cons_zero, List.set_cons_succ]
      refine wpAnyH_ready (rs := [7]) (by kernel_rfl) (by simp) ?_
      refine AllReadyH.cons rfl (fun K hK => ?_) AllReadyH.nil
      go_simp
      go_wp2_with (go_at_call 31; (with_reducible refine (HL0.out.lm.wadd hbad (by have := HRV.out.rroom; omega) (mid b f b.length) A (b.length - f) (c - f) hml HBX.out (by omega) (by omega) (by have := HRV.out.rinv.most; omega)).mono ?_); rintro e x1 ⟨rfl, d2, hd2, hs2, hc2⟩; have hl2 := HL0.out.ch hbad hc2 hd2 hs2; have HL2 := Lib.hid hl2; clear hd2 hs2 hc2 hl2)
      have t2 := HL2.out.lt.cell
      have b2 := HL2.out.lm.sblk.cells.2.2.1
      rw [show wpOf g { s1 with w := s1.w.add (mid b f b.length) } = some ⟨g, 0, none⟩ from HWP.out] at b2
      have hH1 : x1.cell? ⟨N, 0, none⟩ = some (.pointer (some ⟨p, 0, none⟩)) ∧ x1.cell? ⟨N + 1, 0, none⟩ = some (.slice a b.length c) ∧ x1.cell? ⟨N + 3, 0, none⟩ = some (.int .i64 (f : Int)) ∧ x1.cell? ⟨p, 2, none⟩ = some (.pointer (some ⟨g, 0, none⟩)) := ⟨HL2.out.ls.cell, HL2.out.lc.cell, HL2.out.lf.cell, b2⟩
      refine hK.out _ _ hH1 (fun _ => ?_)
      clear hK K
      refine wpAnyH_done (by kernel_rfl) ?_ _
      go_wp2_with fail
      go_ret
      have hfd := HG.out.ends
      exact HL2.out.gives (by rw [hfd]) (by rw [hfd])
end Go.Proofs.Ytcekifknbljbiaa.Str
