import Derived.Test.YtkooanahgffjgaaSa
/- An automaton in memory; New, States, Path. -/
namespace Go.Proofs.Ytkooanahgffjgaa.Spa
open Go.RowKit Go.Maps
open Go.Proofs.Ytkooanahgffjgaa.Tri Go.Proofs.Ytkooanahgffjgaa.Lnk
set_option maxRecDepth 100000
theorem own_adds {w w' : World} {base e size n : Nat} {v : Value} {xs : List Value} {q : Option Addr} {a b c d : Int} (h : w.ownsRow base e size v n xs) (hg : w.grownBy w' (Met.blk q)) (hM : Met.Mt w q a b c d) (he : e ≠ 56) : w'.ownsRow base e size v n xs := by
  refine h.kept hg ?_
  cases hv : v.ownBlock with
  | none => exact Or.inl rfl
  | some g =>
    obtain ⟨_, _, cs, hh⟩ := own_block_lt h hv
    exact Or.inr (hM.not hh he)
theorem map_adds {w w' : World} {g n : Nat} {f : Int → UInt8 → Int} {q : Option Addr} {a b c d : Int} (h : MapT w g n f) (hg : w.grownBy w' (Met.blk q)) (hM : Met.Mt w q a b c d) : MapT w' g n f := by
  refine h.same (hg.block g h.lt fun e => ?_)
  rcases hM with rfl | ⟨k, rfl, hk⟩
  · cases e
  · obtain rfl := Option.some.inj e
    exact h.not hk
theorem blk2_adds {w w' : World} {g : Nat} {t : TypeId} {u0 u1 : Value} {q : Option Addr} {a b c d : Int} (h : Blk2 w g t u0 u1) (hg : w.grownBy w' (Met.blk q)) (hM : Met.Mt w q a b c d) (he : t ≠ 56) : Blk2 w' g t u0 u1 := h.grown hg (hM.not h he)
theorem tr_adds {w w' : World} {s t : Nat} {ps l : List Tx} {q : Option Addr} {a b c d : Int} (h : Tr w s t ps l) (hg : w.grownBy w' (Met.blk q)) (hM : Met.Mt w q a b c d) : Tr w' s t ps l := by
  obtain ⟨h1, h2, h3, h4, g, cap, m, n, h5, h6, h7, h8, h9⟩ := h
  exact ⟨h1, h2, h3, h4, g, cap, m, n, blk2_adds h5 hg hM (by decide), own_adds h6 hg hM (by decide), map_adds h7 hg hM, h8, h9⟩
theorem li_adds {w w' : World} {s t : Nat} {ps l : List Tx} {q : Option Addr} {a b c d : Int} (h : Li w s t ps l) (hg : w.grownBy w' (Met.blk q)) (hM : Met.Mt w q a b c d) : Li w' s t ps l := by
  obtain ⟨h1, h2, h3, h4, g, cap, vo, h5, h6, h7⟩ := h
  exact ⟨h1, h2, h3, h4, g, cap, vo, blk2_adds h5 hg hM (by decide), own_adds h6 hg hM (by decide), own_adds h7 hg hM (by decide)⟩
theorem blk3_adds {w w' : World} {g : Nat} {t : TypeId} {u0 u1 u2 : Value} {q : Option Addr} {a b c d : Int} (h : Blk3 w g t u0 u1 u2) (hg : w.grownBy w' (Met.blk q)) (hM : Met.Mt w q a b c d) (he : t ≠ 56) : Blk3 w' g t u0 u1 u2 := (hg.block g h.lt (hM.not h he)).trans h
/-- An automaton at block t: its tree has the paths ps, and the texts l. -/
def Au (w : World) (t : Nat) (ps l : List Tx) : Prop :=
  Wf ps ∧ (∀ x ∈ l, x ∈ ps) ∧ ps.length ≤ 3900 ∧ (∀ p ∈ ps, p.length ≤ 1000000) ∧ ∃ tt lt v, Blk3 w t 64 (.pointer (some ⟨tt, 0, none⟩)) (.pointer (some ⟨lt, 0, none⟩)) v ∧ Tr w 0 tt ps l ∧ Li w 0 lt ps l ∧ w.ownsRow 0 91 3 v (edges ps).length (Met.rvals (edges ps))
theorem Au.keep {w w' : World} {t : Nat} {ps l : List Tx} (h : Au w t ps l) (hb : Below w.heap.size w w') : Au w' t ps l := by
  obtain ⟨h1, h2, h3, h0, tt, lt, v, h4, h5, h6, h7⟩ := h
  exact ⟨h1, h2, h3, h0, tt, lt, v, h4.keep hb h4.lt, h5.keep hb, h6.keep hb, own_keep h7 hb⟩
theorem Au.adds {w w' : World} {t : Nat} {ps l : List Tx} {q : Option Addr} {a b c d : Int} (h : Au w t ps l) (hg : w.grownBy w' (Met.blk q)) (hM : Met.Mt w q a b c d) : Au w' t ps l := by
  obtain ⟨h1, h2, h3, h0, tt, lt, v, h4, h5, h6, h7⟩ := h
  exact ⟨h1, h2, h3, h0, tt, lt, v, blk3_adds h4 hg hM (by decide), tr_adds h5 hg hM, li_adds h6 hg hM, own_adds h7 hg hM (by decide)⟩
theorem Au.lt {w : World} {t : Nat} {ps l : List Tx} (h : Au w t ps l) : t < w.heap.size := by
  obtain ⟨h1, h2, h3, h0, tt, lt, v, h4, h5, h6, h7⟩ := h
  exact h4.lt
theorem Li.less {w : World} {s s' t : Nat} {ps l : List Tx} (h : Li w s t ps l) (hs : s' ≤ s) : Li w s' t ps l := by
  obtain ⟨h1, h2, h3, h4, g, cap, vo, h5, h6, h7⟩ := h
  exact ⟨h1, h2, h3, by omega, g, cap, vo, h5, own_base h6 hs, own_base h7 hs⟩
theorem le_tot : ∀ (l : List Tx) (x : Tx), x ∈ l → x.length ≤ tot l
  | [], x, h => by cases h
  | y :: l, x, h => by
    have e : tot (y :: l) = y.length + tot l := by simp [tot]
    rw [e]
    rcases List.mem_cons.1 h with rfl | h
    · omega
    · have := le_tot l x h
      omega
def GivesAu (w : World) (ps l : List Tx) (e : Ending) (w' : World) : Prop := ∃ t, e = .returned (.pointer (some ⟨t, 0, none⟩)) ∧ w.heap.size ≤ t ∧ Au w' t ps l ∧ Below w.heap.size w w'
set_option maxHeartbeats 4000000 in
theorem snew_any (w : World) (xs : List TxV) (a : Option Addr) (cap : Nat) (hts : Ts w a xs) (hl : xs.length ≤ 1000000) (hz : tot (xs.map TxV.text) ≤ 3000) :
    Calls Try.prog 13 #[.slice a xs.length cap] w (GivesAu w (paths (xs.map TxV.text)) (xs.map TxV.text)) := by
  have HB : Hid (Calls Try.prog 26 #[.slice a xs.length cap] w (GivesTr w (paths (xs.map TxV.text)) (xs.map TxV.text))) := Lib.hid (build_any w xs a cap hts hl (by omega))
  have hp := paths_len (xs.map TxV.text)
  have HW := Lib.hid (paths_wf (xs.map TxV.text))
  have HS := Lib.hid (paths_sub (xs.map TxV.text))
  have HD : Hid (∀ p ∈ paths (xs.map TxV.text), p.length ≤ 1000000) := Lib.hid fun p hp' => by
    rcases (paths_mem _ p).1 hp' with rfl | ⟨x, hx, q, e⟩
    · simp
    · have h1 : x.length ≤ tot (xs.map TxV.text) := le_tot _ x hx
      have h2 : p.length + q.length = x.length := by rw [← e, List.length_append]
      omega
  generalize xs.map TxV.text = l at *
  generalize paths l = ps at *
  have hps : ps.length ≤ 3900 := by omega
  clear hts hz hp
  go_enter Try.func13, Try.ntmps13
  go_wp2_with (go_at_call 26; (with_reducible refine HB.out.mono ?_); rintro e w2 ⟨tt, rfl, htr, hb2⟩; have HT := Lib.hid htr; have HB2 := Lib.hid hb2; clear htr hb2; have HL := Lib.hid (lbuild_any w2 w.heap.size tt ps l HT.out (by omega)))
  go_wp2_with (go_at_call 27; (with_reducible refine HL.out.mono ?_); rintro e w3 ⟨lt, rfl, hli, hb3⟩; have HLI := Lib.hid hli; have HB3 := Lib.hid hb3; clear hli hb3; have HE := Lib.hid (edges_any w3 w.heap.size tt ps l (HT.out.keep HB3.out) hps))
  go_wp2_with (go_at_call 28; (with_reducible refine HE.out.mono ?_); rintro e w4 ⟨v, rfl, hown, hb4⟩; obtain ⟨ae, ce, rfl, _⟩ := own_rs hown rfl; have HO := Lib.hid hown; have HB4 := Lib.hid hb4; clear hown hb4)
  go_ret
  have B1 : Below w4.heap.size w4 (w4.alloc (Obj.cells #[.pointer (some ⟨tt, 0, none⟩), .pointer (some ⟨lt, 0, none⟩), .slice ae (edges ps).length ce] 64)) := (Below.refl _ _).alloc (Nat.le_refl _) _
  have s2 := HB2.out.size
  have s3 := HB3.out.size
  have s4 := HB4.out.size
  refine ⟨_, rfl, by omega, ⟨HW.out, HS.out, hps, HD.out, tt, lt, _, new_cells _ _ _ _ _, ((HT.out.keep HB3.out).keep HB4.out |>.keep B1).less (by omega), Li.less ((HLI.out.keep HB4.out).keep B1) (by omega), own_base (own_keep HO.out B1) (by omega)⟩, ?_⟩
  exact (HB2.out.trans (HB3.out.mono s2)).trans (HB4.out.mono (by omega)) |>.trans (B1.mono (by omega))
theorem states_none (w : World) : Calls Try.prog 20 #[.pointer none] w fun e w' => e = .returned (.int .i64 0) ∧ w = w' := by
  go_enter Try.func20, Try.ntmps20
  go_wp2
  go_ret
  exact ⟨rfl, rfl⟩
theorem states_any (w : World) (t : Nat) (ps l : List Tx) (h : Au w t ps l) : Calls Try.prog 20 #[.pointer (some ⟨t, 0, none⟩)] w fun e w' => e = .returned (.int .i64 (ps.length : Int)) ∧ w = w' := by
  obtain ⟨h1, h2, h3, h0, tt, lt, v, h4, h5, h6, h7⟩ := h
  obtain ⟨c0, c1, c2⟩ := h4.cells
  have HN : Hid (Calls Try.prog 36 #[.pointer (some ⟨tt, 0, none⟩)] w fun e w' => e = .returned (.int .i64 (ps.length : Int)) ∧ w = w') := Lib.hid (nodes_any w 0 tt ps l h5)
  clear h5 h6 h7 h4 h2
  go_enter Try.func20, Try.ntmps20
  go_wp2_with (go_at_call 36; (with_reducible refine HN.out.mono ?_); rintro e w2 ⟨rfl, rfl⟩)
  go_ret
  exact ⟨rfl, rfl⟩
theorem spath_none (w : World) (n : Int) : Calls Try.prog 22 #[.pointer none, .int .i64 n] w fun e w' => e = .returned (.slice none 0 0) ∧ w = w' := by
  go_enter Try.func22, Try.ntmps22
  go_wp2
  go_ret
  exact ⟨rfl, rfl⟩
theorem pathD_le {ps : List Tx} {b : Nat} (h : ∀ p ∈ ps, p.length ≤ b) (n : Int) : (pathD ps n).length ≤ b := by
  unfold pathD
  cases e : pathOf ps n with
  | none => simp
  | some p =>
    obtain ⟨i, hi, _, rfl⟩ := pathOf_some e
    exact h _ (List.getElem_mem hi)
theorem spath_any (w : World) (t : Nat) (ps l : List Tx) (h : Au w t ps l) (n : Int) : Calls Try.prog 22 #[.pointer (some ⟨t, 0, none⟩), .int .i64 n] w (GivesText w (pathD ps n)) := by
  obtain ⟨h1, h2, h3, h0, tt, lt, v, h4, h5, h6, h7⟩ := h
  obtain ⟨c0, c1, c2⟩ := h4.cells
  have HN : Hid (Calls Try.prog 37 #[.pointer (some ⟨tt, 0, none⟩), .int .i64 n] w (GivesText w (pathD ps n))) := Lib.hid (path_any w 0 tt ps l h5 n (pathD_le h0 n))
  clear h5 h6 h7 h4 h2 h0
  go_enter Try.func22, Try.ntmps22
  go_wp2_with (go_at_call 37; (with_reducible refine HN.out.mono ?_); rintro e w2 ⟨a2, cap2, rfl, ht, hc, hn, hb⟩)
  go_ret
  exact ⟨a2, cap2, rfl, ht, hc, hn, hb⟩
end Go.Proofs.Ytkooanahgffjgaa.Spa
