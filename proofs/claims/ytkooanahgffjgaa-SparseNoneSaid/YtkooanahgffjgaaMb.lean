/- Texts behind handles: the contracts of bytes.Clone, Text, Len and At. -/
import Derived.Test.YtkooanahgffjgaaMa
namespace Go.Proofs.Ytkooanahgffjgaa.Met
open Go.RowKit
set_option maxRecDepth 100000

theorem eql_nil22 : ∀ (w : World) (a : Option Addr) (n c n' c' : Nat), (binOp .eql 23 (.slice a n c) (.slice none n' c')).run Try.prog w = .ok (.bool a.isNone) w :=
  fun w a n c n' c' => Lib.run_eql_slice_nil w _ _ a n c n' c' und22
set_option maxHeartbeats 2000000 in
theorem clone_some (l : List UInt8) (ad : Addr) (cap : Nat) (w : World) (hl : l.length ≤ 1000000000000) (hb : Bs w w.heap.size (some ad) l) :
    Calls Try.prog 44 #[.slice (some ad) l.length cap] w (GivesText w l) := by
  obtain ⟨i0, hi, hz0, hz1, hz2⟩ := info_parts info5
  have q22 := eql_nil22
  have HB := Lib.hid hb
  clear hb
  go_enter Try.func44, Try.ntmps44
  go_wp2_with (at_builtin; refine wpList_append_own _ rfl _ _ 23 rfl w.heap.size 5 i0 (.int .u8 0) 1 1 und22 hi hz0 hz1 hz2 rfl (by decide) _ _ _ rfl (World.ownsRow_made w #[] 0 (Nat.le_refl _) (Nat.zero_le _) rfl) ad l.length cap (vals l) rfl ?qc1 ?qc2 ?qc3 ?qc4 ?qc5 ?qc6 ?_)
  case qc1 => simp [vals]
  case qc2 =>
    intro j u hj
    have hjn : j < l.length := by have := (List.getElem?_eq_some_iff.1 hj).1; simpa [vals] using this
    obtain ⟨b, off, e, hlt, hc⟩ := HB.out (by omega)
    cases e
    have ea : (⟨b, off, none⟩ : Addr).add j = ⟨b, off + j, none⟩ := by unfold Addr.add; split <;> simp_all
    rw [ea]
    have hcc := hc j hjn
    refine Lib.cell?_alloc_some _ ?_
    rw [hcc]
    simpa [vals, hjn] using hj
  case qc3 => intro u hu; obtain ⟨x, _, rfl⟩ := List.mem_map.1 hu; rfl
  case qc4 => unfold maxLen; omega
  case qc5 => omega
  case qc6 => simp
  intro v' w1 hown hgrow hnil
  go_wp2
  go_ret
  obtain ⟨a, c, rfl, ht, hlc, hnc⟩ := own_txt (l := l) (by simpa using hown)
  exact ⟨a, c, rfl, ht, hlc, hnc, ((Below.refl _ w).alloc (Nat.le_refl _) _).grown hgrow (by simp) (by intro k hk; simp [Value.ownBlock] at hk; omega)⟩
set_option maxHeartbeats 1000000 in
theorem clone_none (n cap : Nat) (w : World) : Calls Try.prog 44 #[.slice none n cap] w (GivesText w []) := by
  have q22 := eql_nil22
  go_enter Try.func44, Try.ntmps44
  go_wp2
  go_ret
  exact ⟨none, 0, rfl, (fun h => absurd h (by simp)), Nat.le_refl _, fun _ => rfl, Below.refl _ _⟩
theorem clone_any (l : List UInt8) (a : Option Addr) (cap : Nat) (w : World) (hl : l.length ≤ 1000000000000) (hb : Bs w w.heap.size a l) :
    Calls Try.prog 44 #[.slice a l.length cap] w (GivesText w l) := by
  cases a with
  | some ad => exact clone_some l ad cap w hl hb
  | none =>
    rcases Nat.eq_zero_or_pos l.length with h0 | h0
    · obtain rfl := List.eq_nil_of_length_eq_zero h0
      exact clone_none _ cap w
    · obtain ⟨b, off, e, _⟩ := hb h0
      cases e
theorem add_scan (w : World) (p : Option Addr) (s l h m : Int) (hM : Mt w p s l h m) (hs : 0 ≤ s ∧ s ≤ 1000000000000) (hl : 0 ≤ l ∧ l ≤ 1000000000000) (hh : 0 ≤ h ∧ h ≤ 1000000000000) (hm : 0 ≤ m ∧ m ≤ 1000000000000) :
    Calls Try.prog 48 #[.pointer p, .agg #[.int .i64 1, .int .i64 0, .int .i64 0, .int .i64 0]] w (Adds w p (s + 1) l h m (.tuple #[])) := by
  have := add_any w p s l h m 1 0 0 0 hM hs hl hh hm (by omega) (by omega) (by omega) (by omega)
  simpa only [Int.add_zero] using this
theorem add_look (w : World) (p : Option Addr) (s l h m : Int) (hM : Mt w p s l h m) (hs : 0 ≤ s ∧ s ≤ 1000000000000) (hl : 0 ≤ l ∧ l ≤ 1000000000000) (hh : 0 ≤ h ∧ h ≤ 1000000000000) (hm : 0 ≤ m ∧ m ≤ 1000000000000) :
    Calls Try.prog 48 #[.pointer p, .agg #[.int .i64 0, .int .i64 1, .int .i64 0, .int .i64 0]] w (Adds w p s (l + 1) h m (.tuple #[])) := by
  have := add_any w p s l h m 0 1 0 0 hM hs hl hh hm (by omega) (by omega) (by omega) (by omega)
  simpa only [Int.add_zero] using this
theorem add_hunt (w : World) (p : Option Addr) (s l h m : Int) (hM : Mt w p s l h m) (hs : 0 ≤ s ∧ s ≤ 1000000000000) (hl : 0 ≤ l ∧ l ≤ 1000000000000) (hh : 0 ≤ h ∧ h ≤ 1000000000000) (hm : 0 ≤ m ∧ m ≤ 1000000000000) :
    Calls Try.prog 48 #[.pointer p, .agg #[.int .i64 0, .int .i64 0, .int .i64 1, .int .i64 0]] w (Adds w p s l (h + 1) m (.tuple #[])) := by
  have := add_any w p s l h m 0 0 1 0 hM hs hl hh hm (by omega) (by omega) (by omega) (by omega)
  simpa only [Int.add_zero] using this
theorem add_move (w : World) (p : Option Addr) (s l h m d : Int) (hM : Mt w p s l h m) (hs : 0 ≤ s ∧ s ≤ 1000000000000) (hl : 0 ≤ l ∧ l ≤ 1000000000000) (hh : 0 ≤ h ∧ h ≤ 1000000000000) (hm : 0 ≤ m ∧ m ≤ 1000000000000) (hd : 0 ≤ d ∧ d ≤ 1000000000000) :
    Calls Try.prog 48 #[.pointer p, .agg #[.int .i64 0, .int .i64 0, .int .i64 0, .int .i64 d]] w (Adds w p s l h (m + d) (.tuple #[])) := by
  have := add_any w p s l h m 0 0 0 d hM hs hl hh hm (by omega) (by omega) (by omega) hd
  simpa only [Int.add_zero] using this
/-- A block of two cells that is known whole. -/
def Blk2 (w : World) (g : Nat) (t : TypeId) (u0 u1 : Value) : Prop := w.heap[g]? = some (.cells #[u0, u1] t (0, 0))
theorem Blk2.lt {w : World} {g : Nat} {t : TypeId} {u0 u1 : Value} (h : Blk2 w g t u0 u1) : g < w.heap.size := txt_lt h
theorem Blk2.new (w : World) (t : TypeId) (u0 u1 : Value) : Blk2 (w.alloc (.cells #[u0, u1] t)) w.heap.size t u0 u1 := heap_alloc_new w _
theorem Blk2.same {w w' : World} {g : Nat} {t : TypeId} {u0 u1 : Value} (h : Blk2 w g t u0 u1) (e : w'.heap[g]? = w.heap[g]?) : Blk2 w' g t u0 u1 := e.trans h
theorem Blk2.cells {w : World} {g : Nat} {t : TypeId} {u0 u1 : Value} (h : Blk2 w g t u0 u1) : w.cell? ⟨g, 0, none⟩ = some u0 ∧ w.cell? ⟨g, 1, none⟩ = some u1 := by
  unfold Blk2 at h
  refine ⟨?_, ?_⟩ <;> (rw [cell_of_row w g _ _ t (0, 0) h]; rfl)
/-- The meter's block is no block of another type. -/
theorem Mt.not {w : World} {p : Option Addr} {s l h m : Int} (hM : Mt w p s l h m) {k : Nat} {cs : Array Value} {t : TypeId} {fr : Nat × Nat} (hk : w.heap[k]? = some (.cells cs t fr)) (ht : t ≠ 56) : some k ≠ blk p := by
  rcases hM with rfl | ⟨g, rfl, hM⟩
  · intro e; cases e
  · intro e
    cases e
    unfold Cnt Blk4 at hM
    rw [hM] at hk
    injection hk with hk
    injection hk with _ h2 _
    exact ht h2.symm
theorem Mt.same {w w' : World} {p : Option Addr} {s l h m : Int} (hM : Mt w p s l h m) (e : ∀ k, some k = blk p → w'.heap[k]? = w.heap[k]?) : Mt w' p s l h m := by
  rcases hM with rfl | ⟨g, rfl, hM⟩
  · exact Or.inl rfl
  · exact Or.inr ⟨g, rfl, hM.same (e g rfl)⟩
theorem Mt.lt {w : World} {p : Option Addr} {s l h m : Int} (hM : Mt w p s l h m) {k : Nat} (e : some k = blk p) : k < w.heap.size := by
  rcases hM with rfl | ⟨g, rfl, hM⟩
  · cases e
  · cases e; exact hM.lt
theorem Mt.keep {w w' : World} {p : Option Addr} {s l h m : Int} (hM : Mt w p s l h m) (hb : Below w.heap.size w w') : Mt w' p s l h m := hM.same fun k e => hb.block k (hM.lt e)
/-- A handle on a text: whose meter, and which bytes, from block s on. -/
def Tx (w : World) (s t : Nat) (p : Option Addr) (l : List UInt8) : Prop := s ≤ t ∧ ∃ a cap, Blk2 w t 94 (.pointer p) (.slice a l.length cap) ∧ Txt w s a l
theorem Tx.lt {w : World} {s t : Nat} {p : Option Addr} {l : List UInt8} (h : Tx w s t p l) : t < w.heap.size := by
  obtain ⟨_, a, cap, h1, _⟩ := h; exact h1.lt
theorem Tx.keep {w w' : World} {s t : Nat} {p : Option Addr} {l : List UInt8} (h : Tx w s t p l) (hb : Below w.heap.size w w') : Tx w' s t p l := by
  have hlt := h.lt
  obtain ⟨h0, a, cap, h1, h2⟩ := h
  exact ⟨h0, a, cap, h1.same (hb.block t hlt), h2.keep hb⟩
/-- .. what is counted by a meter plays no part. -/
theorem Tx.adds {w w' : World} {s t : Nat} {p q : Option Addr} {l : List UInt8} {a b c d : Int} (h : Tx w s t p l) (hg : w.grownBy w' (blk q)) (hM : Mt w q a b c d) : Tx w' s t p l := by
  have hlt := h.lt
  obtain ⟨h0, a, cap, h1, h2⟩ := h
  refine ⟨h0, a, cap, h1.same (hg.block t hlt (hM.not h1 (by decide))), txt_grown h2 hg ?_⟩
  intro r cs fr hr hh
  exact hM.not hh (by decide) hr.symm
/-- .. nor what changes below. -/
theorem Tx.under {w w' : World} {s t g : Nat} {p : Option Addr} {l : List UInt8} (h : Tx w s t p l) (hg : w.grownBy w' (some g)) (hlt : g < s) : Tx w' s t p l := by
  have ht := h.lt
  obtain ⟨h0, a, cap, h1, h2⟩ := h
  refine ⟨h0, a, cap, h1.same (hg.block t ht (fun e => by cases e; omega)), fun hl => ?_⟩
  obtain ⟨b, cs, e, hb, hh, hc⟩ := h2 hl
  exact ⟨b, cs, e, hb, (hg.block b (txt_lt hh) (fun e => by cases e; omega)).trans hh, hc⟩
def GivesTx (w : World) (p : Option Addr) (l : List UInt8) (e : Ending) (w' : World) : Prop := ∃ t, e = .returned (.pointer (some ⟨t, 0, none⟩)) ∧ Tx w' w.heap.size t p l ∧ Below w.heap.size w w'
set_option maxHeartbeats 1000000 in
theorem text_any (w : World) (p : Option Addr) (l : List UInt8) (a : Option Addr) (cap : Nat) (hl : l.length ≤ 1000000000000) (hb : Bs w w.heap.size a l) :
    Calls Try.prog 29 #[.pointer p, .slice a l.length cap] w (GivesTx w p l) := by
  have C := Lib.hid (clone_any l a cap w hl hb)
  clear hb
  go_enter Try.func29, Try.ntmps29
  go_wp2_with (go_at_call 44; refine C.out.mono ?_; rintro e w1 ⟨a1, cap1, rfl, ht, _, _, hb1⟩)
  go_ret
  exact ⟨w1.heap.size, rfl, ⟨hb1.size, a1, cap1, Blk2.new _ _ _ _, ht.keep ((Below.refl _ _).alloc (Nat.le_refl _) _)⟩, hb1.alloc hb1.size _⟩
theorem len_none (w : World) : Calls Try.prog 31 #[.pointer none] w fun e w' => e = .returned (.int .i64 0) ∧ w = w' := by
  go_enter Try.func31, Try.ntmps31
  go_wp2
  go_ret
  exact ⟨rfl, rfl⟩
theorem len_some (w : World) (s t : Nat) (p : Option Addr) (l : List UInt8) (h : Tx w s t p l) : Calls Try.prog 31 #[.pointer (some ⟨t, 0, none⟩)] w fun e w' => e = .returned (.int .i64 l.length) ∧ w = w' := by
  obtain ⟨_, a, cap, h1, _⟩ := h
  obtain ⟨c0, c1⟩ := h1.cells
  go_enter Try.func31, Try.ntmps31
  go_wp2
  go_ret
  exact ⟨rfl, rfl⟩
theorem at_none (w : World) (i : Int) : Calls Try.prog 33 #[.pointer none, .int .i64 i] w fun e w' => e = .returned (.int .i64 (-1)) ∧ w = w' := by
  by_cases hi : i < 0
  · go_enter Try.func33, Try.ntmps33
    go_wp2_with (go_at_call 31; refine (len_none w).mono ?_; rintro e w' ⟨rfl, rfl⟩)
    go_ret
    exact ⟨rfl, rfl⟩
  · have hi' : 0 ≤ i := by omega
    go_enter Try.func33, Try.ntmps33
    go_wp2_with (go_at_call 31; refine (len_none w).mono ?_; rintro e w' ⟨rfl, rfl⟩)
    go_ret
    exact ⟨rfl, rfl⟩
theorem at_out (w : World) (s t : Nat) (p : Option Addr) (l : List UInt8) (h : Tx w s t p l) (i : Int) (hi : i < 0 ∨ (l.length : Int) ≤ i) : Calls Try.prog 33 #[.pointer (some ⟨t, 0, none⟩), .int .i64 i] w fun e w' => e = .returned (.int .i64 (-1)) ∧ w = w' := by
  have L := Lib.hid (len_some w s t p l h)
  by_cases hn : i < 0
  · go_enter Try.func33, Try.ntmps33
    go_wp2_with (go_at_call 31; refine L.out.mono ?_; rintro e w' ⟨rfl, rfl⟩)
    go_ret
    exact ⟨rfl, rfl⟩
  · have hi' : (l.length : Int) ≤ i := by omega
    go_enter Try.func33, Try.ntmps33
    go_wp2_with (go_at_call 31; refine L.out.mono ?_; rintro e w' ⟨rfl, rfl⟩)
    go_ret
    exact ⟨rfl, rfl⟩
set_option maxHeartbeats 1000000 in
theorem at_in (w : World) (s t : Nat) (p : Option Addr) (l : List UInt8) (h : Tx w s t p l) (i : Nat) (hi : i < l.length) (hl : l.length ≤ 1000000000000) (a b c d : Int) (hM : Mt w p a b c d) (ha : 0 ≤ a ∧ a ≤ 1000000000000) (hb : 0 ≤ b ∧ b ≤ 1000000000000) (hc : 0 ≤ c ∧ c ≤ 1000000000000) (hd : 0 ≤ d ∧ d ≤ 1000000000000) :
    Calls Try.prog 33 #[.pointer (some ⟨t, 0, none⟩), .int .i64 (i : Int)] w (Adds w p (a + 1) b c d (.int .i64 (l[i].toNat : Int))) := by
  have L := Lib.hid (len_some w s t p l h)
  have C := Lib.hid (add_scan w p a b c d hM ha hb hc hd)
  have HM := Lib.hid hM
  obtain ⟨_, a1, cap1, h1, h2⟩ := h
  obtain ⟨c0, c1⟩ := h1.cells
  obtain ⟨bb, cs, rfl, _, hh, hcs⟩ := h2 (by omega)
  have HH := Lib.hid hh
  have HC := Lib.hid (hcs i hi)
  have hi0 : (i : Int) < (l.length : Int) := by omega
  have hu : l[i].toNat < 256 := l[i].toNat_lt
  clear hM h2 hcs hh
  go_enter Try.func33, Try.ntmps33
  go_wp2_with (first | (go_at_call 31; refine L.out.mono ?_; rintro e w' ⟨rfl, rfl⟩) | (go_at_call 48; (with_reducible refine C.out.mono ?_); rintro e w1 ⟨rfl, hM1, hg1⟩; have k1 := h1.same (hg1.block t h1.lt (HM.out.not h1 (by decide))); have k2 := (hg1.block bb (txt_lt HH.out) (HM.out.not HH.out (by decide))).trans HH.out; obtain ⟨e0, e1⟩ := k1.cells; have e2 : w1.cell? ⟨bb, i, none⟩ = some (.int .u8 (l[i].toNat : Int)) := (cell_of_row w1 bb i _ 5 (0, 0) k2).trans HC.out; clear k1 k2 c0 c1; have HM1 := Lib.hid hM1; have HG1 := Lib.hid hg1; clear hM1 hg1))
  go_ret
  exact ⟨rfl, HM1.out, HG1.out⟩
end Go.Proofs.Ytkooanahgffjgaa.Met
