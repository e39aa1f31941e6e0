/- What is told of windows, gathered: Scan, Ends. -/
import Derived.Test.YtmbglghpnloggaaR2
namespace Go.Proofs.Ytmbglghpnloggaa.Wal
open Go.Proofs.Ytmbglghpnloggaa.Tri Go.Proofs.Ytmbglghpnloggaa.Lnk Go.Proofs.Ytmbglghpnloggaa.Prs Go.Proofs.Ytmbglghpnloggaa.Spa Go.Proofs.Ytmbglghpnloggaa.Cwl Go.Proofs.Ytmbglghpnloggaa.Bck Go.Proofs.Ytmbglghpnloggaa.Shf Go.Proofs.Ytmbglghpnloggaa.Reg Go.RowKit Go.Maps
set_option maxRecDepth 100000
set_option linter.unusedVariables false

theorem cell_one {w : World} {b : Nat} {v : Value} {t : TypeId} (h : w.heap[b]? = some (.cells #[v] t (0, 0))) : w.cell? ⟨b, 0, none⟩ = some v ∧ w.frozen? ⟨b, 0, none⟩ = false := by
  refine ⟨by rw [cell_of_row w b 0 _ t (0, 0) h]; rfl, ?_⟩
  simp [World.frozen?, h]
/-- Numbers gathered in a variable of the call's own. -/
def Iv (w : World) (g : Nat) (L : List Int) (X : World) : Prop := ∃ v, X.heap[g]? = some (.cells #[v] 37 (0, 0)) ∧ X.ownsRow (g + 1) 3 1 v L.length (ivals L) ∧ w.heap.size ≤ g ∧ Below w.heap.size w X
theorem Iv.keep {w X X' : World} {g : Nat} {L : List Int} (h : Iv w g L X) (hb : Below X.heap.size X X') : Iv w g L X' := by
  obtain ⟨v, h1, h2, h3, h4⟩ := h
  exact ⟨v, (hb.block g (txt_lt h1)).trans h1, own_keep h2 hb, h3, h4.trans (hb.mono h4.size)⟩
/-- Pairs gathered in a variable of the call's own. -/
def Pv (w : World) (g : Nat) (L : List Pr) (X : World) : Prop := ∃ v, X.heap[g]? = some (.cells #[v] 30 (0, 0)) ∧ X.ownsRow (g + 1) 45 2 v L.length (cellsOf L) ∧ w.heap.size ≤ g ∧ Below w.heap.size w X
theorem Pv.keep {w X X' : World} {g : Nat} {L : List Pr} (h : Pv w g L X) (hb : Below X.heap.size X X') : Pv w g L X' := by
  obtain ⟨v, h1, h2, h3, h4⟩ := h
  exact ⟨v, (hb.block g (txt_lt h1)).trans h1, Prs.own_keep h2 hb, h3, h4.trans (hb.mono h4.size)⟩
theorem iv_new (w : World) : Iv w w.heap.size [] (w.alloc (.cells #[.slice none 0 0] 37)) := ⟨_, heap_alloc_new w _, World.ownsRow_nil _ _ _ _, Nat.le_refl _, (Below.refl _ _).alloc (Nat.le_refl _) _⟩
theorem pv_new (w : World) : Pv w w.heap.size [] (w.alloc (.cells #[.slice none 0 0] 30)) := ⟨_, heap_alloc_new w _, World.ownsRow_nil _ _ _ _, Nat.le_refl _, (Below.refl _ _).alloc (Nat.le_refl _) _⟩
def ints (l : List Nat) : List Int := l.map fun e : Nat => (e : Int)
theorem ints_snoc (l : List Nat) (e : Nat) : ints (l ++ [e]) = ints l ++ [(e : Int)] := by simp [ints]
/-- A number more, stored to the variable. -/
theorem iv_put {w X X2 : World} {g : Nat} {L M : List Int} {v v2 : Value} (h1 : X.heap[g]? = some (.cells #[v] 37 (0, 0))) (h2 : X.ownsRow (g + 1) 3 1 v L.length (ivals L)) (h3 : w.heap.size ≤ g) (h4 : Below w.heap.size w X)
    (o : Obj) (hown : X2.ownsRow (g + 1) 3 1 v2 M.length (ivals M)) (hg : (X.alloc o).grownBy X2 v.ownBlock) :
    X2.heap[g]? = some (.cells #[v] 37 (0, 0)) ∧ Iv w g M (X2.setCell ⟨g, 0, none⟩ v2) := by
  have hlt := txt_lt h1
  have hh : X2.heap[g]? = some (.cells #[v] 37 (0, 0)) := (hg.block g (by simp; omega) (own_far h2 g (Nat.lt_succ_self g))).trans ((Below.heap_alloc X o g hlt).trans h1)
  refine ⟨hh, v2, heap_set_same hh, ?_, h3, ?_⟩
  · exact own_far_block hown fun k hk => Below.heap_setCell X2 ⟨g, 0, none⟩ v2 k (by have := own_ge hown hk; simp; omega)
  · exact ((h4.alloc (by omega) o).grown hg (by simp; omega) (fun k hk => by have := own_ge h2 hk; omega)).setCell h3 _
theorem pv_put {w X X2 : World} {g : Nat} {L M : List Pr} {v v2 : Value} (h1 : X.heap[g]? = some (.cells #[v] 30 (0, 0))) (h2 : X.ownsRow (g + 1) 45 2 v L.length (cellsOf L)) (h3 : w.heap.size ≤ g) (h4 : Below w.heap.size w X)
    (o : Obj) (hown : X2.ownsRow (g + 1) 45 2 v2 M.length (cellsOf M)) (hg : (X.alloc o).grownBy X2 v.ownBlock) :
    X2.heap[g]? = some (.cells #[v] 30 (0, 0)) ∧ Pv w g M (X2.setCell ⟨g, 0, none⟩ v2) := by
  have hlt := txt_lt h1
  have hh : X2.heap[g]? = some (.cells #[v] 30 (0, 0)) := (hg.block g (by simp; omega) (own_far h2 g (Nat.lt_succ_self g))).trans ((Below.heap_alloc X o g hlt).trans h1)
  refine ⟨hh, v2, heap_set_same hh, ?_, h3, ?_⟩
  · exact own_far_block hown fun k hk => Below.heap_setCell X2 ⟨g, 0, none⟩ v2 k (by have := Prs.own_ge hown hk; simp; omega)
  · exact ((h4.alloc (by omega) o).grown hg (by simp; omega) (fun k hk => by have := Prs.own_ge h2 hk; omega)).setCell h3 _
theorem tell_ends (w X : World) (g : Nat) (L : List Int) (h : Iv w g L X) (hL : L.length ≤ 100000000) (e : Nat) (he : e ≤ 100000) (A : Option Addr) (n c : Nat) :
    Calls Try.prog 29 #[.int .i64 (e : Int), .slice A n c, .pointer (some ⟨g, 0, none⟩)] X fun x W' => x = .returned (.tuple #[]) ∧ Iv w g (L ++ [(e : Int)]) W' := by
  obtain ⟨v, h1, h2, h3, h4⟩ := h
  obtain ⟨d1, d2⟩ := cell_one h1
  have hsz := txt_lt h1
  have HO := Lib.hid h2
  have HP : Hid (∀ (o : Obj) (X2 : World) (v2 : Value), X2.ownsRow (g + 1) 3 1 v2 (L ++ [(e : Int)]).length (ivals (L ++ [(e : Int)])) → (X.alloc o).grownBy X2 v.ownBlock → X2.heap[g]? = some (.cells #[v] 37 (0, 0)) ∧ Iv w g (L ++ [(e : Int)]) (X2.setCell ⟨g, 0, none⟩ v2)) := Lib.hid fun o X2 v2 a b => iv_put h1 h2 h3 h4 o a b
  clear h1 h2 h3 h4
  go_enter Try.func29, Try.ntmps29
  go_wp2_with (at_builtin; refine app_is rfl _ _ rfl (g + 1) _ _ L (e : Int) rfl (HO.out.alloc _) ⟨X.heap.size, 0, none⟩ rfl (cell_new_at _ _ rfl) (by omega) (by simp; omega) ?_; intro v3 w3 hown3 hg3; obtain ⟨g3, cap3, rfl⟩ := own_succ hown3; have hp3 := HP.out _ w3 _ (by rw [List.length_append]; exact hown3) hg3; obtain ⟨c40, f40⟩ := cell_one hp3.1; have HF := Lib.hid hp3.2; clear hp3 hown3 hg3)
  go_end0
  exact ⟨rfl, HF.out⟩
set_option maxHeartbeats 1000000 in
theorem tell_scan (w X : World) (g : Nat) (L : List Pr) (h : Pv w g L X) (hL : L.length ≤ 100000000) (e : Nat) (he : e ≤ 100000) (S : List Int) (A : Option Addr) (n c s : Nat) (hn : n ≤ 100000) (hS : X.ownsRow s 3 1 (.slice A n c) n (ivals S)) :
    Calls Try.prog 27 #[.int .i64 (e : Int), .slice A n c, .pointer (some ⟨g, 0, none⟩)] X fun x W' => x = .returned (.tuple #[]) ∧ Pv w g (L ++ S.map fun s => ⟨s, (e : Int)⟩) W' := by
  have hSn : S.length = n := by have := hS.1; simpa [ivals] using this
  subst hSn
  have HW := Lib.hid h
  have HS := Lib.hid hS
  clear h hS
  go_enter Try.func27, Try.ntmps27
  go_wp2
  go_loopw [9] (fun i wr => ∃ j : Nat, j ≤ S.length ∧ i = .int .i64 (j : Int) ∧ Pv w g (L ++ (S.take j).map fun s => ⟨s, (e : Int)⟩) wr ∧ wr.ownsRow s 3 1 (.slice A S.length c) S.length (ivals S)) (fun i _ => S.length - (intOf i).toNat)
  case atStart => exact ⟨0, by omega, rfl, by simpa using HW.out, HS.out⟩
  case round =>
    obtain ⟨j, hj, rfl, hp, hs⟩ := hrel
    by_cases hlt : j < S.length
    · have hlt2 : (j : Int) < (S.length : Int) := by omega
      obtain ⟨b6, off6, e6, hcell⟩ := is_cell hs j hlt
      obtain ⟨v, h1, h2, h3, h4⟩ := hp
      obtain ⟨d1, d2⟩ := cell_one h1
      have hsz := txt_lt h1
      have HN : Hid ((S.take (j + 1)).map (fun s => (⟨s, (e : Int)⟩ : Pr)) = (S.take j).map (fun s => ⟨s, (e : Int)⟩) ++ [⟨S[j], (e : Int)⟩]) := Lib.hid (by rw [List.take_succ_eq_append_getElem hlt, List.map_append]; rfl)
      have hml : ((S.take j).map (fun s => (⟨s, (e : Int)⟩ : Pr))).length ≤ 100000 := by rw [List.length_map, List.length_take]; omega
      generalize (S.take j).map (fun s => (⟨s, (e : Int)⟩ : Pr)) = R at *
      have HO := Lib.hid h2
      have HI := Lib.hid hs
      have HP : Hid (∀ (o : Obj) (X2 : World) (v2 : Value) (M : List Pr), X2.ownsRow (g + 1) 45 2 v2 M.length (cellsOf M) → (wr.alloc o).grownBy X2 v.ownBlock → X2.heap[g]? = some (.cells #[v] 30 (0, 0)) ∧ Pv w g M (X2.setCell ⟨g, 0, none⟩ v2)) := Lib.hid fun o X2 v2 M a b => pv_put h1 h2 h3 h4 o a b
      have HFAR : Hid (∀ (o : Obj) (X2 : World) (v2 : Value), (wr.alloc o).grownBy X2 v.ownBlock → X2.heap[g]? = some (.cells #[v] 30 (0, 0)) → (X2.setCell ⟨g, 0, none⟩ v2).ownsRow s 3 1 (.slice A S.length c) S.length (ivals S)) := Lib.hid fun o X2 v2 hg hh => by
        have h5 := is_far (hs.alloc o) (h2.alloc o) hg
        refine own_far_block h5 fun k hk => Below.heap_setCell X2 ⟨g, 0, none⟩ v2 k fun e => ?_
        obtain ⟨_, _, cs, hc⟩ := own_block_lt h5 hk
        rw [e] at hc
        rw [hh] at hc
        simp at hc
      clear h1 h2 h3 h4 hs
      subst e6
      generalize S[j] = x at *
      go_wp2_with (at_builtin; refine app_ps rfl _ _ rfl (g + 1) v (L ++ R).length (L ++ R) rfl (HO.out.alloc _) (some ⟨wr.heap.size, 0, none⟩) [⟨x, (e : Int)⟩] 1 (wr.heap.size + 1) rfl (by have := ps_one wr ⟨x, (e : Int)⟩ (0, 0); rwa [World.size_alloc] at this) (fun e => by cases e) (by simp only [List.length_append, List.length_cons, List.length_nil]; omega) (by simp; omega) ?_; intro v7 w7 hown7 hg7; rw [List.length_singleton] at hown7; obtain ⟨g7, cap7, rfl⟩ := Tri.own_succ hown7; have hp7 := HP.out _ w7 (.slice (some ⟨g7, 0, none⟩) ((L ++ R).length + 1) cap7) ((L ++ R) ++ [⟨x, (e : Int)⟩]) (by rw [List.length_append (bs := [_])]; exact hown7) hg7; have HF7 := Lib.hid (HFAR.out _ w7 (.slice (some ⟨g7, 0, none⟩) ((L ++ R).length + 1) cap7) hg7 hp7.1); obtain ⟨c40, f40⟩ := cell_one hp7.1; have HF := Lib.hid hp7.2; clear hp7 hown7 hg7)
      go_roundw
      case rel => exact ⟨j + 1, by omega, by go_num, by rw [HN.out, ← List.append_assoc, ← List.length_append]; exact HF.out, by rw [← List.length_append]; exact HF7.out⟩
      case measure => simp [intOf]; omega
    · have hje : j = S.length := by omega
      have hlt2 : ¬ (j : Int) < (S.length : Int) := by omega
      have HP : Hid (Pv w g (L ++ S.map fun s => ⟨s, (e : Int)⟩) wr) := Lib.hid (by rw [hje, List.take_length] at hp; exact hp)
      clear hje hp hs
      go_wp2
      go_end0
      exact ⟨rfl, HP.out⟩
theorem call_ends (args : Array Value) (w : World) : (callFunc 29 args).run Try.prog w = .ok (.enter 29 args) w := by simp [go_sem]
theorem call_scan (args : Array Value) (w : World) : (callFunc 27 args).run Try.prog w = .ok (.enter 27 args) w := by simp [go_sem]
theorem flat_snoc {α : Type} (f : Nat → List α) (d : List Nat) (e : Nat) : (d ++ [e]).flatMap f = d.flatMap f ++ f e := by simp
theorem tells_ends (w : World) (g : Nat) (l : List Tx) (line : Tx) (hl : line.length ≤ 1000) : Tell l line 29 #[.pointer (some ⟨g, 0, none⟩)] fun d X => Iv w g (ints d) X :=
  ⟨call_ends, fun d W W' h hb => h.keep hb, fun d e W s A n c h he hd hs => by
    have := tell_ends w W g (ints d) h (by simp [ints]; omega) e (by omega) A n c
    rw [ints_snoc]; exact this⟩
theorem tells_scan (w : World) (g : Nat) (l : List Tx) (line : Tx) (hl : line.length ≤ 1000) : Tell l line 27 #[.pointer (some ⟨g, 0, none⟩)] fun d X => Pv w g (d.flatMap (pairsAt l line)) X ∧ ∀ e ∈ d, e ≤ line.length :=
  ⟨call_scan, fun d W W' h hb => ⟨h.1.keep hb, h.2⟩, fun d e W s A n c h he hd hs => by
    have h2 := flat_len (pairsAt l line) 1000 d fun x hx => pairs_len (h.2 x hx) hl
    have h3 : (startsOf l line e).length ≤ 1000 := by have := pairs_len (l := l) he hl; rwa [pairsAt, List.length_map] at this
    have h4 : (startsOf l line e).length = n := by have := hs.1; simpa [ivals] using this
    have := tell_scan w W g _ h.1 (by omega) e (by omega) (startsOf l line e) A n c s (by omega) hs
    refine this.mono ?_
    rintro x W' ⟨rfl, h5⟩
    refine ⟨rfl, by rw [flat_snoc]; exact h5, fun y hy => ?_⟩
    rcases List.mem_append.1 hy with hy | hy
    · exact h.2 y hy
    · rw [List.mem_singleton.1 hy]; exact he⟩
def GivesPrs (w : World) (l : List Pr) (e : Ending) (w' : World) : Prop := ∃ A c, e = .returned (.slice A l.length c) ∧ Ps w' w'.heap.size A l ∧ Below w.heap.size w w'
def GivesIs (w : World) (l : List Int) (e : Ending) (w' : World) : Prop := ∃ A c, e = .returned (.slice A l.length c) ∧ Is w' w'.heap.size A l ∧ Below w.heap.size w w'
theorem winds_few {l : List Tx} (h : turned l ≠ []) (line : Tx) : ∀ f e, (windows l line f e).length ≤ line.length + 1 - e
  | 0, e => Nat.zero_le _
  | f + 1, e => by
    rw [windows]
    split
    · have h1 := winds_few h line f (e + moveOf l line e)
      have h2 := move_pos h line e
      rw [List.length_cons]; omega
    · exact Nat.zero_le _
theorem winds_n_len (l : List Tx) (line : Tx) : (windsN l line).length ≤ line.length := by
  unfold windsN
  split
  · simp
  · rename_i h
    have h1 := winds_few h line (line.length + 1) (Cwl.leastOf (turned l))
    have h2 := least_pos (fun x h => turned_ne h) h
    omega
theorem wends_in (w : World) (p : Option Addr) (l : List Tx) (h : Cw w p l) (line : Tx) (al : Option Addr) (cl : Nat) (hb : Ln w al line cl) (hl : line.length ≤ 1000) :
    Calls Try.prog 17 #[.pointer p, .slice al line.length cl] w (GivesIs w (ints (windsN l line))) := by
  have hmf : ∀ (fn : Fn) (first cap : Array Value) (w : World), (Instr.makeFunc fn first cap).run Try.prog w = .ok (.func fn first cap) w := fun _ _ _ _ => rfl
  have hba : Below w.heap.size w (w.alloc (.cells #[.slice none 0 0] 37)) := (Below.refl _ _).alloc (Nat.le_refl _) _
  have HWK := Lib.hid (walk_any w _ p l h line al cl hb hl 29 _ _ (tells_ends w w.heap.size l line hl) (fun d W h => by obtain ⟨_, _, _, _, h⟩ := h; exact h) (iv_new w))
  clear h hb
  go_enter Try.func17, Try.ntmps17
  go_wp2_with (go_at_call 26; (with_reducible refine HWK.out.mono ?_); rintro e w1 ⟨rfl, v, h1, h2, h3, h4⟩; obtain ⟨d1, _⟩ := cell_one h1; have HO := Lib.hid h2; have HB := Lib.hid h4; clear h1 h2 h3 h4)
  go_ret
  obtain ⟨A, c, rfl, hi, _⟩ := own_is HO.out
  exact ⟨A, c, rfl, hi, HB.out⟩
theorem wscan_in (w : World) (p : Option Addr) (l : List Tx) (h : Cw w p l) (line : Tx) (al : Option Addr) (cl : Nat) (hb : Ln w al line cl) (hl : line.length ≤ 1000) :
    Calls Try.prog 14 #[.pointer p, .slice al line.length cl] w (GivesPrs w (scanOf l line)) := by
  have hmf : ∀ (fn : Fn) (first cap : Array Value) (w : World), (Instr.makeFunc fn first cap).run Try.prog w = .ok (.func fn first cap) w := fun _ _ _ _ => rfl
  have HWK := Lib.hid (walk_any w _ p l h line al cl hb hl 27 _ _ (tells_scan w w.heap.size l line hl) (fun d W h => by obtain ⟨⟨_, _, _, _, h⟩, _⟩ := h; exact h) ⟨pv_new w, fun _ h => by cases h⟩)
  have HF := Lib.hid (found_winds l line)
  have hwn := winds_n_len l line
  clear h hb
  go_enter Try.func14, Try.ntmps14
  go_wp2_with (first
    | (go_at_call 26; (with_reducible refine HWK.out.mono ?_); rintro e w1 ⟨rfl, ⟨v, h1, h2, h3, h4⟩, h5⟩; obtain ⟨d1, _⟩ := cell_one h1; have hfl := flat_len (pairsAt l line) 1000 (windsN l line) (fun x hx => pairs_len (h5 x hx) hl); have HO := Lib.hid h2; have HB := Lib.hid h4; clear h1 h2 h3 h4 h5)
    | fail)
  obtain ⟨a8, c8, rfl, hc8, hn8, hp8⟩ := own_ps HO.out rfl
  have hwm := Nat.mul_le_mul_right 1000 hwn
  have HSO := Lib.hid (sort_all _ a8 c8 w1 (by omega) hp8 hc8 hn8)
  clear hp8 hn8
  go_wp2_with (go_at_call 28; (with_reducible refine HSO.out.mono ?_); rintro e w9 ⟨a9, c9, rfl, hc9, hn9, hp9, hb9⟩; have HB9 := Lib.hid hb9; have HP9 := Lib.hid hp9; clear hb9 hp9)
  go_ret
  refine ⟨a9, c9, by rw [← HF.out]; rfl, by rw [← HF.out]; exact HP9.out, HB.out.trans (HB9.out.mono HB.out.size)⟩
end Go.Proofs.Ytmbglghpnloggaa.Wal
