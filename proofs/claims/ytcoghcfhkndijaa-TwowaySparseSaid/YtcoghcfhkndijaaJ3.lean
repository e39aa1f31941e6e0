/- The loops of a search, by what is told at each place. -/
import Derived.Test.YtcoghcfhkndijaaJ2
namespace Go.Proofs.Ytcoghcfhkndijaa.Two
open Go.RowKit Go.Maps Go.Proofs.Ytcoghcfhkndijaa.Crt Go.Proofs.Ytcoghcfhkndijaa.Suf Go.Proofs.Ytcoghcfhkndijaa.Prs Go.Proofs.Ytcoghcfhkndijaa.Reg
set_option maxRecDepth 100000
set_option linter.unusedVariables false

/-- What a loop reads. -/
structure Fx (s t : Nat) (b : Tx) (a : Option Addr) (c : Nat) (line : Tx) (al : Option Addr) (cl : Nat) (W : World) : Prop where
  row : W.heap[t]? = some (.cells (twCells b a c) 51 (0, 0))
  txt : Txt W s a b
  len : b.length ≤ c
  ln : Ln W al line cl
theorem Fx.keep {s t : Nat} {b : Tx} {a : Option Addr} {c : Nat} {line : Tx} {al : Option Addr} {cl : Nat} {W W' : World} (h : Fx s t b a c line al cl W) (hb : Below W.heap.size W W') : Fx s t b a c line al cl W' :=
  ⟨(hb.block t (txt_lt h.row)).trans h.row, h.txt.keep hb, h.len, h.ln.keep hb⟩
theorem Fx.drewN {s t : Nat} {b : Tx} {a : Option Addr} {c : Nat} {line : Tx} {al : Option Addr} {cl : Nat} {W : World} (h : Fx s t b a c line al cl W) (q : Nat) : Fx s t b a c line al cl (W.drewN q) := h.keep (below_drews (Below.refl _ _) q)
/-- What a loop is told to do at each place: what holds ahead of a place, and what holds when it is to end. -/
structure Tell (b line : Tx) (fn : FuncId) (caps : Array Value) (I : Nat → World → Prop) (D : World → Prop) : Prop where
  call : ∀ (args : Array Value) (w : World), (callFunc fn args).run Try.prog w = .ok (.enter fn args) w
  drew : ∀ fr W q, I fr W → I fr (W.drewN q)
  hit : ∀ fr p W, I fr W → First b line fr p → p ≤ line.length → Calls Try.prog fn (#[.int .i64 (p : Int)] ++ caps) W fun e W' => (e = .returned (.bool true) ∧ I (p + 1) W') ∨ (e = .returned (.bool false) ∧ D W')
/-- What a loop comes to. -/
def GivesOver (b line : Tx) (I : Nat → World → Prop) (D : World → Prop) (e : Ending) (w' : World) : Prop :=
  e = .returned (.tuple #[]) ∧ ((∃ fr, I fr w' ∧ ∀ q, fr ≤ q → ¬ Stands line b q) ∨ D w')
theorem cut_mid1 (a : Option Addr) (l : Tx) (c k E : Nat) (hk : k ≤ E) (hE : E ≤ l.length) (hc : l.length ≤ c) (w : World) (B : Nat) (hb : Bs w B a l) :
    ∃ A, (∀ W, (Instr.slice 22 (.slice a l.length c) (some (.int .i64 (k : Int))) (some (.int .i64 (E : Int))) none).run Try.prog W = .ok (.slice A (E - k) (c - k)) W) ∧ ∀ X B', Bs X B' a l → Bs X B' A ((l.drop k).take (E - k)) := by
  have ht : Try.prog.underlying 22 = some (.slice (Try.prog.elem 22)) := by simp [Program.elem, Try.underlying22]
  have he : Try.prog.elem 22 = 5 := by simp [Program.elem, Try.underlying22]
  refine ⟨if c = k then a else a.map (·.add k), fun W => ?_, fun X B' hb h0 => ?_⟩
  · rw [run_slice_lh W 22 _ _ _ ht .i64 .i64 _ _ (by omega) (by omega) (by omega), he, size_of5]
    simp [Result.andThen, sliced]
  · rw [List.length_take, List.length_drop] at h0
    obtain ⟨b', o', rfl, hb', hcs⟩ := hb (by omega)
    refine ⟨b', o' + k, by rw [if_neg (by omega)]; simp [Addr.add], hb', fun i hi => ?_⟩
    rw [List.length_take, List.length_drop] at hi
    rw [List.getElem_take, List.getElem_drop, Nat.add_assoc]
    exact hcs (k + i) (by omega)
/-- The texts ahead of the cut, held against each other. -/
theorem equal_cut (b line : Tx) (a al : Option Addr) (c cl s t pos E : Nat) (A : Option Addr) (hE : E = pos + cutAt b) (hcb : cutAt b < b.length) (hpl : pos + b.length ≤ line.length) (hl : b.length ≤ 1000) (hll : line.length ≤ 1000)
    (hA : ∀ X, Bs X X.heap.size al line → Bs X X.heap.size A ((line.drop pos).take (E - pos))) (ca : Nat) (X : World) (hX : Fx s t b a c line al cl X)
    (hr : ∀ i, cutAt b ≤ i → i < b.length → line[pos + i]? = b[i]?) :
    Calls Try.prog 39 #[.slice A (E - pos) ca, .slice a (cutAt b) c] X fun e w' => e = .returned (.bool (decide (Stands line b pos))) ∧ X = w' := by
  have h1 := hA X hX.ln.1
  have h2 := (Cut.cut_front a b c (cutAt b) (by omega) hX.len X X.heap.size hX.txt.bs).2
  have := equal_any X _ _ A a ca c h1 h2 (by rw [List.length_take, List.length_drop]; omega) (by rw [List.length_take]; omega)
  rw [List.length_take, List.length_drop, List.length_take, show min (E - pos) (line.length - pos) = E - pos by omega, show min (cutAt b) b.length = cutAt b by omega] at this
  refine this.mono ?_
  rintro e w' ⟨rfl, rfl⟩
  refine ⟨?_, rfl⟩
  congr 3
  rw [eq_iff_iff, show E - pos = cutAt b by omega]
  constructor
  · intro h i hi
    rcases Nat.lt_or_ge i (cutAt b) with h3 | h3
    · have := congrArg (fun z => z[i]?) h
      simpa [List.getElem?_take, List.getElem?_drop, h3] using this
    · exact hr i h3 hi
  · intro h
    apply List.ext_getElem?
    intro i
    rcases Nat.lt_or_ge i (cutAt b) with h3 | h3
    · have := h i (by omega)
      simpa [List.getElem?_take, List.getElem?_drop, h3] using this
    · simp [List.getElem?_take, Nat.not_lt.2 h3]
theorem move_small {b : Tx} (h0 : b ≠ []) (hs : Small b) : movePer b = cutPer b := by unfold movePer; rw [if_pos ((smallB_iff h0).2 hs)]
theorem move_far {b : Tx} (h0 : b ≠ []) (hs : ¬ Small b) : movePer b = max (cutAt b) (b.length - cutAt b) + 1 := by unfold movePer; rw [if_neg fun h => hs ((smallB_iff h0).1 h)]
theorem move_bounds {b : Tx} (h0 : b ≠ []) : 1 ≤ movePer b ∧ movePer b ≤ per b ∧ movePer b ≤ b.length := by
  have hp := cutPer_le h0
  have hq := per_le h0
  by_cases hs : Small b
  · rw [move_small h0 hs, small_is h0 hs]
    omega
  · have := move_le h0 hs
    rw [move_far h0 hs]
    omega
theorem not_stands {b line : Tx} {pos : Nat} (h : ¬ Stands line b pos) : ∃ i, i < b.length ∧ line[pos + i]? ≠ b[i]? :=
  Classical.byContradiction fun hn => h fun i hi => Classical.byContradiction fun he => hn ⟨i, hi, he⟩
/-- Behind a place it is moved. -/
theorem way_next {b line : Tx} {pos d : Nat} (h0 : b ≠ []) (hs : Stands line b pos) (h1 : 1 ≤ d) (hd : d ≤ per b) : Crt.Way b line (pos + 1) (pos + d) 0 :=
  ⟨by omega, fun q h2 h3 => (hs.next h0).1 q (by omega) (by omega), fun i h => by omega⟩
set_option maxHeartbeats 4000000 in
theorem far_any (w : World) (b line : Tx) (fn : FuncId) (caps : Array Value) (I : Nat → World → Prop) (D : World → Prop) (s t : Nat) (a : Option Addr) (c : Nat) (al : Option Addr) (cl : Nat)
    (hT : Tell b line fn caps I D) (hI : ∀ fr W, I fr W → Fx s t b a c line al cl W) (hD : ∀ W, D W → Fx s t b a c line al cl W) (h0 : b ≠ []) (hl : b.length ≤ 1000) (hll : line.length ≤ 1000) (hsm : ¬ Small b)
    (x : Nat) (hx : x ≤ 9223372036854775807) (hw : I x w) :
    Calls Try.prog 20 #[.pointer (some ⟨t, 0, none⟩), .slice al line.length cl, .int .i64 (x : Int), .func (.func fn) #[] caps] w (GivesOver b line I D) := by
  have HT := Lib.hid hT
  have HI := Lib.hid hI
  have HD := Lib.hid hD
  have HW := Lib.hid hw
  have hc1 : w.cell? ⟨t, 1, none⟩ = some (.int .i64 (cutAt b : Int)) := by rw [cell_of_row w t 1 _ 51 (0, 0) (hI _ _ hw).row]; rfl
  clear hT hI hD hw
  go_enter Try.func20, Try.ntmps20
  go_wp2
  go_step3; go_wp2; go_step3; go_wp2
  go_loopw [9] (fun v wr => ∃ fr pos : Nat, v = .int .i64 (pos : Int) ∧ pos ≤ 9223372036854775807 ∧ Crt.Way b line fr pos 0 ∧ I fr wr) (fun v _ => line.length + 1 - (intOf v).toNat)
  case atStart => exact ⟨x, x, rfl, hx, way_start b line x, HW.out⟩
  case round =>
    obtain ⟨fr, pos, rfl, hpos, hway, hir⟩ := hrel
    have HFX := Lib.hid (HI.out _ _ hir)
    have ht := HFX.out.row
    have hc0 : wr.cell? ⟨t, 0, none⟩ = some (.slice a b.length c) := by rw [cell_of_row wr t 0 _ 51 (0, 0) ht]; rfl
    have hc2 : wr.cell? ⟨t, 2, none⟩ = some (.int .i64 (movePer b : Int)) := by rw [cell_of_row wr t 2 _ 51 (0, 0) ht]; rfl
    have HWAY := Lib.hid hway
    have HIR := Lib.hid hir
    clear hway hir ht
    obtain ⟨M, hM⟩ : ∃ M : Int, M = (line.length : Int) - (b.length : Int) := ⟨_, rfl⟩
    have hwM : IntKind.i64.wrap ((line.length : Int) - (b.length : Int)) = M := by rw [IntWalk.i64_in _ (by omega)]; omega
    have HM := Lib.hid hM
    clear hM
    by_cases hlt : (pos : Int) ≤ M
    · have hpl : pos + b.length ≤ line.length := by have := HM.out; omega
      have HCUT := Lib.hid (cut_len h0)
      go_wp2
      go_loopw [9, 10] (fun va v wi => ∃ i q : Nat, va = .int .i64 (pos : Int) ∧ cutAt b ≤ i ∧ i ≤ b.length ∧ v = .int .i64 (i : Int) ∧ (∀ k, cutAt b ≤ k → k < i → line[pos + k]? = b[k]?) ∧ wi = wr.drewN q) (fun _ v _ => b.length - (intOf v).toNat)
      case atStart => exact ⟨cutAt b, 0, rfl, Nat.le_refl _, Nat.le_of_lt HCUT.out, rfl, fun k h1 h2 => by omega, rfl⟩
      case round =>
        obtain ⟨i, q, rfl, hi1, hi2, rfl, hag, rfl⟩ := hrel
        have hd0 : (wr.drewN q).cell? ⟨t, 0, none⟩ = some (.slice a b.length c) := hc0
        by_cases hib : i < b.length
        · have hib2 : (i : Int) < (b.length : Int) := by omega
          obtain ⟨bt, ot, rfl, _, hr2⟩ := bs_at HFX.out.txt.bs i hib
          obtain ⟨bl, ol, rfl, _, hr1⟩ := bs_at HFX.out.ln.1 (pos + i) (by omega)
          obtain ⟨P, hP⟩ : ∃ P, P = pos + i := ⟨_, rfl⟩
          obtain ⟨y1, hy1⟩ : ∃ y, y = line[pos + i]'(by omega) := ⟨_, rfl⟩
          obtain ⟨y2, hy2⟩ : ∃ y, y = b[i] := ⟨_, rfl⟩
          have hk1 : wr.cell? ⟨bl, ol + P, none⟩ = some (.int .u8 (y1.toNat : Int)) := by rw [hP, hy1]; exact hr1
          have hk2 : wr.cell? ⟨bt, ot + i, none⟩ = some (.int .u8 (y2.toNat : Int)) := by rw [hy2]; exact hr2
          have hwP : IntKind.i64.wrap ((pos : Int) + (i : Int)) = (P : Int) := by rw [IntWalk.i64_in _ (by omega)]; omega
          have hPl : (P : Int) < (line.length : Int) := by omega
          have hd := u8_bne y1 y2
          have hg1 : line[pos + i]? = some y1 := by rw [hy1]; exact List.getElem?_eq_getElem (by omega)
          have hg2 : b[i]? = some y2 := by rw [hy2]; exact List.getElem?_eq_getElem hib
          have HAG := Lib.hid hag
          have HPP := Lib.hid hP
          clear hag hP hy1 hy2 hr1 hr2
          by_cases he : y1 = y2
          · rw [decide_eq_false (fun h => h he)] at hd
            have HE : Hid (line[pos + i]? = b[i]?) := Lib.hid (by rw [hg1, hg2, he])
            clear hg1 hg2 he
            go_wp2
            go_quiet (fail)
            go_wp2
            exact ⟨⟨i + 1, q + nq, rfl, by omega, by omega, by go_num, fun k h1 h2 => by
              by_cases e : k = i
              · rw [e]; exact HE.out
              · exact HAG.out k h1 (by omega), rfl⟩, by simp [intOf]; omega⟩
          · rw [decide_eq_true he] at hd
            have HE : Hid (line[pos + i]? ≠ b[i]?) := Lib.hid (by rw [hg1, hg2]; exact fun h => he (Option.some.inj h))
            clear hg1 hg2 he
            go_wp2
            go_quiet (fail)
            go_wp2
            have HR := Lib.hid (HWAY.out.right h0 (fun k h1 _ h3 => HAG.out k h1 h3) hi1 hib HE.out)
            exact ⟨⟨fr, pos + (i - cutAt b + 1), by go_num, by omega, HR.out, HT.out.drew _ _ _ HIR.out⟩, by simp [intOf]; omega⟩
        · have hie : ¬ (i : Int) < (b.length : Int) := by omega
          have hiL : i = b.length := by omega
          subst hiL
          have hcp := HCUT.out
          obtain ⟨E, hE⟩ : ∃ E, E = pos + cutAt b := ⟨_, rfl⟩
          have hwE : IntKind.i64.wrap ((pos : Int) + (cutAt b : Int)) = (E : Int) := by rw [IntWalk.i64_in _ (by omega)]; omega
          obtain ⟨A, hmid, hA⟩ := cut_mid1 al line cl pos E (by omega) (by omega) HFX.out.ln.2.1 wr _ HFX.out.ln.1
          have hfront := (Cut.cut_front a b c (cutAt b) (by omega) HFX.out.len wr _ HFX.out.txt.bs).1
          have hFXd : Fx s t b a c line al cl (wr.drewN q).drew := HFX.out.drewN (q + 1)
          have HEQ := Lib.hid (equal_cut b line a al c cl s t pos E A hE hcp hpl hl hll (fun X => hA X _) (cl - pos) (wr.drewN q).drew hFXd hag)
          have HAG := Lib.hid hag
          have HE := Lib.hid hE
          have HIR2 : Hid (I fr (wr.drewN q).drew) := Lib.hid (HT.out.drew fr wr (q + 1) HIR.out)
          have hd1 : (wr.drewN q).drew.cell? ⟨t, 0, none⟩ = some (.slice a b.length c) := hd0
          have HC2 : Hid (∀ fr W, I fr W → W.cell? ⟨t, 2, none⟩ = some (.int .i64 (movePer b : Int))) := Lib.hid fun fr W h => by rw [cell_of_row W t 2 _ 51 (0, 0) (HI.out _ _ h).row]; rfl
          have hmv := move_bounds h0
          have HMV := Lib.hid hmv
          obtain ⟨Q, hQ⟩ : ∃ Q, Q = pos + movePer b := ⟨_, rfl⟩
          have hwQ : IntKind.i64.wrap ((pos : Int) + (movePer b : Int)) = (Q : Int) := by rw [IntWalk.i64_in _ (by omega)]; omega
          have HQ := Lib.hid hQ
          clear hag hE hA hFXd hcp hmv hQ
          go_wp2
          refine wp_region_held_drew (S := fun w' => w'.cell? ⟨t, 0, none⟩ = some (.slice a b.length c)) (by kernel_rfl) hd1 (fun hH0 => ?_)
          generalize (wr.drewN q).drew = wd at *
          refine held_take (i := 0) (d := 57) (oi := _) (v := ?_) rfl rfl (by kernel_rfl) (by kernel_rfl) (by kernel_rfl) (fun _ _ _ h => h) (Or.inl ⟨by rfl, ?_⟩) (by assumption) ?_
          rotate_left
          · (intro w hSw; clear hSw; go_simp; (try with_reducible rfl))
          simp only [Act.put, List.setIfInBounds_toArray, List.set_cons_zero, List.set_cons_succ]
          refine held_take (i := 1) (d := 58) (oi := _) (v := ?_) rfl rfl (by kernel_rfl) (by kernel_rfl) (by kernel_rfl) (fun _ _ _ h => h) (Or.inl ⟨by rfl, ?_⟩) (by assumption) ?_
          rotate_left
          · (intro w hSw; clear hSw; go_simp; (try with_reducible rfl))
          simp only [Act.put, List.setIfInBounds_toArray, List.set_cons_zero, List.set_cons_succ]
          refine held_take (i := 2) (d := 59) (oi := _) (v := ?_) rfl rfl (by kernel_rfl) (by kernel_rfl) (by kernel_rfl) (fun _ _ _ h => h) (Or.inl ⟨by rfl, ?_⟩) (by assumption) ?_
          rotate_left
          · (intro w hSw; clear hSw; go_simp; (try with_reducible rfl))
          simp only [Act.put, List.setIfInBounds_toArray, List.set_cons_zero, List.set_cons_succ]
          refine held_take (i := 3) (d := 60) (oi := _) (v := ?_) rfl rfl (by kernel_rfl) (by kernel_rfl) (by kernel_rfl) (fun _ _ _ h => h) (Or.inl ⟨by rfl, ?_⟩) (by assumption) ?_
          rotate_left
          · (intro w hSw; clear hSw; go_simp; (try with_reducible rfl))
          simp only [Act.put, List.setIfInBounds_toArray, List.set_cons_zero, List.set_cons_succ]
          refine held_take (i := 4) (d := 61) (oi := _) (v := ?_) rfl rfl (by kernel_rfl) (by kernel_rfl) (by kernel_rfl) (fun _ _ _ h => h) (Or.inl ⟨by rfl, ?_⟩) (by assumption) ?_
          rotate_left
          · (intro w hSw; clear hSw; go_simp; (try with_reducible rfl))
          simp only [Act.put, List.setIfInBounds_toArray, List.set_cons_zero, List.set_cons_succ]
          refine held_take (i := 5) (d := 62) (oi := _) (v := ?_) rfl rfl (by kernel_rfl) (by kernel_rfl) (by kernel_rfl) (fun _ _ _ h => h) (Or.inl ⟨by rfl, ?_⟩) (by assumption) ?_
          rotate_left
          · (intro w hSw; clear hSw; go_simp; (try with_reducible rfl))
          simp only [Act.put, List.setIfInBounds_toArray, List.set_cons_zero, List.set_cons_succ]
          refine held_take (i := 6) (d := 63) (oi := _) (v := ?_) rfl rfl (by kernel_rfl) (by kernel_rfl) (by kernel_rfl) (fun _ _ _ h => h) (Or.inl ⟨by rfl, ?_⟩) (by assumption) ?_
          rotate_left
          · (intro w hSw; clear hSw; go_simp; (try with_reducible rfl))
          simp only [Act.put, List.setIfInBounds_toArray, List.set_cons_zero, List.set_cons_succ]
          refine held_take (i := 7) (d := 64) (oi := _) (v := ?_) rfl rfl (by kernel_rfl) (by kernel_rfl) (by kernel_rfl) (fun _ _ _ h => h) (Or.inl ⟨by rfl, ?_⟩) (by assumption) ?_
          rotate_left
          · (intro w hSw; clear hSw; go_simp; (try with_reducible rfl))
          simp only [Act.put, List.setIfInBounds_toArray, List.set_cons_zero, List.set_cons_succ]
          refine held_take (i := 8) (d := 65) (oi := _) (v := ?_) rfl rfl (by kernel_rfl) (by kernel_rfl) (by kernel_rfl) (fun _ _ _ h => h) (Or.inl ⟨by rfl, ?_⟩) (by assumption) ?_
          rotate_left
          · (intro w hSw; clear hSw; go_simp; (try with_reducible rfl))
          simp only [Act.put, List.setIfInBounds_toArray, List.set_cons_zero, List.set_cons_succ]
          refine held_take (i := 9) (d := 66) (oi := _) (v := ?_) rfl rfl (by kernel_rfl) (by kernel_rfl) (by kernel_rfl) (fun _ _ _ h => h) (Or.inl ⟨by rfl, ?_⟩) (by assumption) ?_
          rotate_left
          · (intro w hSw; go_simp; (try with_reducible rfl))
          simp only [Act.put, List.setIfInBounds_toArray, List.set_cons_zero, List.set_cons_succ]
          refine held_take (i := 10) (d := 67) (oi := _) (v := ?_) rfl rfl (by kernel_rfl) (by kernel_rfl) (by kernel_rfl) (fun _ _ _ h => h) (Or.inl ⟨by rfl, ?_⟩) (by assumption) ?_
          rotate_left
          · (intro w hSw; clear hSw; go_simp; (try with_reducible rfl))
          simp only [Act.put, List.setIfInBounds_toArray, List.set_cons_zero, List.set_cons_succ]
          refine held_take (i := 11) (d := 68) (oi := _) (v := ?_) rfl rfl (by kernel_rfl) (by kernel_rfl) (by kernel_rfl) (fun _ _ _ h => h) (Or.inl ⟨by rfl, ?_⟩) (by assumption) ?_
          rotate_left
          · (intro w hSw; clear hSw; go_simp; (try with_reducible rfl))
          simp only [Act.put, List.setIfInBounds_toArray, List.set_cons_zero, List.set_cons_succ]
          refine wpAnyH_ready (rs := [12]) (by kernel_rfl) (by simp) ?_
          refine AllReadyH.cons rfl (fun K hK => ?_) AllReadyH.nil
          go_simp
          go_wp2_with (go_at_call 39; (with_reducible refine (HEQ.out).mono ?_); rintro e x' ⟨rfl, rfl⟩)
          refine hK.out _ _ hH0 (fun _ => ?_)
          clear hK K
          refine held_take (i := 13) (d := 70) (oi := _) (v := ?_) rfl rfl (by kernel_rfl) (by kernel_rfl) (by kernel_rfl) (fun _ _ _ h => h) (Or.inl ⟨by rfl, ?_⟩) (by assumption) ?_
          rotate_left
          · (intro w hSw; clear hSw; go_simp; (try with_reducible rfl))
          simp only [Act.put, List.setIfInBounds_toArray, List.set_cons_zero, List.set_cons_succ]
          by_cases hst : Stands line b pos
          · have hdec : decide (Stands line b pos) = true := decide_eq_true hst
            rw [hdec]
            refine held_take (i := 14) (d := 71) (oi := _) (v := ?_) rfl rfl (by kernel_rfl) (by kernel_rfl) (by kernel_rfl) (fun _ _ _ h => h) (Or.inl ⟨by rfl, ?_⟩) (by assumption) ?_
            rotate_left
            · (intro w hSw; clear hSw; go_simp; (try with_reducible rfl))
            simp only [Act.put, List.setIfInBounds_toArray, List.set_cons_zero, List.set_cons_succ]
            refine held_take (i := 15) (d := 72) (oi := _) (v := ?_) rfl rfl (by kernel_rfl) (by kernel_rfl) (by kernel_rfl) (fun _ _ _ h => h) (Or.inl ⟨by rfl, ?_⟩) (by assumption) ?_
            rotate_left
            · (intro w hSw; clear hSw; go_simp; (try with_reducible rfl))
            simp only [Act.put, List.setIfInBounds_toArray, List.set_cons_zero, List.set_cons_succ]
            refine wpAnyH_ready (rs := [16]) (by kernel_rfl) (by simp) ?_
            refine AllReadyH.cons rfl (fun K hK => ?_) AllReadyH.nil
            go_simp
            have hcf := HT.out.call
            have HHIT := Lib.hid (HT.out.hit fr pos wd HIR2.out (HWAY.out.hit hst) (by omega))
            have HST := Lib.hid hst
            clear hst
            rw [hcf]
            go_wp2_with fail
            refine HHIT.out.mono ?_
            rintro e x1 (⟨rfl, hi2⟩ | ⟨rfl, hd2⟩)
            · have hH1 : x1.cell? ⟨t, 0, none⟩ = some (.slice a b.length c) := by rw [cell_of_row x1 t 0 _ 51 (0, 0) (HI.out _ _ hi2).row]; rfl
              refine hK.out _ _ hH1 (fun _ => ?_)
              clear hK K hcf
              refine held_take (i := 17) (d := 74) (oi := _) (v := ?_) rfl rfl (by kernel_rfl) (by kernel_rfl) (by kernel_rfl) (fun _ _ _ h => h) (Or.inl ⟨by rfl, ?_⟩) (by assumption) ?_
              rotate_left
              · (intro w hSw; clear hSw; go_simp; (try with_reducible rfl))
              simp only [Act.put, List.setIfInBounds_toArray, List.set_cons_zero, List.set_cons_succ]
              refine held_take (i := 18) (d := 75) (oi := _) (v := ?_) rfl rfl (by kernel_rfl) (by kernel_rfl) (by kernel_rfl) (fun _ _ _ h => h) (Or.inl ⟨by rfl, ?_⟩) (by assumption) ?_
              rotate_left
              · (intro w hSw; clear hSw; go_simp; (try with_reducible rfl))
              simp only [Act.put, List.setIfInBounds_toArray, List.set_cons_zero, List.set_cons_succ]
              refine wpAnyH_done (by kernel_rfl) ?_ _
              have hc3 := HC2.out _ _ hi2
              clear hc2 hc0 hd0 hd1
              have HI2 := Lib.hid hi2
              clear hi2
              go_wp2
              exact ⟨⟨pos + 1, Q, rfl, by have := HQ.out; have := HMV.out; omega, HQ.out ▸ way_next h0 HST.out HMV.out.1 HMV.out.2.1, HI2.out⟩, by have := HQ.out; have := HMV.out; simp [intOf]; omega⟩
            · have hH1 : x1.cell? ⟨t, 0, none⟩ = some (.slice a b.length c) := by rw [cell_of_row x1 t 0 _ 51 (0, 0) (HD.out _ hd2).row]; rfl
              refine hK.out _ _ hH1 (fun _ => ?_)
              clear hK K hcf
              refine held_take (i := 17) (d := 74) (oi := _) (v := ?_) rfl rfl (by kernel_rfl) (by kernel_rfl) (by kernel_rfl) (fun _ _ _ h => h) (Or.inl ⟨by rfl, ?_⟩) (by assumption) ?_
              rotate_left
              · (intro w hSw; clear hSw; go_simp; (try with_reducible rfl))
              simp only [Act.put, List.setIfInBounds_toArray, List.set_cons_zero, List.set_cons_succ]
              refine held_take (i := 18) (d := 75) (oi := _) (v := ?_) rfl rfl (by kernel_rfl) (by kernel_rfl) (by kernel_rfl) (fun _ _ _ h => h) (Or.inl ⟨by rfl, ?_⟩) (by assumption) ?_
              rotate_left
              · (intro w hSw; clear hSw; go_simp; (try with_reducible rfl))
              simp only [Act.put, List.setIfInBounds_toArray, List.set_cons_zero, List.set_cons_succ]
              refine wpAnyH_done (by kernel_rfl) ?_ _
              have HD2 := Lib.hid hd2
              clear hd2
              go_wp2
              simp only [Exit.noGoto]
              exact bodyPost_ret (results_none rfl _ _ _) rfl ⟨rfl, Or.inr HD2.out⟩
          · have hdec : decide (Stands line b pos) = false := decide_eq_false hst
            rw [hdec]
            refine held_take (i := 14) (d := 71) (oi := _) (v := undef) rfl rfl (by kernel_rfl) (by kernel_rfl) (by kernel_rfl) (fun _ _ _ h => h) (Or.inr ⟨by rfl, rfl⟩) (by assumption) ?_
            simp only [Act.put, List.setIfInBounds_toArray, List.set_cons_zero, List.set_cons_succ]
            refine held_take (i := 15) (d := 72) (oi := _) (v := undef) rfl rfl (by kernel_rfl) (by kernel_rfl) (by kernel_rfl) (fun _ _ _ h => h) (Or.inr ⟨by rfl, rfl⟩) (by assumption) ?_
            simp only [Act.put, List.setIfInBounds_toArray, List.set_cons_zero, List.set_cons_succ]
            refine held_take (i := 16) (d := 73) (oi := _) (v := undef) rfl rfl (by kernel_rfl) (by kernel_rfl) (by kernel_rfl) (fun _ _ _ h => h) (Or.inr ⟨by rfl, rfl⟩) (by assumption) ?_
            simp only [Act.put, List.setIfInBounds_toArray, List.set_cons_zero, List.set_cons_succ]
            refine held_take (i := 17) (d := 74) (oi := _) (v := undef) rfl rfl (by kernel_rfl) (by kernel_rfl) (by kernel_rfl) (fun _ _ _ h => h) (Or.inr ⟨by rfl, rfl⟩) (by assumption) ?_
            simp only [Act.put, List.setIfInBounds_toArray, List.set_cons_zero, List.set_cons_succ]
            refine held_take (i := 18) (d := 75) (oi := _) (v := ?_) rfl rfl (by kernel_rfl) (by kernel_rfl) (by kernel_rfl) (fun _ _ _ h => h) (Or.inl ⟨by rfl, ?_⟩) (by assumption) ?_
            rotate_left
            · (intro w hSw; clear hSw; go_simp; (try with_reducible rfl))
            simp only [Act.put, List.setIfInBounds_toArray, List.set_cons_zero, List.set_cons_succ]
            refine wpAnyH_done (by kernel_rfl) ?_ _
            have hc3 := HC2.out _ _ HIR2.out
            clear hc2 hc0 hd0 hd1
            have HNS := Lib.hid hst
            clear hst
            go_wp2
            obtain ⟨i1, hi3, hi4⟩ := not_stands HNS.out
            have hfar := HWAY.out.far h0 hsm (fun k h1 _ h3 => HAG.out k h1 h3) hi3 hi4
            rw [← move_far h0 hsm, ← HQ.out] at hfar
            exact ⟨⟨fr, Q, rfl, by have := HQ.out; have := HMV.out; omega, hfar, HIR2.out⟩, by have := HQ.out; have := HMV.out; simp [intOf]; omega⟩
    · go_wp2
      go_end0
      have HO := HWAY.out.over h0 (by have := HM.out; omega)
      exact ⟨rfl, Or.inl ⟨fr, HIR.out, HO⟩⟩
end Go.Proofs.Ytcoghcfhkndijaa.Two
