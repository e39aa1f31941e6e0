/- Package by package: J1 J2 J3 J4 J5 J6 Ja Jb. -/
import Derived.Test.YtcbhjhhajeeimaaGreatGI
import Derived.Test.YtcbhjhhajeeimaaGreatGK
import Derived.Test.YtcbhjhhajeeimaaGreatGM
import Derived.Test.YtcbhjhhajeeimaaGreatGP
import Derived.Test.YtcbhjhhajeeimaaGreatGT
import Derived.Test.YtcbhjhhajeeimaaGreatGX
/- slices.Clone of bytes; bytes.Equal. -/
namespace Go.Proofs.YtcbhjhhajeeimaaGreat.Two
open Go.RowKit Go.Maps Go.Proofs.YtcbhjhhajeeimaaGreat.Crt
set_option maxRecDepth 100000
set_option linter.unusedVariables false

set_option maxHeartbeats 2000000 in
theorem sclone_some (l : Tx) (ad : Addr) (cap : Nat) (w : World) (hl : l.length ≤ 1000000000000) (hb : Bs w w.heap.size (some ad) l) :
    Calls Tryz.prog 53 #[.slice (some ad) l.length cap] w (GivesText w l) := by
  obtain ⟨i0, hi, hz0, hz1, hz2⟩ := info_parts info5
  have q22 := Met.eql_nil22
  have HB := Lib.hid hb
  clear hb
  go_enter Tryz.func53, Tryz.ntmps53
  go_wp2_with (at_builtin; refine wpList_append_own _ rfl _ _ 23 rfl w.heap.size 5 i0 (.int .u8 0) 1 1 und22 hi hz0 hz1 hz2 rfl (by decide) _ _ _ rfl (World.ownsRow_made w #[] 0 (Nat.le_refl _) (Nat.zero_le _) rfl) ad l.length cap (vals l) rfl ?qc1 ?qc2 ?qc3 ?qc4 ?qc5 ?qc6 ?_)
  case qc1 => simp [vals]
  case qc2 =>
    intro j u hj
    have hjn : j < l.length := by have := (List.getElem?_eq_some_iff.1 hj).1; simpa [vals] using this
    obtain ⟨b, off, e, hlt, hc⟩ := HB.out (by omega)
    cases e
    have ea : (⟨b, off, none⟩ : Addr).add j = ⟨b, off + j, none⟩ := by unfold Addr.add; split <;> simp_all
    rw [ea]
    have hcc := hc j hjn
    refine Lib.cell?_alloc_some _ ?_
    rw [hcc]
    simpa [vals, hjn] using hj
  case qc3 => intro u hu; obtain ⟨x, _, rfl⟩ := List.mem_map.1 hu; rfl
  case qc4 => unfold maxLen; omega
  case qc5 => omega
  case qc6 => simp
  intro v' w1 hown hgrow hnil
  go_wp2
  go_ret
  obtain ⟨a, c, rfl, ht, hlc, hnc⟩ := own_txt (l := l) (by simpa using hown)
  exact ⟨a, c, rfl, ht, hlc, hnc, ((Below.refl _ w).alloc (Nat.le_refl _) _).grown hgrow (by simp) (by intro k hk; simp [Value.ownBlock] at hk; omega)⟩
set_option maxHeartbeats 1000000 in
theorem sclone_none (n cap : Nat) (w : World) : Calls Tryz.prog 53 #[.slice none n cap] w (GivesText w []) := by
  have q22 := Met.eql_nil22
  go_enter Tryz.func53, Tryz.ntmps53
  go_wp2
  go_ret
  exact ⟨none, 0, rfl, (fun h => absurd h (by simp)), Nat.le_refl _, fun _ => rfl, Below.refl _ _⟩
theorem sclone_any (l : Tx) (a : Option Addr) (cap : Nat) (w : World) (hl : l.length ≤ 1000000000000) (hb : Bs w w.heap.size a l) :
    Calls Tryz.prog 53 #[.slice a l.length cap] w (GivesText w l) := by
  cases a with
  | some ad => exact sclone_some l ad cap w hl hb
  | none =>
    rcases Nat.eq_zero_or_pos l.length with h0 | h0
    · obtain rfl := List.eq_nil_of_length_eq_zero h0
      exact sclone_none _ cap w
    · obtain ⟨b, off, e, _⟩ := hb h0
      cases e
theorem equal_any (w : World) (l m : Tx) (a b : Option Addr) (ca cb : Nat) (ha : Bs w w.heap.size a l) (hb : Bs w w.heap.size b m) (hl : l.length ≤ 1000000) (hm : m.length ≤ 1000000) :
    Calls Tryz.prog 76 #[.slice a l.length ca, .slice b m.length cb] w fun e w' => e = .returned (.bool (decide (l = m))) ∧ w = w' := by
  have h1 := str_of_bs ca ha
  have h2 := str_of_bs cb hb
  go_enter Tryz.func76, Tryz.ntmps76
  go_wp2
  go_ret
  exact ⟨ret_bool (Tri.str_beq l m), rfl⟩
end Go.Proofs.YtcbhjhhajeeimaaGreat.Two
/- A Two in memory; New. -/
namespace Go.Proofs.YtcbhjhhajeeimaaGreat.Two
open Go.RowKit Go.Maps Go.Proofs.YtcbhjhhajeeimaaGreat.Crt Go.Proofs.YtcbhjhhajeeimaaGreat.Suf Go.Proofs.YtcbhjhhajeeimaaGreat.Prs
set_option maxRecDepth 100000
set_option linter.unusedVariables false

/-- Which loop seeks a text. -/
def srch (b : Tx) : FuncId := if smallB b then 56 else 55
def twCells (b : Tx) (a : Option Addr) (c : Nat) : Array Value := #[.slice a b.length c, .int .i64 (cutAt b : Int), .int .i64 (movePer b : Int), .bool (smallB b), .func (.func (srch b)) #[] #[]]
/-- A Two of a text, at a block; all that is its own lies at s or above. -/
def Tw (w : World) (s t : Nat) (b : Tx) : Prop := s ≤ t ∧ ∃ a c, w.heap[t]? = some (.cells (twCells b a c) 122 (0, 0)) ∧ Txt w s a b ∧ b.length ≤ c
theorem Tw.keep {w w' : World} {s t : Nat} {b : Tx} (h : Tw w s t b) (hb : Below w.heap.size w w') : Tw w' s t b := by
  obtain ⟨hs, a, c, h1, h2, h3⟩ := h
  exact ⟨hs, a, c, (hb.block t (txt_lt h1)).trans h1, h2.keep hb, h3⟩
/-- What lies below plays no part. -/
theorem Tw.far {w w' : World} {s t : Nat} {b : Tx} (h : Tw w s t b) (hb : ∀ k, s ≤ k → w'.heap[k]? = w.heap[k]?) : Tw w' s t b := by
  obtain ⟨hs, a, c, h1, h2, h3⟩ := h
  refine ⟨hs, a, c, (hb t hs).trans h1, fun h0 => ?_, h3⟩
  obtain ⟨b', cs, e, hs', hh, hc⟩ := h2 h0
  exact ⟨b', cs, e, hs', (hb b' hs').trans hh, hc⟩
theorem Tw.set {w : World} {s t g i : Nat} {v : Value} {b : Tx} (h : Tw w s t b) (hg : g < s) : Tw (w.setCell ⟨g, i, none⟩ v) s t b :=
  h.far fun k hk => Below.heap_setCell w ⟨g, i, none⟩ v k (show k ≠ g by omega)
def GivesTw (w : World) (b : Tx) (e : Ending) (w' : World) : Prop := ∃ t, e = .returned (.tuple #[.pointer (some ⟨t, 0, none⟩), .int .i64 0]) ∧ Tw w' w.heap.size t b ∧ Below w.heap.size w w'
def GivesPcs (w : World) (l : List Pr) (e : Ending) (w' : World) : Prop := ∃ A c, e = .returned (.slice A l.length c) ∧ Ps w' w'.heap.size A l ∧ Below w.heap.size w w'
/-- A line as it is handed in. -/
def Ln (w : World) (al : Option Addr) (line : Tx) (cl : Nat) : Prop := Bs w w.heap.size al line ∧ line.length ≤ cl ∧ (al = none → cl = 0)
theorem Ln.keep {w w' : World} {al : Option Addr} {line : Tx} {cl : Nat} (h : Ln w al line cl) (hb : Below w.heap.size w w') : Ln w' al line cl := ⟨(h.1.keep hb).more hb.size, h.2⟩
theorem new_none (w : World) (a : Option Addr) (c : Nat) :
    Calls Tryz.prog 36 #[.slice a 0 c] w fun e w' => e = .returned (.tuple #[.pointer none, .int .i64 1]) ∧ Below w.heap.size w w' := by
  go_enter Tryz.func36, Tryz.ntmps36
  go_wp2
  go_ret2
  exact ⟨rfl, Below.refl _ _⟩
theorem new_some (w : World) (b : Tx) (a : Option Addr) (c : Nat) (hln : Ln w a b c) (h0 : b ≠ []) (hl : b.length ≤ 1000) :
    Calls Tryz.prog 36 #[.slice a b.length c] w (GivesTw w b) := by
  have hb := hln.1
  have hlp := List.length_pos_iff.2 h0
  have hbe : ((b.length : Int) == 0) = false := by simp; omega
  have HC := Lib.hid (sclone_any b a c w (by omega) hb)
  have HF := Lib.hid (fun X (hX : Below w.heap.size w X) => Cut.factor_any X b a c ((hb.keep hX).more hX.size) hl)
  have hfv : Cut.facV b = Value.agg #[.int .i64 (cutAt b : Int), .int .i64 (movePer b : Int), .bool (smallB b)] := by unfold Cut.facV; rw [if_neg h0]
  have HV := Lib.hid hfv
  clear hfv hb hln h0
  go_enter Tryz.func36, Tryz.ntmps36
  go_wp2_with fail
  refine HC.out.mono ?_
  rintro e w1 ⟨a1, c1, rfl, ht, hlc, hnc, hb1⟩
  have HT := Lib.hid ht
  have HB1 := Lib.hid hb1
  clear ht hb1
  go_wp2_with fail
  refine (HF.out w1 HB1.out).mono ?_
  rintro e w2 ⟨rfl, hb2⟩
  have hs1 := HB1.out.size
  have HS2 := Lib.hid hb2.size
  have HB2 := Lib.hid (HB1.out.trans (hb2.mono hs1))
  have HT2 := Lib.hid (HT.out.keep hb2)
  have HL := Lib.hid hlc
  clear hb2 hlc
  rw [HV.out]
  cases hsm : smallB b
  · have HSM := Lib.hid hsm
    clear hsm
    go_wp2
    go_ret2
    have hs3 := HB2.out.size
    refine ⟨w2.heap.size, rfl, ⟨hs3, a1, c1, ?_, HT2.out.keep ((Below.refl _ _).alloc (Nat.le_refl _) _), HL.out⟩, HB2.out.alloc hs3 _⟩
    rw [twCells, srch, HSM.out]
    exact heap_alloc_new w2 _
  · have HSM := Lib.hid hsm
    clear hsm
    go_wp2
    go_ret2
    have hs3 := HB2.out.size
    refine ⟨w2.heap.size, rfl, ⟨hs3, a1, c1, ?_, HT2.out.keep ((Below.refl _ _).alloc (Nat.le_refl _) _), HL.out⟩, HB2.out.alloc hs3 _⟩
    rw [twCells, srch, HSM.out]
    exact heap_alloc_new w2 _
end Go.Proofs.YtcbhjhhajeeimaaGreat.Two
/- The loops of a search, by what is told at each place. -/
namespace Go.Proofs.YtcbhjhhajeeimaaGreat.Two
open Go.RowKit Go.Maps Go.Proofs.YtcbhjhhajeeimaaGreat.Crt Go.Proofs.YtcbhjhhajeeimaaGreat.Suf Go.Proofs.YtcbhjhhajeeimaaGreat.Prs Go.Proofs.YtcbhjhhajeeimaaGreat.Reg
set_option maxRecDepth 100000
set_option linter.unusedVariables false

/-- What a loop reads. -/
structure Fx (s t : Nat) (b : Tx) (a : Option Addr) (c : Nat) (line : Tx) (al : Option Addr) (cl : Nat) (W : World) : Prop where
  row : W.heap[t]? = some (.cells (twCells b a c) 122 (0, 0))
  txt : Txt W s a b
  len : b.length ≤ c
  ln : Ln W al line cl
theorem Fx.keep {s t : Nat} {b : Tx} {a : Option Addr} {c : Nat} {line : Tx} {al : Option Addr} {cl : Nat} {W W' : World} (h : Fx s t b a c line al cl W) (hb : Below W.heap.size W W') : Fx s t b a c line al cl W' :=
  ⟨(hb.block t (txt_lt h.row)).trans h.row, h.txt.keep hb, h.len, h.ln.keep hb⟩
theorem Fx.drewN {s t : Nat} {b : Tx} {a : Option Addr} {c : Nat} {line : Tx} {al : Option Addr} {cl : Nat} {W : World} (h : Fx s t b a c line al cl W) (q : Nat) : Fx s t b a c line al cl (W.drewN q) := h.keep (below_drews (Below.refl _ _) q)
/-- What a loop is told to do at each place: what holds ahead of a place, and what holds when it is to end. -/
structure Tell (b line : Tx) (fn : FuncId) (caps : Array Value) (I : Nat → World → Prop) (D : World → Prop) : Prop where
  call : ∀ (args : Array Value) (w : World), (callFunc fn args).run Tryz.prog w = .ok (.enter fn args) w
  drew : ∀ fr W q, I fr W → I fr (W.drewN q)
  hit : ∀ fr p W, I fr W → First b line fr p → p ≤ line.length → Calls Tryz.prog fn (#[.int .i64 (p : Int)] ++ caps) W fun e W' => (e = .returned (.bool true) ∧ I (p + 1) W') ∨ (e = .returned (.bool false) ∧ D W')
/-- What a loop comes to. -/
def GivesOver (b line : Tx) (I : Nat → World → Prop) (D : World → Prop) (e : Ending) (w' : World) : Prop :=
  e = .returned (.tuple #[]) ∧ ((∃ fr, I fr w' ∧ ∀ q, fr ≤ q → ¬ Stands line b q) ∨ D w')
theorem cut_mid1 (a : Option Addr) (l : Tx) (c k E : Nat) (hk : k ≤ E) (hE : E ≤ l.length) (hc : l.length ≤ c) (w : World) (B : Nat) (hb : Bs w B a l) :
    ∃ A, (∀ W, (Instr.slice 23 (.slice a l.length c) (some (.int .i64 (k : Int))) (some (.int .i64 (E : Int))) none).run Tryz.prog W = .ok (.slice A (E - k) (c - k)) W) ∧ ∀ X B', Bs X B' a l → Bs X B' A ((l.drop k).take (E - k)) := by
  have ht : Tryz.prog.underlying 23 = some (.slice (Tryz.prog.elem 23)) := by simp [Program.elem, Tryz.underlying23]
  have he : Tryz.prog.elem 23 = 5 := by simp [Program.elem, Tryz.underlying23]
  refine ⟨if c = k then a else a.map (·.add k), fun W => ?_, fun X B' hb h0 => ?_⟩
  · rw [run_slice_lh W 23 _ _ _ ht .i64 .i64 _ _ (by omega) (by omega) (by omega), he, size_of5]
    simp [Result.andThen, sliced]
  · rw [List.length_take, List.length_drop] at h0
    obtain ⟨b', o', rfl, hb', hcs⟩ := hb (by omega)
    refine ⟨b', o' + k, by rw [if_neg (by omega)]; simp [Addr.add], hb', fun i hi => ?_⟩
    rw [List.length_take, List.length_drop] at hi
    rw [List.getElem_take, List.getElem_drop, Nat.add_assoc]
    exact hcs (k + i) (by omega)
/-- The texts ahead of the cut, held against each other. -/
theorem equal_cut (b line : Tx) (a al : Option Addr) (c cl s t pos E : Nat) (A : Option Addr) (hE : E = pos + cutAt b) (hcb : cutAt b < b.length) (hpl : pos + b.length ≤ line.length) (hl : b.length ≤ 1000) (hll : line.length ≤ 1000)
    (hA : ∀ X, Bs X X.heap.size al line → Bs X X.heap.size A ((line.drop pos).take (E - pos))) (ca : Nat) (X : World) (hX : Fx s t b a c line al cl X)
    (hr : ∀ i, cutAt b ≤ i → i < b.length → line[pos + i]? = b[i]?) :
    Calls Tryz.prog 76 #[.slice A (E - pos) ca, .slice a (cutAt b) c] X fun e w' => e = .returned (.bool (decide (Stands line b pos))) ∧ X = w' := by
  have h1 := hA X hX.ln.1
  have h2 := (Cut.cut_front a b c (cutAt b) (by omega) hX.len X X.heap.size hX.txt.bs).2
  have := equal_any X _ _ A a ca c h1 h2 (by rw [List.length_take, List.length_drop]; omega) (by rw [List.length_take]; omega)
  rw [List.length_take, List.length_drop, List.length_take, show min (E - pos) (line.length - pos) = E - pos by omega, show min (cutAt b) b.length = cutAt b by omega] at this
  refine this.mono ?_
  rintro e w' ⟨rfl, rfl⟩
  refine ⟨?_, rfl⟩
  congr 3
  rw [eq_iff_iff, show E - pos = cutAt b by omega]
  constructor
  · intro h i hi
    rcases Nat.lt_or_ge i (cutAt b) with h3 | h3
    · have := congrArg (fun z => z[i]?) h
      simpa [List.getElem?_take, List.getElem?_drop, h3] using this
    · exact hr i h3 hi
  · intro h
    apply List.ext_getElem?
    intro i
    rcases Nat.lt_or_ge i (cutAt b) with h3 | h3
    · have := h i (by omega)
      simpa [List.getElem?_take, List.getElem?_drop, h3] using this
    · simp [List.getElem?_take, Nat.not_lt.2 h3]
theorem move_small {b : Tx} (h0 : b ≠ []) (hs : Small b) : movePer b = cutPer b := by unfold movePer; rw [if_pos ((smallB_iff h0).2 hs)]
theorem move_far {b : Tx} (h0 : b ≠ []) (hs : ¬ Small b) : movePer b = max (cutAt b) (b.length - cutAt b) + 1 := by unfold movePer; rw [if_neg fun h => hs ((smallB_iff h0).1 h)]
theorem move_bounds {b : Tx} (h0 : b ≠ []) : 1 ≤ movePer b ∧ movePer b ≤ per b ∧ movePer b ≤ b.length := by
  have hp := cutPer_le h0
  have hq := per_le h0
  by_cases hs : Small b
  · rw [move_small h0 hs, small_is h0 hs]
    omega
  · have := move_le h0 hs
    rw [move_far h0 hs]
    omega
theorem not_stands {b line : Tx} {pos : Nat} (h : ¬ Stands line b pos) : ∃ i, i < b.length ∧ line[pos + i]? ≠ b[i]? :=
  Classical.byContradiction fun hn => h fun i hi => Classical.byContradiction fun he => hn ⟨i, hi, he⟩
/-- Behind a place it is moved. -/
theorem way_next {b line : Tx} {pos d : Nat} (h0 : b ≠ []) (hs : Stands line b pos) (h1 : 1 ≤ d) (hd : d ≤ per b) : Crt.Way b line (pos + 1) (pos + d) 0 :=
  ⟨by omega, fun q h2 h3 => (hs.next h0).1 q (by omega) (by omega), fun i h => by omega⟩
set_option maxHeartbeats 4000000 in
theorem far_any (w : World) (b line : Tx) (fn : FuncId) (caps : Array Value) (I : Nat → World → Prop) (D : World → Prop) (s t : Nat) (a : Option Addr) (c : Nat) (al : Option Addr) (cl : Nat)
    (hT : Tell b line fn caps I D) (hI : ∀ fr W, I fr W → Fx s t b a c line al cl W) (hD : ∀ W, D W → Fx s t b a c line al cl W) (h0 : b ≠ []) (hl : b.length ≤ 1000) (hll : line.length ≤ 1000) (hsm : ¬ Small b)
    (x : Nat) (hx : x ≤ 9223372036854775807) (hw : I x w) :
    Calls Tryz.prog 55 #[.pointer (some ⟨t, 0, none⟩), .slice al line.length cl, .int .i64 (x : Int), .func (.func fn) #[] caps] w (GivesOver b line I D) := by
  have HT := Lib.hid hT
  have HI := Lib.hid hI
  have HD := Lib.hid hD
  have HW := Lib.hid hw
  have hc1 : w.cell? ⟨t, 1, none⟩ = some (.int .i64 (cutAt b : Int)) := by rw [cell_of_row w t 1 _ 122 (0, 0) (hI _ _ hw).row]; rfl
  clear hT hI hD hw
  go_enter Tryz.func55, Tryz.ntmps55
  go_wp2
  go_step3; go_wp2; go_step3; go_wp2
  go_loopw [9] (fun v wr => ∃ fr pos : Nat, v = .int .i64 (pos : Int) ∧ pos ≤ 9223372036854775807 ∧ Crt.Way b line fr pos 0 ∧ I fr wr) (fun v _ => line.length + 1 - (intOf v).toNat)
  case atStart => exact ⟨x, x, rfl, hx, way_start b line x, HW.out⟩
  case round =>
    obtain ⟨fr, pos, rfl, hpos, hway, hir⟩ := hrel
    have HFX := Lib.hid (HI.out _ _ hir)
    have ht := HFX.out.row
    have hc0 : wr.cell? ⟨t, 0, none⟩ = some (.slice a b.length c) := by rw [cell_of_row wr t 0 _ 122 (0, 0) ht]; rfl
    have hc2 : wr.cell? ⟨t, 2, none⟩ = some (.int .i64 (movePer b : Int)) := by rw [cell_of_row wr t 2 _ 122 (0, 0) ht]; rfl
    have HWAY := Lib.hid hway
    have HIR := Lib.hid hir
    clear hway hir ht
    obtain ⟨M, hM⟩ : ∃ M : Int, M = (line.length : Int) - (b.length : Int) := ⟨_, rfl⟩
    have hwM : IntKind.i64.wrap ((line.length : Int) - (b.length : Int)) = M := by rw [IntWalk.i64_in _ (by omega)]; omega
    have HM := Lib.hid hM
    clear hM
    by_cases hlt : (pos : Int) ≤ M
    · have hpl : pos + b.length ≤ line.length := by have := HM.out; omega
      have HCUT := Lib.hid (cut_len h0)
      go_wp2
      go_loopw [9, 10] (fun va v wi => ∃ i q : Nat, va = .int .i64 (pos : Int) ∧ cutAt b ≤ i ∧ i ≤ b.length ∧ v = .int .i64 (i : Int) ∧ (∀ k, cutAt b ≤ k → k < i → line[pos + k]? = b[k]?) ∧ wi = wr.drewN q) (fun _ v _ => b.length - (intOf v).toNat)
      case atStart => exact ⟨cutAt b, 0, rfl, Nat.le_refl _, Nat.le_of_lt HCUT.out, rfl, fun k h1 h2 => by omega, rfl⟩
      case round =>
        obtain ⟨i, q, rfl, hi1, hi2, rfl, hag, rfl⟩ := hrel
        have hd0 : (wr.drewN q).cell? ⟨t, 0, none⟩ = some (.slice a b.length c) := hc0
        by_cases hib : i < b.length
        · have hib2 : (i : Int) < (b.length : Int) := by omega
          obtain ⟨bt, ot, rfl, _, hr2⟩ := bs_at HFX.out.txt.bs i hib
          obtain ⟨bl, ol, rfl, _, hr1⟩ := bs_at HFX.out.ln.1 (pos + i) (by omega)
          obtain ⟨P, hP⟩ : ∃ P, P = pos + i := ⟨_, rfl⟩
          obtain ⟨y1, hy1⟩ : ∃ y, y = line[pos + i]'(by omega) := ⟨_, rfl⟩
          obtain ⟨y2, hy2⟩ : ∃ y, y = b[i] := ⟨_, rfl⟩
          have hk1 : wr.cell? ⟨bl, ol + P, none⟩ = some (.int .u8 (y1.toNat : Int)) := by rw [hP, hy1]; exact hr1
          have hk2 : wr.cell? ⟨bt, ot + i, none⟩ = some (.int .u8 (y2.toNat : Int)) := by rw [hy2]; exact hr2
          have hwP : IntKind.i64.wrap ((pos : Int) + (i : Int)) = (P : Int) := by rw [IntWalk.i64_in _ (by omega)]; omega
          have hPl : (P : Int) < (line.length : Int) := by omega
          have hd := u8_bne y1 y2
          have hg1 : line[pos + i]? = some y1 := by rw [hy1]; exact List.getElem?_eq_getElem (by omega)
          have hg2 : b[i]? = some y2 := by rw [hy2]; exact List.getElem?_eq_getElem hib
          have HAG := Lib.hid hag
          have HPP := Lib.hid hP
          clear hag hP hy1 hy2 hr1 hr2
          by_cases he : y1 = y2
          · rw [decide_eq_false (fun h => h he)] at hd
            have HE : Hid (line[pos + i]? = b[i]?) := Lib.hid (by rw [hg1, hg2, he])
            clear hg1 hg2 he
            go_wp2
            go_quiet (fail)
            go_wp2
            exact ⟨⟨i + 1, q + nq, rfl, by omega, by omega, by go_num, fun k h1 h2 => by
              by_cases e : k = i
              · rw [e]; exact HE.out
              · exact HAG.out k h1 (by omega), rfl⟩, by simp [intOf]; omega⟩
          · rw [decide_eq_true he] at hd
            have HE : Hid (line[pos + i]? ≠ b[i]?) := Lib.hid (by rw [hg1, hg2]; exact fun h => he (Option.some.inj h))
            clear hg1 hg2 he
            go_wp2
            go_quiet (fail)
            go_wp2
            have HR := Lib.hid (HWAY.out.right h0 (fun k h1 _ h3 => HAG.out k h1 h3) hi1 hib HE.out)
            exact ⟨⟨fr, pos + (i - cutAt b + 1), by go_num, by omega, HR.out, HT.out.drew _ _ _ HIR.out⟩, by simp [intOf]; omega⟩
        · have hie : ¬ (i : Int) < (b.length : Int) := by omega
          have hiL : i = b.length := by omega
          subst hiL
          have hcp := HCUT.out
          obtain ⟨E, hE⟩ : ∃ E, E = pos + cutAt b := ⟨_, rfl⟩
          have hwE : IntKind.i64.wrap ((pos : Int) + (cutAt b : Int)) = (E : Int) := by rw [IntWalk.i64_in _ (by omega)]; omega
          obtain ⟨A, hmid, hA⟩ := cut_mid1 al line cl pos E (by omega) (by omega) HFX.out.ln.2.1 wr _ HFX.out.ln.1
          have hfront := (Cut.cut_front a b c (cutAt b) (by omega) HFX.out.len wr _ HFX.out.txt.bs).1
          have hFXd : Fx s t b a c line al cl (wr.drewN q).drew := HFX.out.drewN (q + 1)
          have HEQ := Lib.hid (equal_cut b line a al c cl s t pos E A hE hcp hpl hl hll (fun X => hA X _) (cl - pos) (wr.drewN q).drew hFXd hag)
          have HAG := Lib.hid hag
          have HE := Lib.hid hE
          have HIR2 : Hid (I fr (wr.drewN q).drew) := Lib.hid (HT.out.drew fr wr (q + 1) HIR.out)
          have hd1 : (wr.drewN q).drew.cell? ⟨t, 0, none⟩ = some (.slice a b.length c) := hd0
          have HC2 : Hid (∀ fr W, I fr W → W.cell? ⟨t, 2, none⟩ = some (.int .i64 (movePer b : Int))) := Lib.hid fun fr W h => by rw [cell_of_row W t 2 _ 122 (0, 0) (HI.out _ _ h).row]; rfl
          have hmv := move_bounds h0
          have HMV := Lib.hid hmv
          obtain ⟨Q, hQ⟩ : ∃ Q, Q = pos + movePer b := ⟨_, rfl⟩
          have hwQ : IntKind.i64.wrap ((pos : Int) + (movePer b : Int)) = (Q : Int) := by rw [IntWalk.i64_in _ (by omega)]; omega
          have HQ := Lib.hid hQ
          clear hag hE hA hFXd hcp hmv hQ
          go_wp2
          refine wp_region_held_drew (S := fun w' => w'.cell? ⟨t, 0, none⟩ = some (.slice a b.length c)) (by kernel_rfl) hd1 (fun hH0 => ?_)
          generalize (wr.drewN q).drew = wd at *
          refine held_take (i := 0) (d := 57) (oi := _) (v := ?_) rfl rfl (by kernel_rfl) (by kernel_rfl) (by kernel_rfl) (fun _ _ _ h => h) (Or.inl ⟨by rfl, ?_⟩) (by assumption) ?_
          rotate_left
          · (intro w hSw; clear hSw; go_simp; (try with_reducible rfl))
          simp only [Act.put, List.setIfInBounds_toArray, List.set_cons_zero, List.set_cons_succ]
          refine held_take (i := 1) (d := 58) (oi := _) (v := ?_) rfl rfl (by kernel_rfl) (by kernel_rfl) (by kernel_rfl) (fun _ _ _ h => h) (Or.inl ⟨by rfl, ?_⟩) (by assumption) ?_
          rotate_left
          · (intro w hSw; clear hSw; go_simp; (try with_reducible rfl))
          simp only [Act.put, List.setIfInBounds_toArray, List.set_cons_zero, List.set_cons_succ]
          refine held_take (i := 2) (d := 59) (oi := _) (v := ?_) rfl rfl (by kernel_rfl) (by kernel_rfl) (by kernel_rfl) (fun _ _ _ h => h) (Or.inl ⟨by rfl, ?_⟩) (by assumption) ?_
          rotate_left
          · (intro w hSw; clear hSw; go_simp; (try with_reducible rfl))
          simp only [Act.put, List.setIfInBounds_toArray, List.set_cons_zero, List.set_cons_succ]
          refine held_take (i := 3) (d := 60) (oi := _) (v := ?_) rfl rfl (by kernel_rfl) (by kernel_rfl) (by kernel_rfl) (fun _ _ _ h => h) (Or.inl ⟨by rfl, ?_⟩) (by assumption) ?_
          rotate_left
          · (intro w hSw; clear hSw; go_simp; (try with_reducible rfl))
          simp only [Act.put, List.setIfInBounds_toArray, List.set_cons_zero, List.set_cons_succ]
          refine held_take (i := 4) (d := 61) (oi := _) (v := ?_) rfl rfl (by kernel_rfl) (by kernel_rfl) (by kernel_rfl) (fun _ _ _ h => h) (Or.inl ⟨by rfl, ?_⟩) (by assumption) ?_
          rotate_left
          · (intro w hSw; clear hSw; go_simp; (try with_reducible rfl))
          simp only [Act.put, List.setIfInBounds_toArray, List.set_cons_zero, List.set_cons_succ]
          refine held_take (i := 5) (d := 62) (oi := _) (v := ?_) rfl rfl (by kernel_rfl) (by kernel_rfl) (by kernel_rfl) (fun _ _ _ h => h) (Or.inl ⟨by rfl, ?_⟩) (by assumption) ?_
          rotate_left
          · (intro w hSw; clear hSw; go_simp; (try with_reducible rfl))
          simp only [Act.put, List.setIfInBounds_toArray, List.set_cons_zero, List.set_cons_succ]
          refine held_take (i := 6) (d := 63) (oi := _) (v := ?_) rfl rfl (by kernel_rfl) (by kernel_rfl) (by kernel_rfl) (fun _ _ _ h => h) (Or.inl ⟨by rfl, ?_⟩) (by assumption) ?_
          rotate_left
          · (intro w hSw; clear hSw; go_simp; (try with_reducible rfl))
          simp only [Act.put, List.setIfInBounds_toArray, List.set_cons_zero, List.set_cons_succ]
          refine held_take (i := 7) (d := 64) (oi := _) (v := ?_) rfl rfl (by kernel_rfl) (by kernel_rfl) (by kernel_rfl) (fun _ _ _ h => h) (Or.inl ⟨by rfl, ?_⟩) (by assumption) ?_
          rotate_left
          · (intro w hSw; clear hSw; go_simp; (try with_reducible rfl))
          simp only [Act.put, List.setIfInBounds_toArray, List.set_cons_zero, List.set_cons_succ]
          refine held_take (i := 8) (d := 65) (oi := _) (v := ?_) rfl rfl (by kernel_rfl) (by kernel_rfl) (by kernel_rfl) (fun _ _ _ h => h) (Or.inl ⟨by rfl, ?_⟩) (by assumption) ?_
          rotate_left
          · (intro w hSw; clear hSw; go_simp; (try with_reducible rfl))
          simp only [Act.put, List.setIfInBounds_toArray, List.set_cons_zero, List.set_cons_succ]
          refine held_take (i := 9) (d := 66) (oi := _) (v := ?_) rfl rfl (by kernel_rfl) (by kernel_rfl) (by kernel_rfl) (fun _ _ _ h => h) (Or.inl ⟨by rfl, ?_⟩) (by assumption) ?_
          rotate_left
          · (intro w hSw; go_simp; (try with_reducible rfl))
          simp only [Act.put, List.setIfInBounds_toArray, List.set_cons_zero, List.set_cons_succ]
          refine held_take (i := 10) (d := 67) (oi := _) (v := ?_) rfl rfl (by kernel_rfl) (by kernel_rfl) (by kernel_rfl) (fun _ _ _ h => h) (Or.inl ⟨by rfl, ?_⟩) (by assumption) ?_
          rotate_left
          · (intro w hSw; clear hSw; go_simp; (try with_reducible rfl))
          simp only [Act.put, List.setIfInBounds_toArray, List.set_cons_zero, List.set_cons_succ]
          refine held_take (i := 11) (d := 68) (oi := _) (v := ?_) rfl rfl (by kernel_rfl) (by kernel_rfl) (by kernel_rfl) (fun _ _ _ h => h) (Or.inl ⟨by rfl, ?_⟩) (by assumption) ?_
          rotate_left
          · (intro w hSw; clear hSw; go_simp; (try with_reducible rfl))
          simp only [Act.put, List.setIfInBounds_toArray, List.set_cons_zero, List.set_cons_succ]
          refine wpAnyH_ready (rs := [12]) (by kernel_rfl) (by simp) ?_
          refine AllReadyH.cons rfl (fun K hK => ?_) AllReadyH.nil
          go_simp
          go_wp2_with (go_at_call 76; (with_reducible refine (HEQ.out).mono ?_); rintro e x' ⟨rfl, rfl⟩)
          refine hK.out _ _ hH0 (fun _ => ?_)
          clear hK K
          refine held_take (i := 13) (d := 70) (oi := _) (v := ?_) rfl rfl (by kernel_rfl) (by kernel_rfl) (by kernel_rfl) (fun _ _ _ h => h) (Or.inl ⟨by rfl, ?_⟩) (by assumption) ?_
          rotate_left
          · (intro w hSw; clear hSw; go_simp; (try with_reducible rfl))
          simp only [Act.put, List.setIfInBounds_toArray, List.set_cons_zero, List.set_cons_succ]
          by_cases hst : Stands line b pos
          · have hdec : decide (Stands line b pos) = true := decide_eq_true hst
            rw [hdec]
            refine held_take (i := 14) (d := 71) (oi := _) (v := ?_) rfl rfl (by kernel_rfl) (by kernel_rfl) (by kernel_rfl) (fun _ _ _ h => h) (Or.inl ⟨by rfl, ?_⟩) (by assumption) ?_
            rotate_left
            · (intro w hSw; clear hSw; go_simp; (try with_reducible rfl))
            simp only [Act.put, List.setIfInBounds_toArray, List.set_cons_zero, List.set_cons_succ]
            refine held_take (i := 15) (d := 72) (oi := _) (v := ?_) rfl rfl (by kernel_rfl) (by kernel_rfl) (by kernel_rfl) (fun _ _ _ h => h) (Or.inl ⟨by rfl, ?_⟩) (by assumption) ?_
            rotate_left
            · (intro w hSw; clear hSw; go_simp; (try with_reducible rfl))
            simp only [Act.put, List.setIfInBounds_toArray, List.set_cons_zero, List.set_cons_succ]
            refine wpAnyH_ready (rs := [16]) (by kernel_rfl) (by simp) ?_
            refine AllReadyH.cons rfl (fun K hK => ?_) AllReadyH.nil
            go_simp
            have hcf := HT.out.call
            have HHIT := Lib.hid (HT.out.hit fr pos wd HIR2.out (HWAY.out.hit hst) (by omega))
            have HST := Lib.hid hst
            clear hst
            rw [hcf]
            go_wp2_with fail
            refine HHIT.out.mono ?_
            rintro e x1 (⟨rfl, hi2⟩ | ⟨rfl, hd2⟩)
            · have hH1 : x1.cell? ⟨t, 0, none⟩ = some (.slice a b.length c) := by rw [cell_of_row x1 t 0 _ 122 (0, 0) (HI.out _ _ hi2).row]; rfl
              refine hK.out _ _ hH1 (fun _ => ?_)
              clear hK K hcf
              refine held_take (i := 17) (d := 74) (oi := _) (v := ?_) rfl rfl (by kernel_rfl) (by kernel_rfl) (by kernel_rfl) (fun _ _ _ h => h) (Or.inl ⟨by rfl, ?_⟩) (by assumption) ?_
              rotate_left
              · (intro w hSw; clear hSw; go_simp; (try with_reducible rfl))
              simp only [Act.put, List.setIfInBounds_toArray, List.set_cons_zero, List.set_cons_succ]
              refine held_take (i := 18) (d := 75) (oi := _) (v := ?_) rfl rfl (by kernel_rfl) (by kernel_rfl) (by kernel_rfl) (fun _ _ _ h => h) (Or.inl ⟨by rfl, ?_⟩) (by assumption) ?_
              rotate_left
              · (intro w hSw; clear hSw; go_simp; (try with_reducible rfl))
              simp only [Act.put, List.setIfInBounds_toArray, List.set_cons_zero, List.set_cons_succ]
              refine wpAnyH_done (by kernel_rfl) ?_ _
              have hc3 := HC2.out _ _ hi2
              clear hc2 hc0 hd0 hd1
              have HI2 := Lib.hid hi2
              clear hi2
              go_wp2
              exact ⟨⟨pos + 1, Q, rfl, by have := HQ.out; have := HMV.out; omega, HQ.out ▸ way_next h0 HST.out HMV.out.1 HMV.out.2.1, HI2.out⟩, by have := HQ.out; have := HMV.out; simp [intOf]; omega⟩
            · have hH1 : x1.cell? ⟨t, 0, none⟩ = some (.slice a b.length c) := by rw [cell_of_row x1 t 0 _ 122 (0, 0) (HD.out _ hd2).row]; rfl
              refine hK.out _ _ hH1 (fun _ => ?_)
              clear hK K hcf
              refine held_take (i := 17) (d := 74) (oi := _) (v := ?_) rfl rfl (by kernel_rfl) (by kernel_rfl) (by kernel_rfl) (fun _ _ _ h => h) (Or.inl ⟨by rfl, ?_⟩) (by assumption) ?_
              rotate_left
              · (intro w hSw; clear hSw; go_simp; (try with_reducible rfl))
              simp only [Act.put, List.setIfInBounds_toArray, List.set_cons_zero, List.set_cons_succ]
              refine held_take (i := 18) (d := 75) (oi := _) (v := ?_) rfl rfl (by kernel_rfl) (by kernel_rfl) (by kernel_rfl) (fun _ _ _ h => h) (Or.inl ⟨by rfl, ?_⟩) (by assumption) ?_
              rotate_left
              · (intro w hSw; clear hSw; go_simp; (try with_reducible rfl))
              simp only [Act.put, List.setIfInBounds_toArray, List.set_cons_zero, List.set_cons_succ]
              refine wpAnyH_done (by kernel_rfl) ?_ _
              have HD2 := Lib.hid hd2
              clear hd2
              go_wp2
              simp only [Exit.noGoto]
              exact bodyPost_ret (results_none rfl _ _ _) rfl ⟨rfl, Or.inr HD2.out⟩
          · have hdec : decide (Stands line b pos) = false := decide_eq_false hst
            rw [hdec]
            refine held_take (i := 14) (d := 71) (oi := _) (v := undef) rfl rfl (by kernel_rfl) (by kernel_rfl) (by kernel_rfl) (fun _ _ _ h => h) (Or.inr ⟨by rfl, rfl⟩) (by assumption) ?_
            simp only [Act.put, List.setIfInBounds_toArray, List.set_cons_zero, List.set_cons_succ]
            refine held_take (i := 15) (d := 72) (oi := _) (v := undef) rfl rfl (by kernel_rfl) (by kernel_rfl) (by kernel_rfl) (fun _ _ _ h => h) (Or.inr ⟨by rfl, rfl⟩) (by assumption) ?_
            simp only [Act.put, List.setIfInBounds_toArray, List.set_cons_zero, List.set_cons_succ]
            refine held_take (i := 16) (d := 73) (oi := _) (v := undef) rfl rfl (by kernel_rfl) (by kernel_rfl) (by kernel_rfl) (fun _ _ _ h => h) (Or.inr ⟨by rfl, rfl⟩) (by assumption) ?_
            simp only [Act.put, List.setIfInBounds_toArray, List.set_cons_zero, List.set_cons_succ]
            refine held_take (i := 17) (d := 74) (oi := _) (v := undef) rfl rfl (by kernel_rfl) (by kernel_rfl) (by kernel_rfl) (fun _ _ _ h => h) (Or.inr ⟨by rfl, rfl⟩) (by assumption) ?_
            simp only [Act.put, List.setIfInBounds_toArray, List.set_cons_zero, List.set_cons_succ]
            refine held_take (i := 18) (d := 75) (oi := _) (v := ?_) rfl rfl (by kernel_rfl) (by kernel_rfl) (by kernel_rfl) (fun _ _ _ h => h) (Or.inl ⟨by rfl, ?_⟩) (by assumption) ?_
            rotate_left
            · (intro w hSw; clear hSw; go_simp; (try with_reducible rfl))
            simp only [Act.put, List.setIfInBounds_toArray, List.set_cons_zero, List.set_cons_succ]
            refine wpAnyH_done (by kernel_rfl) ?_ _
            have hc3 := HC2.out _ _ HIR2.out
            clear hc2 hc0 hd0 hd1
            have HNS := Lib.hid hst
            clear hst
            go_wp2
            obtain ⟨i1, hi3, hi4⟩ := not_stands HNS.out
            have hfar := HWAY.out.far h0 hsm (fun k h1 _ h3 => HAG.out k h1 h3) hi3 hi4
            rw [← move_far h0 hsm, ← HQ.out] at hfar
            exact ⟨⟨fr, Q, rfl, by have := HQ.out; have := HMV.out; omega, hfar, HIR2.out⟩, by have := HQ.out; have := HMV.out; simp [intOf]; omega⟩
    · go_wp2
      go_end0
      have HO := HWAY.out.over h0 (by have := HM.out; omega)
      exact ⟨rfl, Or.inl ⟨fr, HIR.out, HO⟩⟩
end Go.Proofs.YtcbhjhhajeeimaaGreat.Two
/- The loop of a text that is moved by its period. -/
namespace Go.Proofs.YtcbhjhhajeeimaaGreat.Two
open Go.RowKit Go.Maps Go.Proofs.YtcbhjhhajeeimaaGreat.Crt Go.Proofs.YtcbhjhhajeeimaaGreat.Suf Go.Proofs.YtcbhjhhajeeimaaGreat.Prs Go.Proofs.YtcbhjhhajeeimaaGreat.Reg
set_option maxRecDepth 100000
set_option linter.unusedVariables false

theorem way_next2 {b line : Tx} {pos : Nat} (h0 : b ≠ []) (hs : Small b) (h : Stands line b pos) : Crt.Way b line (pos + 1) (pos + movePer b) (b.length - movePer b) := by
  have hm := move_small h0 hs
  rw [← small_is h0 hs] at hm
  have hp := per_pos h0
  rw [hm]
  exact ⟨by omega, fun q h2 h3 => (h.next h0).1 q (by omega) (by omega), fun i h1 => (h.next h0).2 i (by omega)⟩
set_option maxHeartbeats 4000000 in
theorem near_any (w : World) (b line : Tx) (fn : FuncId) (caps : Array Value) (I : Nat → World → Prop) (D : World → Prop) (s t : Nat) (a : Option Addr) (c : Nat) (al : Option Addr) (cl : Nat)
    (hT : Tell b line fn caps I D) (hI : ∀ fr W, I fr W → Fx s t b a c line al cl W) (hD : ∀ W, D W → Fx s t b a c line al cl W) (h0 : b ≠ []) (hl : b.length ≤ 1000) (hll : line.length ≤ 1000) (hsm : Small b)
    (x : Nat) (hx : x ≤ 9223372036854775807) (hw : I x w) :
    Calls Tryz.prog 56 #[.pointer (some ⟨t, 0, none⟩), .slice al line.length cl, .int .i64 (x : Int), .func (.func fn) #[] caps] w (GivesOver b line I D) := by
  have HT := Lib.hid hT
  have HI := Lib.hid hI
  have HD := Lib.hid hD
  have HW := Lib.hid hw
  have hc1 : w.cell? ⟨t, 1, none⟩ = some (.int .i64 (cutAt b : Int)) := by rw [cell_of_row w t 1 _ 122 (0, 0) (hI _ _ hw).row]; rfl
  clear hT hI hD hw
  go_enter Tryz.func56, Tryz.ntmps56
  go_wp2
  go_step3; go_wp2; go_step3; go_wp2
  go_loopw [9, 10] (fun vk v wr => ∃ fr pos mem : Nat, vk = .int .i64 (mem : Int) ∧ mem ≤ b.length ∧ v = .int .i64 (pos : Int) ∧ pos ≤ 9223372036854775807 ∧ Crt.Way b line fr pos mem ∧ I fr wr) (fun _ v _ => line.length + 1 - (intOf v).toNat)
  case atStart => exact ⟨x, x, 0, rfl, Nat.zero_le _, rfl, hx, way_start b line x, HW.out⟩
  case round =>
    obtain ⟨fr, pos, mem, rfl, hmem, rfl, hpos, hway, hir⟩ := hrel
    have HFX := Lib.hid (HI.out _ _ hir)
    have ht := HFX.out.row
    have hc0 : wr.cell? ⟨t, 0, none⟩ = some (.slice a b.length c) := by rw [cell_of_row wr t 0 _ 122 (0, 0) ht]; rfl
    have hc2 : wr.cell? ⟨t, 2, none⟩ = some (.int .i64 (movePer b : Int)) := by rw [cell_of_row wr t 2 _ 122 (0, 0) ht]; rfl
    have HWAY := Lib.hid hway
    have HIR := Lib.hid hir
    clear hway hir ht
    obtain ⟨M, hM⟩ : ∃ M : Int, M = (line.length : Int) - (b.length : Int) := ⟨_, rfl⟩
    have hwM : IntKind.i64.wrap ((line.length : Int) - (b.length : Int)) = M := by rw [IntWalk.i64_in _ (by omega)]; omega
    have HM := Lib.hid hM
    clear hM
    by_cases hlt : (pos : Int) ≤ M
    · have hpl : pos + b.length ≤ line.length := by have := HM.out; omega
      have HCUT := Lib.hid (cut_len h0)
      go_wp2
      go_loopw [9, 10, 11] (fun vk va v wi => ∃ i q : Nat, vk = .int .i64 (mem : Int) ∧ va = .int .i64 (pos : Int) ∧ max (cutAt b) mem ≤ i ∧ i ≤ b.length ∧ v = .int .i64 (i : Int) ∧ (∀ k, cutAt b ≤ k → mem ≤ k → k < i → line[pos + k]? = b[k]?) ∧ wi = wr.drewN q) (fun _ _ v _ => b.length - (intOf v).toNat)
      case atStart => exact ⟨max (cutAt b) mem, 0, rfl, rfl, Nat.le_refl _, by have := HCUT.out; omega, by congr 1; omega, fun k h1 h2 h3 => by omega, rfl⟩
      case round =>
        obtain ⟨i, q, rfl, rfl, hi1, hi2, rfl, hag, rfl⟩ := hrel
        have hd0 : (wr.drewN q).cell? ⟨t, 0, none⟩ = some (.slice a b.length c) := hc0
        by_cases hib : i < b.length
        · have hib2 : (i : Int) < (b.length : Int) := by omega
          obtain ⟨bt, ot, rfl, _, hr2⟩ := bs_at HFX.out.txt.bs i hib
          obtain ⟨bl, ol, rfl, _, hr1⟩ := bs_at HFX.out.ln.1 (pos + i) (by omega)
          obtain ⟨P, hP⟩ : ∃ P, P = pos + i := ⟨_, rfl⟩
          obtain ⟨y1, hy1⟩ : ∃ y, y = line[pos + i]'(by omega) := ⟨_, rfl⟩
          obtain ⟨y2, hy2⟩ : ∃ y, y = b[i] := ⟨_, rfl⟩
          have hk1 : wr.cell? ⟨bl, ol + P, none⟩ = some (.int .u8 (y1.toNat : Int)) := by rw [hP, hy1]; exact hr1
          have hk2 : wr.cell? ⟨bt, ot + i, none⟩ = some (.int .u8 (y2.toNat : Int)) := by rw [hy2]; exact hr2
          have hwP : IntKind.i64.wrap ((pos : Int) + (i : Int)) = (P : Int) := by rw [IntWalk.i64_in _ (by omega)]; omega
          have hPl : (P : Int) < (line.length : Int) := by omega
          have hd := u8_bne y1 y2
          have hg1 : line[pos + i]? = some y1 := by rw [hy1]; exact List.getElem?_eq_getElem (by omega)
          have hg2 : b[i]? = some y2 := by rw [hy2]; exact List.getElem?_eq_getElem hib
          have HAG := Lib.hid hag
          have HPP := Lib.hid hP
          clear hag hP hy1 hy2 hr1 hr2
          by_cases he : y1 = y2
          · rw [decide_eq_false (fun h => h he)] at hd
            have HE : Hid (line[pos + i]? = b[i]?) := Lib.hid (by rw [hg1, hg2, he])
            clear hg1 hg2 he
            go_wp2
            go_quiet (fail)
            go_wp2
            exact ⟨⟨i + 1, q + nq, rfl, rfl, by omega, by omega, by go_num, fun k h1 h2 h3 => by
              by_cases e : k = i
              · rw [e]; exact HE.out
              · exact HAG.out k h1 h2 (by omega), rfl⟩, by simp [intOf]; omega⟩
          · rw [decide_eq_true he] at hd
            have HE : Hid (line[pos + i]? ≠ b[i]?) := Lib.hid (by rw [hg1, hg2]; exact fun h => he (Option.some.inj h))
            clear hg1 hg2 he
            go_wp2
            go_quiet (fail)
            go_wp2
            have HR := Lib.hid (HWAY.out.right h0 (fun k h1 h2 h3 => HAG.out k h1 h2 h3) (by omega) hib HE.out)
            exact ⟨⟨fr, pos + (i - cutAt b + 1), 0, rfl, Nat.zero_le _, by go_num, by omega, HR.out, HT.out.drew _ _ _ HIR.out⟩, by simp [intOf]; omega⟩
        · have hie : ¬ (i : Int) < (b.length : Int) := by omega
          have hiL : i = b.length := by omega
          subst hiL
          have hcp := HCUT.out
          obtain ⟨E, hE⟩ : ∃ E, E = pos + cutAt b := ⟨_, rfl⟩
          have hwE : IntKind.i64.wrap ((pos : Int) + (cutAt b : Int)) = (E : Int) := by rw [IntWalk.i64_in _ (by omega)]; omega
          obtain ⟨A, hmid, hA⟩ := cut_mid1 al line cl pos E (by omega) (by omega) HFX.out.ln.2.1 wr _ HFX.out.ln.1
          have hfront := (Cut.cut_front a b c (cutAt b) (by omega) HFX.out.len wr _ HFX.out.txt.bs).1
          have hFXd : Fx s t b a c line al cl (wr.drewN q).drew := HFX.out.drewN (q + 1)
          have HEQ := Lib.hid (equal_cut b line a al c cl s t pos E A hE hcp hpl hl hll (fun X => hA X _) (cl - pos) (wr.drewN q).drew hFXd (fun k h1 h2 => (Nat.lt_or_ge k mem).elim (fun h3 => HWAY.out.fit k h3) fun h3 => hag k h1 h3 h2))
          have HAG := Lib.hid hag
          have HE := Lib.hid hE
          have HIR2 : Hid (I fr (wr.drewN q).drew) := Lib.hid (HT.out.drew fr wr (q + 1) HIR.out)
          have hd1 : (wr.drewN q).drew.cell? ⟨t, 0, none⟩ = some (.slice a b.length c) := hd0
          have HC2 : Hid (∀ fr W, I fr W → W.cell? ⟨t, 2, none⟩ = some (.int .i64 (movePer b : Int))) := Lib.hid fun fr W h => by rw [cell_of_row W t 2 _ 122 (0, 0) (HI.out _ _ h).row]; rfl
          have hmv := move_bounds h0
          have HMV := Lib.hid hmv
          obtain ⟨Q, hQ⟩ : ∃ Q, Q = pos + movePer b := ⟨_, rfl⟩
          have hwQ : IntKind.i64.wrap ((pos : Int) + (movePer b : Int)) = (Q : Int) := by rw [IntWalk.i64_in _ (by omega)]; omega
          have HQ := Lib.hid hQ
          obtain ⟨R, hR⟩ : ∃ R, R = b.length - movePer b := ⟨_, rfl⟩
          have hwR : IntKind.i64.wrap ((b.length : Int) - (movePer b : Int)) = (R : Int) := by rw [IntWalk.i64_in _ (by omega)]; omega
          have HR := Lib.hid hR
          clear hag hE hA hFXd hcp hmv hQ hR
          go_wp2
          refine wp_region_held_drew (S := fun w' => w'.cell? ⟨t, 0, none⟩ = some (.slice a b.length c)) (by kernel_rfl) hd1 (fun hH0 => ?_)
          generalize (wr.drewN q).drew = wd at *
          refine held_take (i := 0) (d := 60) (oi := _) (v := ?_) rfl rfl (by kernel_rfl) (by kernel_rfl) (by kernel_rfl) (fun _ _ _ h => h) (Or.inl ⟨by rfl, ?_⟩) (by assumption) ?_
          rotate_left
          · (intro w hSw; clear hSw; go_simp; (try with_reducible rfl))
          simp only [Act.put, List.setIfInBounds_toArray, List.set_cons_zero, List.set_cons_succ]
          refine held_take (i := 1) (d := 61) (oi := _) (v := ?_) rfl rfl (by kernel_rfl) (by kernel_rfl) (by kernel_rfl) (fun _ _ _ h => h) (Or.inl ⟨by rfl, ?_⟩) (by assumption) ?_
          rotate_left
          · (intro w hSw; clear hSw; go_simp; (try with_reducible rfl))
          simp only [Act.put, List.setIfInBounds_toArray, List.set_cons_zero, List.set_cons_succ]
          refine held_take (i := 2) (d := 62) (oi := _) (v := ?_) rfl rfl (by kernel_rfl) (by kernel_rfl) (by kernel_rfl) (fun _ _ _ h => h) (Or.inl ⟨by rfl, ?_⟩) (by assumption) ?_
          rotate_left
          · (intro w hSw; clear hSw; go_simp; (try with_reducible rfl))
          simp only [Act.put, List.setIfInBounds_toArray, List.set_cons_zero, List.set_cons_succ]
          refine held_take (i := 3) (d := 63) (oi := _) (v := ?_) rfl rfl (by kernel_rfl) (by kernel_rfl) (by kernel_rfl) (fun _ _ _ h => h) (Or.inl ⟨by rfl, ?_⟩) (by assumption) ?_
          rotate_left
          · (intro w hSw; clear hSw; go_simp; (try with_reducible rfl))
          simp only [Act.put, List.setIfInBounds_toArray, List.set_cons_zero, List.set_cons_succ]
          refine held_take (i := 4) (d := 64) (oi := _) (v := ?_) rfl rfl (by kernel_rfl) (by kernel_rfl) (by kernel_rfl) (fun _ _ _ h => h) (Or.inl ⟨by rfl, ?_⟩) (by assumption) ?_
          rotate_left
          · (intro w hSw; clear hSw; go_simp; (try with_reducible rfl))
          simp only [Act.put, List.setIfInBounds_toArray, List.set_cons_zero, List.set_cons_succ]
          refine held_take (i := 5) (d := 65) (oi := _) (v := ?_) rfl rfl (by kernel_rfl) (by kernel_rfl) (by kernel_rfl) (fun _ _ _ h => h) (Or.inl ⟨by rfl, ?_⟩) (by assumption) ?_
          rotate_left
          · (intro w hSw; clear hSw; go_simp; (try with_reducible rfl))
          simp only [Act.put, List.setIfInBounds_toArray, List.set_cons_zero, List.set_cons_succ]
          refine held_take (i := 6) (d := 66) (oi := _) (v := ?_) rfl rfl (by kernel_rfl) (by kernel_rfl) (by kernel_rfl) (fun _ _ _ h => h) (Or.inl ⟨by rfl, ?_⟩) (by assumption) ?_
          rotate_left
          · (intro w hSw; clear hSw; go_simp; (try with_reducible rfl))
          simp only [Act.put, List.setIfInBounds_toArray, List.set_cons_zero, List.set_cons_succ]
          refine held_take (i := 7) (d := 67) (oi := _) (v := ?_) rfl rfl (by kernel_rfl) (by kernel_rfl) (by kernel_rfl) (fun _ _ _ h => h) (Or.inl ⟨by rfl, ?_⟩) (by assumption) ?_
          rotate_left
          · (intro w hSw; clear hSw; go_simp; (try with_reducible rfl))
          simp only [Act.put, List.setIfInBounds_toArray, List.set_cons_zero, List.set_cons_succ]
          refine held_take (i := 8) (d := 68) (oi := _) (v := ?_) rfl rfl (by kernel_rfl) (by kernel_rfl) (by kernel_rfl) (fun _ _ _ h => h) (Or.inl ⟨by rfl, ?_⟩) (by assumption) ?_
          rotate_left
          · (intro w hSw; clear hSw; go_simp; (try with_reducible rfl))
          simp only [Act.put, List.setIfInBounds_toArray, List.set_cons_zero, List.set_cons_succ]
          refine held_take (i := 9) (d := 69) (oi := _) (v := ?_) rfl rfl (by kernel_rfl) (by kernel_rfl) (by kernel_rfl) (fun _ _ _ h => h) (Or.inl ⟨by rfl, ?_⟩) (by assumption) ?_
          rotate_left
          · (intro w hSw; go_simp; (try with_reducible rfl))
          simp only [Act.put, List.setIfInBounds_toArray, List.set_cons_zero, List.set_cons_succ]
          refine held_take (i := 10) (d := 70) (oi := _) (v := ?_) rfl rfl (by kernel_rfl) (by kernel_rfl) (by kernel_rfl) (fun _ _ _ h => h) (Or.inl ⟨by rfl, ?_⟩) (by assumption) ?_
          rotate_left
          · (intro w hSw; clear hSw; go_simp; (try with_reducible rfl))
          simp only [Act.put, List.setIfInBounds_toArray, List.set_cons_zero, List.set_cons_succ]
          refine held_take (i := 11) (d := 71) (oi := _) (v := ?_) rfl rfl (by kernel_rfl) (by kernel_rfl) (by kernel_rfl) (fun _ _ _ h => h) (Or.inl ⟨by rfl, ?_⟩) (by assumption) ?_
          rotate_left
          · (intro w hSw; clear hSw; go_simp; (try with_reducible rfl))
          simp only [Act.put, List.setIfInBounds_toArray, List.set_cons_zero, List.set_cons_succ]
          refine wpAnyH_ready (rs := [12]) (by kernel_rfl) (by simp) ?_
          refine AllReadyH.cons rfl (fun K hK => ?_) AllReadyH.nil
          go_simp
          go_wp2_with (go_at_call 76; (with_reducible refine (HEQ.out).mono ?_); rintro e x' ⟨rfl, rfl⟩)
          refine hK.out _ _ hH0 (fun _ => ?_)
          clear hK K
          refine held_take (i := 13) (d := 73) (oi := _) (v := ?_) rfl rfl (by kernel_rfl) (by kernel_rfl) (by kernel_rfl) (fun _ _ _ h => h) (Or.inl ⟨by rfl, ?_⟩) (by assumption) ?_
          rotate_left
          · (intro w hSw; clear hSw; go_simp; (try with_reducible rfl))
          simp only [Act.put, List.setIfInBounds_toArray, List.set_cons_zero, List.set_cons_succ]
          by_cases hst : Stands line b pos
          · have hdec : decide (Stands line b pos) = true := decide_eq_true hst
            rw [hdec]
            refine held_take (i := 14) (d := 74) (oi := _) (v := ?_) rfl rfl (by kernel_rfl) (by kernel_rfl) (by kernel_rfl) (fun _ _ _ h => h) (Or.inl ⟨by rfl, ?_⟩) (by assumption) ?_
            rotate_left
            · (intro w hSw; clear hSw; go_simp; (try with_reducible rfl))
            simp only [Act.put, List.setIfInBounds_toArray, List.set_cons_zero, List.set_cons_succ]
            refine held_take (i := 15) (d := 75) (oi := _) (v := ?_) rfl rfl (by kernel_rfl) (by kernel_rfl) (by kernel_rfl) (fun _ _ _ h => h) (Or.inl ⟨by rfl, ?_⟩) (by assumption) ?_
            rotate_left
            · (intro w hSw; clear hSw; go_simp; (try with_reducible rfl))
            simp only [Act.put, List.setIfInBounds_toArray, List.set_cons_zero, List.set_cons_succ]
            refine wpAnyH_ready (rs := [16]) (by kernel_rfl) (by simp) ?_
            refine AllReadyH.cons rfl (fun K hK => ?_) AllReadyH.nil
            go_simp
            have hcf := HT.out.call
            have HHIT := Lib.hid (HT.out.hit fr pos wd HIR2.out (HWAY.out.hit hst) (by omega))
            have HST := Lib.hid hst
            clear hst
            rw [hcf]
            go_wp2_with fail
            refine HHIT.out.mono ?_
            rintro e x1 (⟨rfl, hi2⟩ | ⟨rfl, hd2⟩)
            · have hH1 : x1.cell? ⟨t, 0, none⟩ = some (.slice a b.length c) := by rw [cell_of_row x1 t 0 _ 122 (0, 0) (HI.out _ _ hi2).row]; rfl
              refine hK.out _ _ hH1 (fun _ => ?_)
              clear hK K hcf
              refine held_take (i := 17) (d := 77) (oi := _) (v := ?_) rfl rfl (by kernel_rfl) (by kernel_rfl) (by kernel_rfl) (fun _ _ _ h => h) (Or.inl ⟨by rfl, ?_⟩) (by assumption) ?_
              rotate_left
              · (intro w hSw; clear hSw; go_simp; (try with_reducible rfl))
              simp only [Act.put, List.setIfInBounds_toArray, List.set_cons_zero, List.set_cons_succ]
              refine held_take (i := 18) (d := 78) (oi := _) (v := ?_) rfl rfl (by kernel_rfl) (by kernel_rfl) (by kernel_rfl) (fun _ _ _ h => h) (Or.inl ⟨by rfl, ?_⟩) (by assumption) ?_
              rotate_left
              · (intro w hSw; clear hSw; go_simp; (try with_reducible rfl))
              simp only [Act.put, List.setIfInBounds_toArray, List.set_cons_zero, List.set_cons_succ]
              refine wpAnyH_done (by kernel_rfl) ?_ _
              have hc3 := HC2.out _ _ hi2
              clear hc2 hc0 hd0 hd1
              have HI2 := Lib.hid hi2
              clear hi2
              go_wp2
              go_quiet (fail)
              go_wp2
              exact ⟨⟨pos + 1, Q, R, rfl, by have := HR.out; omega, rfl, by have := HQ.out; have := HMV.out; omega, HQ.out ▸ HR.out ▸ way_next2 h0 hsm HST.out, HT.out.drew _ _ _ HI2.out⟩, by have := HQ.out; have := HMV.out; simp [intOf]; omega⟩
            · have hH1 : x1.cell? ⟨t, 0, none⟩ = some (.slice a b.length c) := by rw [cell_of_row x1 t 0 _ 122 (0, 0) (HD.out _ hd2).row]; rfl
              refine hK.out _ _ hH1 (fun _ => ?_)
              clear hK K hcf
              refine held_take (i := 17) (d := 77) (oi := _) (v := ?_) rfl rfl (by kernel_rfl) (by kernel_rfl) (by kernel_rfl) (fun _ _ _ h => h) (Or.inl ⟨by rfl, ?_⟩) (by assumption) ?_
              rotate_left
              · (intro w hSw; clear hSw; go_simp; (try with_reducible rfl))
              simp only [Act.put, List.setIfInBounds_toArray, List.set_cons_zero, List.set_cons_succ]
              refine held_take (i := 18) (d := 78) (oi := _) (v := ?_) rfl rfl (by kernel_rfl) (by kernel_rfl) (by kernel_rfl) (fun _ _ _ h => h) (Or.inl ⟨by rfl, ?_⟩) (by assumption) ?_
              rotate_left
              · (intro w hSw; clear hSw; go_simp; (try with_reducible rfl))
              simp only [Act.put, List.setIfInBounds_toArray, List.set_cons_zero, List.set_cons_succ]
              refine wpAnyH_done (by kernel_rfl) ?_ _
              have HD2 := Lib.hid hd2
              clear hd2
              go_wp2
              simp only [Exit.noGoto]
              exact bodyPost_ret (results_none rfl _ _ _) rfl ⟨rfl, Or.inr HD2.out⟩
          · have hdec : decide (Stands line b pos) = false := decide_eq_false hst
            rw [hdec]
            refine held_take (i := 14) (d := 74) (oi := _) (v := undef) rfl rfl (by kernel_rfl) (by kernel_rfl) (by kernel_rfl) (fun _ _ _ h => h) (Or.inr ⟨by rfl, rfl⟩) (by assumption) ?_
            simp only [Act.put, List.setIfInBounds_toArray, List.set_cons_zero, List.set_cons_succ]
            refine held_take (i := 15) (d := 75) (oi := _) (v := undef) rfl rfl (by kernel_rfl) (by kernel_rfl) (by kernel_rfl) (fun _ _ _ h => h) (Or.inr ⟨by rfl, rfl⟩) (by assumption) ?_
            simp only [Act.put, List.setIfInBounds_toArray, List.set_cons_zero, List.set_cons_succ]
            refine held_take (i := 16) (d := 76) (oi := _) (v := undef) rfl rfl (by kernel_rfl) (by kernel_rfl) (by kernel_rfl) (fun _ _ _ h => h) (Or.inr ⟨by rfl, rfl⟩) (by assumption) ?_
            simp only [Act.put, List.setIfInBounds_toArray, List.set_cons_zero, List.set_cons_succ]
            refine held_take (i := 17) (d := 77) (oi := _) (v := undef) rfl rfl (by kernel_rfl) (by kernel_rfl) (by kernel_rfl) (fun _ _ _ h => h) (Or.inr ⟨by rfl, rfl⟩) (by assumption) ?_
            simp only [Act.put, List.setIfInBounds_toArray, List.set_cons_zero, List.set_cons_succ]
            refine held_take (i := 18) (d := 78) (oi := _) (v := ?_) rfl rfl (by kernel_rfl) (by kernel_rfl) (by kernel_rfl) (fun _ _ _ h => h) (Or.inl ⟨by rfl, ?_⟩) (by assumption) ?_
            rotate_left
            · (intro w hSw; clear hSw; go_simp; (try with_reducible rfl))
            simp only [Act.put, List.setIfInBounds_toArray, List.set_cons_zero, List.set_cons_succ]
            refine wpAnyH_done (by kernel_rfl) ?_ _
            have hc3 := HC2.out _ _ HIR2.out
            clear hc2 hc0 hd0 hd1
            have HNS := Lib.hid hst
            clear hst
            go_wp2
            obtain ⟨i1, hi3, hi4⟩ := not_stands HNS.out
            have hnear := HWAY.out.near h0 hsm (fun k h1 h2 h3 => HAG.out k h1 h2 h3) hi3 hi4
            rw [← move_small h0 hsm, ← HQ.out, ← HR.out] at hnear
            have HN := Lib.hid hnear
            clear hnear hi3 hi4
            go_quiet (fail)
            go_wp2
            exact ⟨⟨fr, Q, R, rfl, by have := HR.out; omega, rfl, by have := HQ.out; have := HMV.out; omega, HN.out, HT.out.drew _ _ _ HIR2.out⟩, by have := HQ.out; have := HMV.out; simp [intOf]; omega⟩
    · go_wp2
      go_end0
      have HO := HWAY.out.over h0 (by have := HM.out; omega)
      exact ⟨rfl, Or.inl ⟨fr, HIR.out, HO⟩⟩
end Go.Proofs.YtcbhjhhajeeimaaGreat.Two
/- Next. -/
namespace Go.Proofs.YtcbhjhhajeeimaaGreat.Two
open Go.RowKit Go.Maps Go.Proofs.YtcbhjhhajeeimaaGreat.Crt Go.Proofs.YtcbhjhhajeeimaaGreat.Suf Go.Proofs.YtcbhjhhajeeimaaGreat.Prs Go.Proofs.YtcbhjhhajeeimaaGreat.Reg
set_option maxRecDepth 100000
set_option linter.unusedVariables false

theorem call20 (args : Array Value) (w : World) : (callFunc 55 args).run Tryz.prog w = .ok (.enter 55 args) w := by simp [go_sem]
theorem call21 (args : Array Value) (w : World) : (callFunc 56 args).run Tryz.prog w = .ok (.enter 56 args) w := by simp [go_sem]
theorem call23 (args : Array Value) (w : World) : (callFunc 142 args).run Tryz.prog w = .ok (.enter 142 args) w := by simp [go_sem]
theorem call_srch (b : Tx) (args : Array Value) (w : World) : (callFunc (srch b) args).run Tryz.prog w = .ok (.enter (srch b) args) w := by
  unfold srch
  split
  · exact call21 args w
  · exact call20 args w
theorem search_any (w : World) (b line : Tx) (fn : FuncId) (caps : Array Value) (I : Nat → World → Prop) (D : World → Prop) (s t : Nat) (a : Option Addr) (c : Nat) (al : Option Addr) (cl : Nat)
    (hT : Tell b line fn caps I D) (hI : ∀ fr W, I fr W → Fx s t b a c line al cl W) (hD : ∀ W, D W → Fx s t b a c line al cl W) (h0 : b ≠ []) (hl : b.length ≤ 1000) (hll : line.length ≤ 1000)
    (x : Nat) (hx : x ≤ 9223372036854775807) (hw : I x w) :
    Calls Tryz.prog (srch b) #[.pointer (some ⟨t, 0, none⟩), .slice al line.length cl, .int .i64 (x : Int), .func (.func fn) #[] caps] w (GivesOver b line I D) := by
  unfold srch
  by_cases hs : smallB b = true
  · rw [if_pos hs]
    exact near_any w b line fn caps I D s t a c al cl hT hI hD h0 hl hll ((smallB_iff h0).1 hs) x hx hw
  · rw [if_neg hs]
    exact far_any w b line fn caps I D s t a c al cl hT hI hD h0 hl hll (fun h => hs ((smallB_iff h0).2 h)) x hx hw
theorem tw_fx {w : World} {s t : Nat} {b : Tx} (ht : Tw w s t b) {line : Tx} {al : Option Addr} {cl : Nat} (hb : Ln w al line cl) : ∃ a c, Fx s t b a c line al cl w := by
  obtain ⟨_, a, c, h1, h2, h3⟩ := ht
  exact ⟨a, c, h1, h2, h3, hb⟩
theorem Fx.search {s t : Nat} {b : Tx} {a : Option Addr} {c : Nat} {line : Tx} {al : Option Addr} {cl : Nat} {W : World} (h : Fx s t b a c line al cl W) : W.cell? ⟨t, 4, none⟩ = some (.func (.func (srch b)) #[] #[]) := by
  rw [cell_of_row W t 4 _ 122 (0, 0) h.row]; rfl
end Go.Proofs.YtcbhjhhajeeimaaGreat.Two
/- Scan. -/
namespace Go.Proofs.YtcbhjhhajeeimaaGreat.Two
open Go.RowKit Go.Maps Go.Proofs.YtcbhjhhajeeimaaGreat.Crt Go.Proofs.YtcbhjhhajeeimaaGreat.Suf Go.Proofs.YtcbhjhhajeeimaaGreat.Prs Go.Proofs.YtcbhjhhajeeimaaGreat.Reg
set_option maxRecDepth 100000
set_option linter.unusedVariables false

/-- A pair appended to a row of the call's own. -/
theorem wp_app_ps1 {w : World} {o : Oper} {a : Act} {K : Act → World → Prop} {Q : Exit → Act → World → Prop} (s x : Operand)
    (ho : o.op = .call { callee := .builtin .append, args := #[s, x], argTypes := #[44, 44] })
    (base : Nat) (v : Value) (n : Nat) (xs : List Pr) (p : Pr) (hs : a.eval s = v) (hown : w.ownsRow base 57 2 v n (cellsOf xs))
    (ad : Addr) (hx : a.eval x = .slice (some ad) 1 1) (hc : ∀ j u, (cellsOf [p])[j]? = some u → w.cell? (ad.add j) = some u)
    (hn : n ≤ 100000000) (hbase : base ≤ w.heap.size)
    (h : ∀ v' w', w'.ownsRow base 57 2 v' (n + 1) (cellsOf (xs ++ [p])) → w.grownBy w' v.ownBlock → K (a.put o.dst v') w') : o.wp Tryz.prog a w K Q := by
  obtain ⟨i0, hi, hz0, hz1, hz2⟩ := info_parts info27
  rw [cells_append] at h
  exact wp_append_own w s x 44 ho base 57 i0 (.agg #[.int .i64 0, .int .i64 0]) 2 16 Tryz.underlying44 hi hz0 hz1 hz2 rfl (by decide) v n (cellsOf xs) hs hown ad 1 1 (cellsOf [p]) hx (by rw [cells_length]; rfl) hc (cells_one [p]) (by unfold maxLen; omega) (by omega) hbase (fun v' w' h1 h2 _ => h v' w' h1 h2)
/-- What has been found, in a variable of the call's own; the text, in another. -/
def Coll (w : World) (B g gt t : Nat) (l : List Pr) (X : World) : Prop :=
  ∃ v, X.heap[g]? = some (.cells #[v] 44 (0, 0)) ∧ X.heap[gt]? = some (.cells #[.pointer (some ⟨t, 0, none⟩)] 84 (0, 0)) ∧ X.ownsRow B 57 2 v l.length (cellsOf l) ∧ B ≤ X.heap.size ∧ Below w.heap.size w X
theorem Coll.drewN {w X : World} {B g gt t : Nat} {l : List Pr} (h : Coll w B g gt t l X) (q : Nat) : Coll w B g gt t l (X.drewN q) := by
  obtain ⟨v, h1, h2, h3, h4, h5⟩ := h
  exact ⟨v, h1, h2, h3, h4, below_drews h5 q⟩
set_option maxHeartbeats 2000000 in
theorem tell_scan (w X : World) (B g gt s t : Nat) (l : List Pr) (b line : Tx) (a : Option Addr) (c : Nat) (al : Option Addr) (cl : Nat) (hX : Coll w B g gt t l X) (hF : Fx s t b a c line al cl X) (hs : w.heap.size ≤ g) (hg : g < B) (hgt : gt < B) (hne : g ≠ gt) (ht : t < w.heap.size)
    (p : Nat) (hp : p ≤ 1000) (hl : b.length ≤ 1000) (hll : l.length ≤ 100000000) :
    Calls Tryz.prog 142 #[.int .i64 (p : Int), .pointer (some ⟨g, 0, none⟩), .pointer (some ⟨gt, 0, none⟩)] X fun e W' => e = .returned (.bool true) ∧ Coll w B g gt t (l ++ [pieceAt b p]) W' := by
  obtain ⟨v, h1, h2, h3, h4, h5⟩ := hX
  obtain ⟨E, hE⟩ : ∃ E, E = p + b.length := ⟨_, rfl⟩
  have hwE : IntKind.i64.wrap ((p : Int) + (b.length : Int)) = (E : Int) := by rw [IntWalk.i64_in _ (by omega)]; omega
  have hrow := hF.row
  obtain ⟨d1, d2⟩ := cell_of1 h1
  obtain ⟨d3, _⟩ := cell_of1 h2
  have d4 : X.cell? ⟨t, 0, none⟩ = some (.slice a b.length c) := by rw [cell_of_row X t 0 _ 122 (0, 0) hrow]; rfl
  have hS0 : X.drew.cell? ⟨gt, 0, none⟩ = some (.pointer (some ⟨t, 0, none⟩)) ∧ X.drew.cell? ⟨t, 0, none⟩ = some (.slice a b.length c) := ⟨d3, d4⟩
  have c1 : X.drew.cell? ⟨g, 0, none⟩ = some v := d1
  have HF1 : Hid (X.drew.frozen? ⟨g, 0, none⟩ = false) := Lib.hid d2
  have HR1 : Hid (X.drew.heap[g]? = some (.cells #[v] 44 (0, 0))) := Lib.hid h1
  have HR2 : Hid (X.drew.heap[gt]? = some (.cells #[.pointer (some ⟨t, 0, none⟩)] 84 (0, 0))) := Lib.hid h2
  have HR3 : Hid (X.drew.heap[t]? = some (.cells (twCells b a c) 122 (0, 0))) := Lib.hid hrow
  have HOWN : Hid (X.drew.ownsRow B 57 2 v l.length (cellsOf l)) := Lib.hid h3
  have HSZ : Hid (B ≤ X.drew.heap.size) := Lib.hid h4
  have HB : Hid (Below w.heap.size w X.drew) := Lib.hid (below_drews h5 1)
  have HLL := Lib.hid hll
  have HCELL : Hid (∀ j u, (cellsOf [pieceAt b p])[j]? = some u → (X.drew.alloc (.cells #[.int .i64 (p : Int), .int .i64 (E : Int)] 57)).cell? ((⟨X.drew.heap.size, 0, none⟩ : Addr).add j) = some u) := Lib.hid fun j u hj => by
    have hcl : cellsOf [pieceAt b p] = [.int .i64 (p : Int), .int .i64 (E : Int)] := by rw [hE]; rfl
    rw [hcl] at hj
    rw [add_at, cell_of_row _ X.drew.heap.size _ _ 57 (0, 0) (heap_alloc_new X.drew _)]
    match j, hj with
    | 0, hj => simpa using hj
    | 1, hj => simpa using hj
    | j + 2, hj => simp at hj
  have HHA : Hid ((X.drew.alloc (.cells #[.int .i64 (p : Int), .int .i64 (E : Int)] 57)).cell? ⟨gt, 0, none⟩ = some (.pointer (some ⟨t, 0, none⟩)) ∧ (X.drew.alloc (.cells #[.int .i64 (p : Int), .int .i64 (E : Int)] 57)).cell? ⟨t, 0, none⟩ = some (.slice a b.length c)) := Lib.hid ⟨Lib.cell?_alloc_some _ hS0.1, Lib.cell?_alloc_some _ hS0.2⟩
  have HC2 : Hid ((X.drew.alloc (.cells #[.int .i64 (p : Int), .int .i64 (E : Int)] 57)).cell? ⟨g, 0, none⟩ = some v) := Lib.hid (Lib.cell?_alloc_some _ c1)
  clear h1 h2 h3 h4 h5 d1 d2 d3 d4 hrow hF hll hE
  go_enter Tryz.func142, Tryz.ntmps142
  go_wp2
  refine wp_region_held_drew (S := fun w' => w'.cell? ⟨gt, 0, none⟩ = some (.pointer (some ⟨t, 0, none⟩)) ∧ w'.cell? ⟨t, 0, none⟩ = some (.slice a b.length c)) (by kernel_rfl) hS0 (fun hH0 => ?_)
  generalize X.drew = wd at *
  refine held_take (i := 1) (d := 6) (oi := _) (v := ?_) rfl rfl (by kernel_rfl) (by kernel_rfl) (by kernel_rfl) (fun _ _ _ h => h) (Or.inl ⟨by rfl, ?_⟩) (by assumption) ?_
  rotate_left
  · (intro w hSw; clear hSw; go_simp; (try with_reducible rfl))
  simp only [Act.put, List.setIfInBounds_toArray, List.set_cons_zero, List.set_cons_succ]
  refine held_take (i := 2) (d := 7) (oi := _) (v := ?_) rfl rfl (by kernel_rfl) (by kernel_rfl) (by kernel_rfl) (fun _ _ _ h => h) (Or.inl ⟨by rfl, ?_⟩) (by assumption) ?_
  rotate_left
  · (intro w hSw; clear hSw; go_simp; (try with_reducible rfl))
  simp only [Act.put, List.setIfInBounds_toArray, List.set_cons_zero, List.set_cons_succ]
  refine held_take (i := 3) (d := 8) (oi := _) (v := ?_) rfl rfl (by kernel_rfl) (by kernel_rfl) (by kernel_rfl) (fun _ _ _ h => h) (Or.inl ⟨by rfl, ?_⟩) (by assumption) ?_
  rotate_left
  · (intro w hSw; obtain ⟨hS1, hS2⟩ := hSw; go_simp; (try with_reducible rfl))
  simp only [Act.put, List.setIfInBounds_toArray, List.set_cons_zero, List.set_cons_succ]
  refine held_take (i := 4) (d := 9) (oi := _) (v := ?_) rfl rfl (by kernel_rfl) (by kernel_rfl) (by kernel_rfl) (fun _ _ _ h => h) (Or.inl ⟨by rfl, ?_⟩) (by assumption) ?_
  rotate_left
  · (intro w hSw; clear hSw; go_simp; (try with_reducible rfl))
  simp only [Act.put, List.setIfInBounds_toArray, List.set_cons_zero, List.set_cons_succ]
  refine held_take (i := 5) (d := 10) (oi := _) (v := ?_) rfl rfl (by kernel_rfl) (by kernel_rfl) (by kernel_rfl) (fun _ _ _ h => h) (Or.inl ⟨by rfl, ?_⟩) (by assumption) ?_
  rotate_left
  · (intro w hSw; clear hSw; go_simp; (try with_reducible rfl))
  simp only [Act.put, List.setIfInBounds_toArray, List.set_cons_zero, List.set_cons_succ]
  refine held_take (i := 6) (d := 11) (oi := _) (v := ?_) rfl rfl (by kernel_rfl) (by kernel_rfl) (by kernel_rfl) (fun _ _ _ h => h) (Or.inl ⟨by rfl, ?_⟩) (by assumption) ?_
  rotate_left
  · (intro w hSw; obtain ⟨hS1, hS2⟩ := hSw; go_simp; (try with_reducible rfl))
  simp only [Act.put, List.setIfInBounds_toArray, List.set_cons_zero, List.set_cons_succ]
  refine held_take (i := 7) (d := 12) (oi := _) (v := ?_) rfl rfl (by kernel_rfl) (by kernel_rfl) (by kernel_rfl) (fun _ _ _ h => h) (Or.inl ⟨by rfl, ?_⟩) (by assumption) ?_
  rotate_left
  · (intro w hSw; clear hSw; go_simp; (try with_reducible rfl))
  simp only [Act.put, List.setIfInBounds_toArray, List.set_cons_zero, List.set_cons_succ]
  refine held_take (i := 8) (d := 13) (oi := _) (v := ?_) rfl rfl (by kernel_rfl) (by kernel_rfl) (by kernel_rfl) (fun _ _ _ h => h) (Or.inl ⟨by rfl, ?_⟩) (by assumption) ?_
  rotate_left
  · (intro w hSw; clear hSw; go_simp; (try with_reducible rfl))
  simp only [Act.put, List.setIfInBounds_toArray, List.set_cons_zero, List.set_cons_succ]
  refine held_take (i := 9) (d := 14) (oi := _) (v := ?_) rfl rfl (by kernel_rfl) (by kernel_rfl) (by kernel_rfl) (fun _ _ _ h => h) (Or.inl ⟨by rfl, ?_⟩) (by assumption) ?_
  rotate_left
  · (intro w hSw; clear hSw; go_simp; (try with_reducible rfl))
  simp only [Act.put, List.setIfInBounds_toArray, List.set_cons_zero, List.set_cons_succ]
  refine wpAnyH_ready (rs := [0, 10]) (by kernel_rfl) (by simp) ?_
  refine AllReadyH.cons rfl (fun K hK => ?_) (AllReadyH.cons rfl (fun K hK => ?_) AllReadyH.nil)
  · go_simp
    refine hK.out _ _ hH0 (fun _ => ?_)
    clear hK K
    refine wpAnyH_ready (rs := [10]) (by kernel_rfl) (by simp) ?_
    refine AllReadyH.cons rfl (fun K hK => ?_) AllReadyH.nil
    go_simp
    refine hK.out _ _ HHA.out (fun _ => ?_)
    clear hK K
    refine wpAnyH_ready (rs := [11]) (by kernel_rfl) (by simp) ?_
    refine AllReadyH.cons rfl (fun K hK => ?_) AllReadyH.nil
    rw [if_pos (by rfl)]
    refine wp_app_ps1 (.tmp 5) (.tmp 15) rfl B v l.length l (pieceAt b p) rfl (HOWN.out.alloc _) ⟨wd.heap.size, 0, none⟩ rfl HCELL.out HLL.out (by simp; have := HSZ.out; omega) ?_
    intro v4 w4 hown4 hg4
    obtain ⟨g4, cap4, rfl⟩ := Tri.own_succ hown4
    have HO4 := Lib.hid hown4
    have HG4 := Lib.hid hg4
    clear hown4 hg4
    have hgb : ∀ k : Nat, k < B → w4.heap[k]? = wd.heap[k]? := fun k h1 => (HG4.out.block k (by have := HSZ.out; simp; omega) (Tri.own_far HOWN.out k h1)).trans (Below.heap_alloc wd _ k (by have := HSZ.out; omega))
    have HZ4 : Hid (B ≤ w4.heap.size) := Lib.hid (by have h6 := HG4.out.size; have := HSZ.out; simp at h6; omega)
    have HRG := Lib.hid ((hgb g hg).trans HR1.out)
    have HRT := Lib.hid ((hgb gt hgt).trans HR2.out)
    have HRR := Lib.hid ((hgb t (by omega)).trans HR3.out)
    obtain ⟨c40, f40⟩ := cell_of1 HRG.out
    have hHb : w4.cell? ⟨gt, 0, none⟩ = some (.pointer (some ⟨t, 0, none⟩)) ∧ w4.cell? ⟨t, 0, none⟩ = some (.slice a b.length c) := ⟨(cell_of1 HRT.out).1, by rw [cell_of_row w4 t 0 _ 122 (0, 0) HRR.out]; rfl⟩
    have hRT5 := (Below.heap_setCell w4 ⟨g, 0, none⟩ (.slice (some ⟨g4, 0, none⟩) (l.length + 1) cap4) gt (show gt ≠ g from fun e => hne e.symm)).trans HRT.out
    have hHc : (w4.setCell ⟨g, 0, none⟩ (.slice (some ⟨g4, 0, none⟩) (l.length + 1) cap4)).cell? ⟨gt, 0, none⟩ = some (.pointer (some ⟨t, 0, none⟩)) ∧ (w4.setCell ⟨g, 0, none⟩ (.slice (some ⟨g4, 0, none⟩) (l.length + 1) cap4)).cell? ⟨t, 0, none⟩ = some (.slice a b.length c) := ⟨(cell_of1 hRT5).1, by rw [cell_of_row _ t 0 _ 122 (0, 0) ((Below.heap_setCell w4 ⟨g, 0, none⟩ (.slice (some ⟨g4, 0, none⟩) (l.length + 1) cap4) t (show t ≠ g by omega)).trans HRR.out)]; rfl⟩
    have HFIN : Hid (Coll w B g gt t (l ++ [pieceAt b p]) (w4.setCell ⟨g, 0, none⟩ (.slice (some ⟨g4, 0, none⟩) (l.length + 1) cap4))) := Lib.hid ⟨_, heap_set_same HRG.out, hRT5, by rw [List.length_append]; exact ownsRow_setCell_below HO4.out hg _, by rw [World.size_setCell]; exact HZ4.out, (((HB.out.alloc (by have := HSZ.out; omega) _).grown HG4.out (by have := HSZ.out; simp; omega) (fun k hk => by have := own_ge HOWN.out hk; omega)).setCell (p := ⟨g, 0, none⟩) hs _)⟩
    refine hK.out _ _ hHb (fun _ => ?_)
    clear hK K hgb hRT5
    simp only [Act.put, List.setIfInBounds_toArray]
    refine wpAnyH_ready (rs := [12]) (by kernel_rfl) (by simp) ?_
    refine AllReadyH.cons rfl (fun K hK => ?_) AllReadyH.nil
    go_simp
    refine hK.out _ _ hHc (fun _ => ?_)
    clear hK K
    refine wpAnyH_done (by kernel_rfl) ?_ _
    go_wp2
    go_ret
    exact ⟨rfl, HFIN.out⟩
  · go_simp
    refine hK.out _ _ HHA.out (fun _ => ?_)
    clear hK K
    refine wpAnyH_ready (rs := [0]) (by kernel_rfl) (by simp) ?_
    refine AllReadyH.cons rfl (fun K hK => ?_) AllReadyH.nil
    have c2 := HC2.out
    go_simp
    refine hK.out _ _ HHA.out (fun _ => ?_)
    clear hK K c2
    refine wpAnyH_ready (rs := [11]) (by kernel_rfl) (by simp) ?_
    refine AllReadyH.cons rfl (fun K hK => ?_) AllReadyH.nil
    rw [if_pos (by rfl)]
    refine wp_app_ps1 (.tmp 5) (.tmp 15) rfl B v l.length l (pieceAt b p) rfl (HOWN.out.alloc _) ⟨wd.heap.size, 0, none⟩ rfl HCELL.out HLL.out (by simp; have := HSZ.out; omega) ?_
    intro v4 w4 hown4 hg4
    obtain ⟨g4, cap4, rfl⟩ := Tri.own_succ hown4
    have HO4 := Lib.hid hown4
    have HG4 := Lib.hid hg4
    clear hown4 hg4
    have hgb : ∀ k : Nat, k < B → w4.heap[k]? = wd.heap[k]? := fun k h1 => (HG4.out.block k (by have := HSZ.out; simp; omega) (Tri.own_far HOWN.out k h1)).trans (Below.heap_alloc wd _ k (by have := HSZ.out; omega))
    have HZ4 : Hid (B ≤ w4.heap.size) := Lib.hid (by have h6 := HG4.out.size; have := HSZ.out; simp at h6; omega)
    have HRG := Lib.hid ((hgb g hg).trans HR1.out)
    have HRT := Lib.hid ((hgb gt hgt).trans HR2.out)
    have HRR := Lib.hid ((hgb t (by omega)).trans HR3.out)
    obtain ⟨c40, f40⟩ := cell_of1 HRG.out
    have hHb : w4.cell? ⟨gt, 0, none⟩ = some (.pointer (some ⟨t, 0, none⟩)) ∧ w4.cell? ⟨t, 0, none⟩ = some (.slice a b.length c) := ⟨(cell_of1 HRT.out).1, by rw [cell_of_row w4 t 0 _ 122 (0, 0) HRR.out]; rfl⟩
    have hRT5 := (Below.heap_setCell w4 ⟨g, 0, none⟩ (.slice (some ⟨g4, 0, none⟩) (l.length + 1) cap4) gt (show gt ≠ g from fun e => hne e.symm)).trans HRT.out
    have hHc : (w4.setCell ⟨g, 0, none⟩ (.slice (some ⟨g4, 0, none⟩) (l.length + 1) cap4)).cell? ⟨gt, 0, none⟩ = some (.pointer (some ⟨t, 0, none⟩)) ∧ (w4.setCell ⟨g, 0, none⟩ (.slice (some ⟨g4, 0, none⟩) (l.length + 1) cap4)).cell? ⟨t, 0, none⟩ = some (.slice a b.length c) := ⟨(cell_of1 hRT5).1, by rw [cell_of_row _ t 0 _ 122 (0, 0) ((Below.heap_setCell w4 ⟨g, 0, none⟩ (.slice (some ⟨g4, 0, none⟩) (l.length + 1) cap4) t (show t ≠ g by omega)).trans HRR.out)]; rfl⟩
    have HFIN : Hid (Coll w B g gt t (l ++ [pieceAt b p]) (w4.setCell ⟨g, 0, none⟩ (.slice (some ⟨g4, 0, none⟩) (l.length + 1) cap4))) := Lib.hid ⟨_, heap_set_same HRG.out, hRT5, by rw [List.length_append]; exact ownsRow_setCell_below HO4.out hg _, by rw [World.size_setCell]; exact HZ4.out, (((HB.out.alloc (by have := HSZ.out; omega) _).grown HG4.out (by have := HSZ.out; simp; omega) (fun k hk => by have := own_ge HOWN.out hk; omega)).setCell (p := ⟨g, 0, none⟩) hs _)⟩
    refine hK.out _ _ hHb (fun _ => ?_)
    clear hK K hgb hRT5
    simp only [Act.put, List.setIfInBounds_toArray]
    refine wpAnyH_ready (rs := [12]) (by kernel_rfl) (by simp) ?_
    refine AllReadyH.cons rfl (fun K hK => ?_) AllReadyH.nil
    go_simp
    refine hK.out _ _ hHc (fun _ => ?_)
    clear hK K
    refine wpAnyH_done (by kernel_rfl) ?_ _
    go_wp2
    go_ret
    exact ⟨rfl, HFIN.out⟩
theorem scan_none (w : World) (A : Option Addr) (n c : Nat) :
    Calls Tryz.prog 141 #[.pointer none, .slice A n c] w (GivesPcs w []) := by
  go_enter Tryz.func141, Tryz.ntmps141
  go_wp2
  go_ret
  exact ⟨none, 0, rfl, fun h => by simp at h, (Below.refl _ _).alloc (Nat.le_refl _) _⟩
/-- Pieces, with room. -/
def GivesPcsC (w : World) (l : List Pr) (e : Ending) (w' : World) : Prop := ∃ A c, e = .returned (.slice A l.length c) ∧ Ps w' w'.heap.size A l ∧ Below w.heap.size w w' ∧ (A = none → c = 0) ∧ l.length ≤ c
set_option maxHeartbeats 1000000 in
theorem tscan_full (w : World) {s : Nat} (t : Nat) (b : Tx) (ht : Tw w s t b) (h0 : b ≠ []) (hl : b.length ≤ 1000) (line : Tx) (al : Option Addr) (cl : Nat) (hb : Ln w al line cl) (hll : line.length ≤ 1000) :
    Calls Tryz.prog 141 #[.pointer (some ⟨t, 0, none⟩), .slice al line.length cl] w (GivesPcsC w (pcs b line)) := by
  obtain ⟨a, c, hfx⟩ := tw_fx ht hb
  have HFX := Lib.hid hfx
  have hmf : ∀ (fn : Fn) (first cap : Array Value) (w : World), (Instr.makeFunc fn first cap).run Tryz.prog w = .ok (.func fn first cap) w := fun _ _ _ _ => rfl
  have hcs := call_srch b
  have htl := txt_lt hfx.row
  obtain ⟨gt, hgt⟩ : ∃ gt, gt = w.heap.size := ⟨_, rfl⟩
  obtain ⟨g, hg⟩ : ∃ g, g = w.heap.size + 1 := ⟨_, rfl⟩
  obtain ⟨W2, hW2⟩ : ∃ W2, W2 = ((w.alloc (.cells #[.pointer (some ⟨t, 0, none⟩)] 84)).alloc (.cells #[.slice none 0 0] 44)) := ⟨_, rfl⟩
  have hba : Below w.heap.size w W2 := by rw [hW2]; exact ((Below.refl _ _).alloc (Nat.le_refl _) _).alloc (by simp) _
  have hsz : W2.heap.size = w.heap.size + 2 := by rw [hW2]; simp
  have hr1 : W2.heap[gt]? = some (.cells #[.pointer (some ⟨t, 0, none⟩)] 84 (0, 0)) := by rw [hW2, hgt]; exact heap_alloc2_old _ _ _
  have hr2 : W2.heap[g]? = some (.cells #[.slice none 0 0] 44 (0, 0)) := by
    rw [hW2, hg]
    have := heap_alloc_new (w.alloc (.cells #[.pointer (some ⟨t, 0, none⟩)] 84)) (.cells #[.slice none 0 0] 44)
    rwa [World.size_alloc] at this
  have hfx2 := hfx.keep hba
  have hS0 : W2.drew.cell? ⟨gt, 0, none⟩ = some (.pointer (some ⟨t, 0, none⟩)) ∧ W2.drew.cell? ⟨t, 4, none⟩ = some (.func (.func (srch b)) #[] #[]) := ⟨(cell_of1 hr1).1, hfx2.search⟩
  have HC0 : Hid (Coll w (w.heap.size + 2) g gt t (pcsTo b line 0) W2.drew) := Lib.hid ⟨.slice none 0 0, hr2, hr1, ⟨rfl, Or.inl ⟨rfl, rfl⟩⟩, by show _ ≤ W2.heap.size; omega, below_drews hba 1⟩
  have HGT := Lib.hid hgt
  have HG := Lib.hid hg
  have HTL := Lib.hid htl
  clear hfx ht hb hba hr1 hr2 hfx2 hsz htl
  go_enter Tryz.func141, Tryz.ntmps141
  go_wp2_with fail
  rw [← hg, ← hW2, ← hgt]
  clear hgt hg hW2
  refine wp_region_held_drew (S := fun w' => w'.cell? ⟨gt, 0, none⟩ = some (.pointer (some ⟨t, 0, none⟩)) ∧ w'.cell? ⟨t, 4, none⟩ = some (.func (.func (srch b)) #[] #[])) (by kernel_rfl) hS0 (fun hH0 => ?_)
  generalize W2.drew = wd at *
  refine held_take (i := 0) (d := 8) (oi := _) (v := ?_) rfl rfl (by kernel_rfl) (by kernel_rfl) (by kernel_rfl) (fun _ _ _ h => h) (Or.inl ⟨by rfl, ?_⟩) (by assumption) ?_
  rotate_left
  · (intro w hSw; obtain ⟨hS1, hS2⟩ := hSw; go_simp; (try with_reducible rfl))
  simp only [Act.put, List.setIfInBounds_toArray, List.set_cons_zero, List.set_cons_succ]
  refine held_take (i := 1) (d := 9) (oi := _) (v := ?_) rfl rfl (by kernel_rfl) (by kernel_rfl) (by kernel_rfl) (fun _ _ _ h => h) (Or.inl ⟨by rfl, ?_⟩) (by assumption) ?_
  rotate_left
  · (intro w hSw; clear hSw; go_simp; (try with_reducible rfl))
  simp only [Act.put, List.setIfInBounds_toArray, List.set_cons_zero, List.set_cons_succ]
  refine held_take (i := 2) (d := 10) (oi := _) (v := ?_) rfl rfl (by kernel_rfl) (by kernel_rfl) (by kernel_rfl) (fun _ _ _ h => h) (Or.inl ⟨by rfl, ?_⟩) (by assumption) ?_
  rotate_left
  · (intro w hSw; clear hSw; go_simp; (try with_reducible rfl))
  simp only [Act.put, List.setIfInBounds_toArray, List.set_cons_zero, List.set_cons_succ]
  refine held_take (i := 3) (d := 11) (oi := _) (v := ?_) rfl rfl (by kernel_rfl) (by kernel_rfl) (by kernel_rfl) (fun _ _ _ h => h) (Or.inl ⟨by rfl, ?_⟩) (by assumption) ?_
  rotate_left
  · (intro w hSw; obtain ⟨hS1, hS2⟩ := hSw; go_simp; (try with_reducible rfl))
  simp only [Act.put, List.setIfInBounds_toArray, List.set_cons_zero, List.set_cons_succ]
  refine held_take (i := 4) (d := 12) (oi := _) (v := ?_) rfl rfl (by kernel_rfl) (by kernel_rfl) (by kernel_rfl) (fun _ _ _ h => h) (Or.inl ⟨by rfl, ?_⟩) (by assumption) ?_
  rotate_left
  · (intro w hSw; obtain ⟨hS1, hS2⟩ := hSw; go_simp; (try with_reducible rfl))
  simp only [Act.put, List.setIfInBounds_toArray, List.set_cons_zero, List.set_cons_succ]
  refine held_take (i := 5) (d := 13) (oi := _) (v := ?_) rfl rfl (by kernel_rfl) (by kernel_rfl) (by kernel_rfl) (fun _ _ _ h => h) (Or.inl ⟨by rfl, ?_⟩) (by assumption) ?_
  rotate_left
  · (intro w hSw; clear hSw; go_simp; (try with_reducible rfl))
  simp only [Act.put, List.setIfInBounds_toArray, List.set_cons_zero, List.set_cons_succ]
  refine held_take (i := 6) (d := 14) (oi := _) (v := ?_) rfl rfl (by kernel_rfl) (by kernel_rfl) (by kernel_rfl) (fun _ _ _ h => h) (Or.inl ⟨by rfl, ?_⟩) (by assumption) ?_
  rotate_left
  · (intro w hSw; clear hSw; go_simp; (try with_reducible rfl))
  simp only [Act.put, List.setIfInBounds_toArray, List.set_cons_zero, List.set_cons_succ]
  refine wpAnyH_ready (rs := [7]) (by kernel_rfl) (by simp) ?_
  refine AllReadyH.cons rfl (fun K hK => ?_) AllReadyH.nil
  go_simp
  have HI1 : Hid (∀ X, Below w.heap.size w X → Fx s t b a c line al cl X) := Lib.hid fun X h => HFX.out.keep h
  refine (search_any wd b line 142 #[.pointer (some ⟨g, 0, none⟩), .pointer (some ⟨gt, 0, none⟩)] (fun fr X => Coll w (w.heap.size + 2) g gt t (pcsTo b line fr) X) (fun _ => False) s t a c al cl ⟨call23, fun fr X q h => h.drewN q, ?_⟩ (fun fr X h => by obtain ⟨_, _, _, _, _, h⟩ := h; exact HI1.out X h) (fun X h => h.elim) h0 hl hll 0 (by omega) HC0.out).mono ?_
  · intro fr p X hX hf hp
    have hc := pcsTo_len b line fr
    have hfp := hf.1
    have hFX : Fx s t b a c line al cl X := by obtain ⟨_, _, _, _, _, h⟩ := hX; exact HI1.out X h
    refine (tell_scan w X _ g gt s t _ b line a c al cl hX hFX (by have := HG.out; omega) (by have := HG.out; omega) (by have := HGT.out; omega) (by have := HG.out; have := HGT.out; omega) HTL.out p (by omega) hl (by omega)).mono ?_
    rintro e W' ⟨rfl, hC⟩
    exact Or.inl ⟨rfl, by rw [pcsTo_hit hf]; exact hC⟩
  · rintro e w1 ⟨rfl, (⟨fr, ⟨v, h1, h2, h3, h4, h5⟩, hno⟩ | h)⟩
    · rw [pcsTo_over h0 hno] at h3
      obtain ⟨A, cp, rfl, h6, h7, h8⟩ := own_ps h3 rfl
      have hS1 : w1.cell? ⟨gt, 0, none⟩ = some (.pointer (some ⟨t, 0, none⟩)) ∧ w1.cell? ⟨t, 4, none⟩ = some (.func (.func (srch b)) #[] #[]) := ⟨(cell_of1 h2).1, (HI1.out w1 h5).search⟩
      refine hK.out _ _ hS1 (fun _ => ?_)
      clear hK K
      refine wpAnyH_done (by kernel_rfl) ?_ _
      obtain ⟨d1, _⟩ := cell_of1 h1
      have HP := Lib.hid h8
      have H6 := Lib.hid h6
      have H7 := Lib.hid h7
      have HB := Lib.hid h5
      clear h1 h2 h3 h4 h5 h6 h7 h8 hno
      go_wp2
      go_ret
      exact ⟨A, cp, rfl, HP.out, HB.out, H7.out, H6.out⟩
    · exact h.elim
theorem scan_some (w : World) {s : Nat} (t : Nat) (b : Tx) (ht : Tw w s t b) (h0 : b ≠ []) (hl : b.length ≤ 1000) (line : Tx) (al : Option Addr) (cl : Nat) (hb : Ln w al line cl) (hll : line.length ≤ 1000) :
    Calls Tryz.prog 141 #[.pointer (some ⟨t, 0, none⟩), .slice al line.length cl] w (GivesPcs w (pcs b line)) := by
  refine (tscan_full w t b ht h0 hl line al cl hb hll).mono ?_
  rintro e w' ⟨A, c, h1, h2, h3, _⟩
  exact ⟨A, c, h1, h2, h3⟩
end Go.Proofs.YtcbhjhhajeeimaaGreat.Two
/- What a Two's functions answer: all of it. -/
namespace Go.Proofs.YtcbhjhhajeeimaaGreat.Two
end Go.Proofs.YtcbhjhhajeeimaaGreat.Two
/- The reference's Next; few. -/
namespace Go.Proofs.YtcbhjhhajeeimaaGreat.Two
open Go.RowKit Go.Maps Go.Proofs.YtcbhjhhajeeimaaGreat.Crt Go.Proofs.YtcbhjhhajeeimaaGreat.Suf Go.Proofs.YtcbhjhhajeeimaaGreat.Prs
set_option maxRecDepth 100000
set_option linter.unusedVariables false

theorem str_mid (x : Tx) (p k : Nat) : (str x).extract p (p + k) = str ((x.drop p).take k) := by
  unfold str
  rw [ByteArray.extract_mk]
  congr 1
  show (List.take (p + k - p) (x.drop p)).toArray = _
  rw [Nat.add_sub_cancel_left]
theorem cut_mid (a : Option Addr) (l : Tx) (c k E : Nat) (hk : k ≤ E) (hE : E ≤ l.length) (hc : l.length ≤ c) (w : World) (B : Nat) (hb : Bs w B a l) :
    ∃ A, (∀ W, (Instr.slice 23 (.slice a l.length c) (some (.int .i64 (k : Int))) (some (.int .i64 (E : Int))) none).run Tryz.prog W = .ok (.slice A (E - k) (c - k)) W) ∧ ∀ X, Bs X B a l → Bs X B A ((l.drop k).take (E - k)) := by
  have ht : Tryz.prog.underlying 23 = some (.slice (Tryz.prog.elem 23)) := by simp [Program.elem, Tryz.underlying23]
  have he : Tryz.prog.elem 23 = 5 := by simp [Program.elem, Tryz.underlying23]
  refine ⟨if c = k then a else a.map (·.add k), fun W => ?_, fun X hb h0 => ?_⟩
  · rw [run_slice_lh W 23 _ _ _ ht .i64 .i64 _ _ (by omega) (by omega) (by omega), he, size_of5]
    simp [Result.andThen, sliced]
  · rw [List.length_take, List.length_drop] at h0
    obtain ⟨b', o', rfl, hb', hcs⟩ := hb (by omega)
    refine ⟨b', o' + k, by rw [if_neg (by omega)]; simp [Addr.add], hb', fun i hi => ?_⟩
    rw [List.length_take, List.length_drop] at hi
    rw [List.getElem_take, List.getElem_drop, Nat.add_assoc]
    exact hcs (k + i) (by omega)
/-- The text that a cut of a line is. -/
theorem mid_str {w : World} {B : Nat} {A : Option Addr} {l b : Tx} {k E c : Nat} (hE : E = k + b.length) (hl : E ≤ l.length) (h : Bs w B A ((l.drop k).take (E - k))) : (convert 23 9 (.slice A (E - k) c)).run Tryz.prog w = .ok (.string (str ((l.drop k).take b.length))) w := by
  have := str_of_bs c h
  rw [show E - k = b.length by omega] at this ⊢
  rwa [List.length_take, List.length_drop, Nat.min_eq_left (by omega)] at this
end Go.Proofs.YtcbhjhhajeeimaaGreat.Two
