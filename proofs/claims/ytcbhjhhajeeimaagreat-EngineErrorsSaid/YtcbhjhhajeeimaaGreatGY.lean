/- Package by package: R1 R2 R3 R4. -/
import Derived.Test.YtcbhjhhajeeimaaGreatGH
/- What is told at windows of a line, and a Walter in memory. -/
namespace Go.Proofs.YtcbhjhhajeeimaaGreat.Wal
open Go.Proofs.YtcbhjhhajeeimaaGreat.Tri Go.Proofs.YtcbhjhhajeeimaaGreat.Lnk Go.Proofs.YtcbhjhhajeeimaaGreat.Prs Go.Proofs.YtcbhjhhajeeimaaGreat.Spa Go.Proofs.YtcbhjhhajeeimaaGreat.Cwl Go.Proofs.YtcbhjhhajeeimaaGreat.Bck Go.Proofs.YtcbhjhhajeeimaaGreat.Shf Go.Proofs.YtcbhjhhajeeimaaGreat.Reg Go.RowKit Go.Maps
set_option maxRecDepth 100000
set_option linter.unusedVariables false

/-- One byte more fits, just where fewer than fit have been gone through. -/
theorem fits_next {p : List Tx} {line : Tx} {e n : Nat} (hn : n < e) (hf : n ≤ fits p line e) : backN line e (n + 1) ∈ p ↔ n < fits p line e := by
  constructor
  · intro h
    rcases Nat.lt_or_ge n (fits p line e) with h1 | h1
    · exact h1
    · have e1 : n = fits p line e := by omega
      have := fits_stop p line e (by omega)
      rw [← e1] at this
      exact absurd h this
  · intro h
    exact fits_in p line e (n + 1) (by omega) (by omega)
theorem backN_zero (line : Tx) (e : Nat) : backN line e 0 = [] := by
  unfold backN
  rw [Nat.sub_zero, List.drop_of_length_le (by rw [List.length_take]; omega)]
  rfl
theorem windows_go {l : List Tx} {line : Tx} {f e : Nat} (he : e ≤ line.length) (hf : line.length < e + f) : windows l line f e = e :: windows l line (f - 1) (e + moveOf l line e) := by
  obtain ⟨g, rfl⟩ : ∃ g, f = g + 1 := ⟨f - 1, by omega⟩
  rw [windows, if_pos he, Nat.add_sub_cancel]
theorem windows_end {l : List Tx} {line : Tx} {f e : Nat} (he : line.length < e) : windows l line f e = [] := by
  cases f with
  | zero => rfl
  | succ f => rw [windows, if_neg (by omega)]
theorem move_is (l : List Tx) (line : Tx) (e : Nat) (he : e ≤ line.length) : moveOf l line e = (if fits (paths (turned l)) line e < e then farOf (turned l) (paths (turned l)) (backN line e (fits (paths (turned l)) line e)) (line.getD (e - 1 - fits (paths (turned l)) line e) 0) else secondOf (turned l) (backN line e (fits (paths (turned l)) line e))) := by
  have hfe := fits_le (paths (turned l)) line e
  have hnl : (backN line e (fits (paths (turned l)) line e)).length = fits (paths (turned l)) line e := backN_len he hfe
  unfold moveOf
  simp only [hnl]
  by_cases h : fits (paths (turned l)) line e < e
  · rw [if_pos h, List.getD_eq_getElem?_getD, List.getElem?_eq_getElem (by omega)]
    exact if_pos h
  · rw [if_neg h]
    split
    · exact if_neg h
    · rfl
theorem winds_len (l : List Tx) (line : Tx) : ∀ f e, (windows l line f e).length ≤ f
  | 0, e => Nat.le_refl _
  | f + 1, e => by
    rw [windows]
    split
    · have := winds_len l line f (e + moveOf l line e)
      simp; omega
    · simp
/-- Where texts begin that end at a window, behind n bytes that were gone back through. -/
def startsTo (l : List Tx) (line : Tx) (e : Nat) : Nat → List Int
  | 0 => []
  | n + 1 => startsTo l line e n ++ if backN line e (n + 1) ∈ turned l then [((e - (n + 1) : Nat) : Int)] else []
theorem starts_len (l : List Tx) (line : Tx) (e : Nat) : ∀ n, (startsTo l line e n).length ≤ n
  | 0 => Nat.le_refl _
  | n + 1 => by
    have := starts_len l line e n
    rw [startsTo, List.length_append]
    split <;> simp <;> omega
theorem starts_hit {l : List Tx} {line : Tx} {e n : Nat} (h : backN line e (n + 1) ∈ turned l) : startsTo l line e (n + 1) = startsTo l line e n ++ [((e - (n + 1) : Nat) : Int)] := by rw [startsTo, if_pos h]
theorem starts_skip {l : List Tx} {line : Tx} {e n : Nat} (h : backN line e (n + 1) ∉ turned l) : startsTo l line e (n + 1) = startsTo l line e n := by rw [startsTo, if_neg h, List.append_nil]
/-- .. behind all that fit. -/
def startsOf (l : List Tx) (line : Tx) (e : Nat) : List Int := startsTo l line e (fits (paths (turned l)) line e)
/-- What is told of a window, as pairs. -/
def pairsAt (l : List Tx) (line : Tx) (e : Nat) : List Pr := (startsOf l line e).map fun s => ⟨s, (e : Int)⟩
theorem found_to (l : List Tx) (line : Tx) (e : Nat) : ∀ n, n ≤ e → ((List.range (n + 1)).flatMap fun n => if backN line e n ∈ turned l then [(⟨(e : Int) - n, (e : Int)⟩ : Pr)] else []) = (startsTo l line e n).map fun s => ⟨s, (e : Int)⟩
  | 0, _ => by
    have : ([] : Tx) ∉ turned l := fun h => by have := turned_ne h; simp at this
    simp [startsTo, backN_zero, this]
  | n + 1, h => by
    rw [List.range_succ, List.flatMap_append, found_to l line e n (by omega), startsTo, List.map_append]
    congr 1
    simp only [List.flatMap_cons, List.flatMap_nil, List.append_nil]
    split
    · simp; omega
    · rfl
theorem found_starts (l : List Tx) (line : Tx) (e : Nat) : foundAt l line e = pairsAt l line e := found_to l line e _ (fits_le _ _ _)
theorem pairs_len {l : List Tx} {line : Tx} {e : Nat} (he : e ≤ line.length) (hl : line.length ≤ 1000) : (pairsAt l line e).length ≤ 1000 := by
  rw [pairsAt, List.length_map]
  have h1 := starts_len l line e (fits (paths (turned l)) line e)
  have h2 := fits_le (paths (turned l)) line e
  exact Nat.le_trans h1 (by omega)
theorem flat_len {α : Type} (f : Nat → List α) (B : Nat) : ∀ d : List Nat, (∀ e ∈ d, (f e).length ≤ B) → (d.flatMap f).length ≤ d.length * B
  | [], _ => by simp
  | e :: d, h => by
    have h1 := h e (by simp)
    have h2 := flat_len f B d fun x hx => h x (by simp [hx])
    rw [List.flatMap_cons, List.length_append, List.length_cons, Nat.succ_mul]; omega
/-- The windows of a line. -/
def windsN (l : List Tx) (line : Tx) : List Nat := if turned l = [] then [] else windows l line (line.length + 1) (Cwl.leastOf (turned l))
/-- All that is found. -/
theorem found_winds (l : List Tx) (line : Tx) : norm ((windsN l line).flatMap (pairsAt l line)) = scanOf l line := by
  unfold windsN
  split
  · rename_i h
    have : scanOf l line = [] := by
      refine List.eq_nil_iff_forall_not_mem.2 fun r hr => ?_
      obtain ⟨a, b, hab, hb, hm, _⟩ := (mem_scan l line r).1 hr
      have h2 : ((line.take b).drop a).reverse ∈ turned l := by
        rw [mem_turned]
        refine ⟨fun h => ?_, by simpa using hm⟩
        have := congrArg List.length h
        rw [List.length_reverse, List.length_drop, List.length_take] at this
        simp at this; omega
      rw [h] at h2
      cases h2
    rw [this]; rfl
  · rename_i h
    rw [← found_all h]
    congr 1
    exact flat_congr _ fun e _ => (found_starts l line e).symm
/-- A Walter of some texts; nil is that of no texts. -/
def Cw (w : World) (p : Option Addr) (l : List Tx) : Prop :=
  (p = none → turned l = []) ∧ ∀ a, p = some a → ∃ b x ps, a = ⟨b, 0, none⟩ ∧ w.heap[b]? = some (.cells #[.pointer (some ⟨x, 0, none⟩), .pointer ps, .int .i64 (Cwl.leastOf (turned l) : Int)] 128 (0, 0)) ∧ (∃ s, Bk w s x l) ∧ Sh w ps l
theorem Cw.keep {w w' : World} {p : Option Addr} {l : List Tx} (h : Cw w p l) (hb : Below w.heap.size w w') : Cw w' p l :=
  ⟨h.1, fun a ha => by
    obtain ⟨b, x, ps, e, h1, ⟨s, h2⟩, h3⟩ := h.2 a ha
    exact ⟨b, x, ps, e, (hb.block _ (txt_lt h1)).trans h1, ⟨s, h2.keep hb⟩, h3.keep hb⟩⟩
theorem cw_none (w : World) : Cw w none [] := ⟨fun _ => rfl, fun a h => by cases h⟩
def GivesCw (w : World) (l : List Tx) (e : Ending) (w' : World) : Prop := ∃ p, e = .returned (.pointer p) ∧ Cw w' p l ∧ Below w.heap.size w w'
/-- What is told of each window, and what holds behind some. -/
structure Tell (l : List Tx) (line : Tx) (fn : FuncId) (caps : Array Value) (I : List Nat → World → Prop) : Prop where
  call : ∀ (args : Array Value) (w : World), (callFunc fn args).run Tryz.prog w = .ok (.enter fn args) w
  keep : ∀ d W W', I d W → Below W.heap.size W W' → I d W'
  hit : ∀ d e W s A n c, I d W → e ≤ line.length → d.length ≤ 1001 → W.ownsRow s 3 1 (.slice A n c) n (ivals (startsOf l line e)) →
    Calls Tryz.prog fn (#[.int .i64 (e : Int), .slice A n c] ++ caps) W fun x W' => x = .returned (.tuple #[]) ∧ I (d ++ [e]) W'
end Go.Proofs.YtcbhjhhajeeimaaGreat.Wal
/- A line's windows gone through. -/
namespace Go.Proofs.YtcbhjhhajeeimaaGreat.Wal
open Go.Proofs.YtcbhjhhajeeimaaGreat.Tri Go.Proofs.YtcbhjhhajeeimaaGreat.Lnk Go.Proofs.YtcbhjhhajeeimaaGreat.Prs Go.Proofs.YtcbhjhhajeeimaaGreat.Spa Go.Proofs.YtcbhjhhajeeimaaGreat.Cwl Go.Proofs.YtcbhjhhajeeimaaGreat.Bck Go.Proofs.YtcbhjhhajeeimaaGreat.Shf Go.Proofs.YtcbhjhhajeeimaaGreat.Reg Go.RowKit Go.Maps
set_option maxRecDepth 100000
set_option linter.unusedVariables false

/-- A label behind two steps, and a goto back to it. -/
theorem wp_goto_mid {P : Program} {A B body : Code} {Q : Exit → Act → World → Prop} {a : Act} {w : World} (l : Nat) (J : Act → World → Prop) (μ : Act → World → Nat) (hA : findLabel A l = none) (hB : findLabel B l = none)
    (hQ : ∀ k a w, ¬ Q (.goto k) a w) (pre : ∀ K : Act → World → Prop, (∀ a w, J a w → K a w) → A.wp P (Exit.then (B.wp P (Exit.then K Q)) Q) a w)
    (pass : ∀ a w, J a w → body.wp P (Exit.jump l (fun a' w' => J a' w' ∧ μ a' w' < μ a w) Q) a w) : (Code.scope (A.seq (B.seq ((Code.label l).seq body)))).wp P Q a w := by
  refine wp_scope_jumps (rest := Code.skip.seq body) l J μ (by simp [findLabel, hA, hB]) ?_ ?_
  · have out : ∀ (e : Exit) a w, (∀ h : e = .normal, False) → Q e a w → Exit.jump l J Q e a w := fun e a w h0 h => by
      cases e with
      | goto k => exact absurd h (hQ k a w)
      | normal => exact (h0 rfl).elim
      | _ => exact h
    refine wp_seq (Code.wp_mono ?_ (pre J fun _ _ h => h))
    intro e1 a1 w1 h1
    cases e1 with
    | normal =>
      refine wp_seq (Code.wp_mono ?_ h1)
      intro e2 a2 w2 h2
      cases e2 with
      | normal =>
        refine wp_seq (wp_label (Code.wp_mono ?_ (pass a2 w2 h2)))
        intro e3 a3 w3 h3
        cases e3 with
        | goto k => exact ⟨h3.1, h3.2.1⟩
        | _ => exact h3
      | _ => exact out _ _ _ (fun h => by cases h) h2
    | _ => exact out _ _ _ (fun h => by cases h) h1
  · exact fun a w h => wp_seq (wp_skip (pass a w h))
theorem lt_or_ge_i (a b : Int) : a < b ∨ b ≤ a := by omega
theorem ln_at {w : World} {B : Nat} {a : Option Addr} {l : Tx} (h : Bs w B a l) (k : Nat) (hk : k < l.length) : ∃ b off, a = some ⟨b, off, none⟩ ∧ b < B ∧ w.cell? ⟨b, off + k, none⟩ = some (.int .u8 (l[k].toNat : Int)) := by
  obtain ⟨b, off, e, hb, hc⟩ := h (by omega)
  exact ⟨b, off, e, hb, hc k hk⟩
theorem walk_none (w : World) (A : Option Addr) (n c : Nat) (fn : FuncId) (caps : Array Value) :
    Calls Tryz.prog 146 #[.pointer none, .slice A n c, .func (.func fn) #[] caps] w fun e w' => e = .returned (.tuple #[]) ∧ w = w' := by
  go_enter Tryz.func146, Tryz.ntmps146
  go_step3
  go_wp2
  rw [Exit.noGoto_ret]
  refine bodyPost_ret (v := .tuple #[]) (by simp [results, Tryz.results146, go_sem]) rfl ?_
  exact ⟨rfl, rfl⟩
/-- What holds whenever a window is come to: so many have been told, and the next one ends behind e bytes. -/
def Jd (b : Nat) (al : Option Addr) (line : Tx) (cl : Nat) (fn : FuncId) (caps : Array Value) (l : List Tx) (m : Nat) (I : List Nat → World → Prop) (a' : Act) (w' : World) : Prop :=
  ∃ (d : List Nat) (e f : Nat) (u : Nat → Value), a' = { tmps := #[.pointer (some ⟨b, 0, none⟩), .slice al line.length cl, .func (.func fn) #[] caps, u 3, u 4, u 5, .int .i64 (e : Int), u 7, u 8, u 9, u 10, u 11, u 12, u 13, u 14, u 15, u 16, u 17, u 18, u 19, u 20, u 21, u 22, u 23, u 24, u 25, u 26, u 27, u 28, u 29, u 30, u 31, u 32, u 33, u 34, u 35, u 36, u 37, u 38, u 39, u 40, u 41, u 42, u 43, u 44, u 45, u 46, u 47, u 48, u 49, u 50, u 51, u 52, u 53, u 54, u 55, u 56, u 57, u 58, u 59, u 60, u 61, u 62, u 63, u 64, u 65, u 66, u 67, u 68, u 69, u 70, u 71, u 72, u 73, u 74, u 75, u 76, u 77, u 78, u 79, u 80, u 81, u 82, u 83, u 84, u 85, u 86, u 87, u 88, u 89], defers := [] } ∧ 0 < e ∧ e ≤ 100000 ∧ line.length < e + f ∧ windows l line (line.length + 1) m = d ++ windows l line f e ∧ I d w'
theorem jd_of {b : Nat} {al : Option Addr} {line : Tx} {cl : Nat} {fn : FuncId} {caps : Array Value} {l : List Tx} {m : Nat} {I : List Nat → World → Prop} {w' : World} (d : List Nat) (e f : Nat) {u3 u4 u5 u7 u8 u9 u10 u11 u12 u13 u14 u15 u16 u17 u18 u19 u20 u21 u22 u23 u24 u25 u26 u27 u28 u29 u30 u31 u32 u33 u34 u35 u36 u37 u38 u39 u40 u41 u42 u43 u44 u45 u46 u47 u48 u49 u50 u51 u52 u53 u54 u55 u56 u57 u58 u59 u60 u61 u62 u63 u64 u65 u66 u67 u68 u69 u70 u71 u72 u73 u74 u75 u76 u77 u78 u79 u80 u81 u82 u83 u84 u85 u86 u87 u88 u89 : Value} (h1 : 0 < e) (h2 : e ≤ 100000) (h3 : line.length < e + f) (h4 : windows l line (line.length + 1) m = d ++ windows l line f e) (h5 : I d w') :
    Jd b al line cl fn caps l m I { tmps := #[.pointer (some ⟨b, 0, none⟩), .slice al line.length cl, .func (.func fn) #[] caps, u3, u4, u5, .int .i64 (e : Int), u7, u8, u9, u10, u11, u12, u13, u14, u15, u16, u17, u18, u19, u20, u21, u22, u23, u24, u25, u26, u27, u28, u29, u30, u31, u32, u33, u34, u35, u36, u37, u38, u39, u40, u41, u42, u43, u44, u45, u46, u47, u48, u49, u50, u51, u52, u53, u54, u55, u56, u57, u58, u59, u60, u61, u62, u63, u64, u65, u66, u67, u68, u69, u70, u71, u72, u73, u74, u75, u76, u77, u78, u79, u80, u81, u82, u83, u84, u85, u86, u87, u88, u89], defers := [] } w' :=
  ⟨d, e, f, fun i => [undef, undef, undef, u3, u4, u5, undef, u7, u8, u9, u10, u11, u12, u13, u14, u15, u16, u17, u18, u19, u20, u21, u22, u23, u24, u25, u26, u27, u28, u29, u30, u31, u32, u33, u34, u35, u36, u37, u38, u39, u40, u41, u42, u43, u44, u45, u46, u47, u48, u49, u50, u51, u52, u53, u54, u55, u56, u57, u58, u59, u60, u61, u62, u63, u64, u65, u66, u67, u68, u69, u70, u71, u72, u73, u74, u75, u76, u77, u78, u79, u80, u81, u82, u83, u84, u85, u86, u87, u88, u89].getD i undef, rfl, h1, h2, h3, h4, h5⟩
set_option maxHeartbeats 4000000 in
theorem walk_some (w0 w : World) (b x : Nat) (l : List Tx) (line : Tx) (al : Option Addr) (cl m : Nat) (ps : Option Addr) (fn : FuncId) (caps : Array Value) (I : List Nat → World → Prop)
    (h1 : w0.heap[b]? = some (.cells #[.pointer (some ⟨x, 0, none⟩), .pointer ps, .int .i64 (m : Int)] 128 (0, 0))) (hm : Cwl.leastOf (turned l) = m) {s0 : Nat} (hB : Bk w0 s0 x l) (hS : Sh w0 ps l) (hb : Ln w0 al line cl) (hl : line.length ≤ 1000)
    (hT : Tell l line fn caps I) (hI : ∀ d W, I d W → Below w0.heap.size w0 W) (hw : I [] w) :
    Calls Tryz.prog 146 #[.pointer (some ⟨b, 0, none⟩), .slice al line.length cl, .func (.func fn) #[] caps] w fun e w' => e = .returned (.tuple #[]) ∧ I (windsN l line) w' := by
  have hb0 := txt_lt h1
  have hcell : ∀ X, Below w0.heap.size w0 X → ∀ i, X.cell? ⟨b, i, none⟩ = (#[Value.pointer (some ⟨x, 0, none⟩), .pointer ps, .int .i64 (m : Int)])[i]? := fun X hX i => by
    rw [hX.cell (p := ⟨b, i, none⟩) hb0, cell_of_row w0 b i _ 128 (0, 0) h1]
  have HC0 : Hid (∀ X, Below w0.heap.size w0 X → X.cell? ⟨b, 0, none⟩ = some (.pointer (some ⟨x, 0, none⟩))) := Lib.hid fun X hX => hcell X hX 0
  have HC1 : Hid (∀ X, Below w0.heap.size w0 X → X.cell? ⟨b, 1, none⟩ = some (.pointer ps)) := Lib.hid fun X hX => hcell X hX 1
  have c2 : w.cell? ⟨b, 2, none⟩ = some (.int .i64 (m : Int)) := hcell w (hI _ _ hw) 2
  have HI := Lib.hid hI
  have HT := Lib.hid hT
  have HW := Lib.hid hw
  have HB := Lib.hid hB
  have HS := Lib.hid hS
  have HL := Lib.hid hb
  have hmle : m ≤ 1000 := by
    rw [← hm]
    by_cases h : turned l = []
    · rw [h]; exact Nat.zero_le _
    · obtain ⟨y, hy, e⟩ := Cwl.least_is h
      rw [e]
      obtain ⟨_, _, _, _, h3⟩ := hB
      have := h3 _ ((mem_turned l y).1 hy).2
      rwa [List.length_reverse] at this
  have HM := Lib.hid hm
  clear hT hI hw hB hS hb h1 hcell hm
  by_cases h0 : turned l = []
  · have hm0 : m = 0 := by rw [← HM.out, h0]; rfl
    have HW0 : Hid (windsN l line = []) := Lib.hid (if_pos h0)
    subst hm0
    clear h0
    go_enter Tryz.func146, Tryz.ntmps146
    go_step3
    go_wp2
    rw [Exit.noGoto_ret]
    refine bodyPost_ret (v := .tuple #[]) (by simp [results, Tryz.results146, go_sem]) rfl ?_
    exact ⟨rfl, by rw [HW0.out]; exact HW.out⟩
  · have hm0 : 0 < m := by rw [← HM.out]; exact least_pos (fun x h => turned_ne h) h0
    have hz : ((m : Int) == 0) = false := by rw [beq_eq_false_iff_ne]; omega
    have HW0 : Hid (windsN l line = windows l line (line.length + 1) m) := Lib.hid (by rw [windsN, if_neg h0, HM.out])
    have HPOS := Lib.hid (fun e => move_pos h0 line e)
    clear h0
    go_enter Tryz.func146, Tryz.ntmps146
    obtain ⟨t, hx0, htr0⟩ := HB.out.tree
    have HX : Hid (∀ X, Below w0.heap.size w0 X → X.cell? ⟨x, 0, none⟩ = some (.pointer (some ⟨t, 0, none⟩))) := Lib.hid fun X hX => (hX.cell (p := ⟨x, 0, none⟩) (cell_lt0 hx0)).trans hx0
    have HST : Hid (∀ X, Below w0.heap.size w0 X → ∀ n : Int, (Lit.int .i64 n).wf = true → ∀ c : UInt8, Calls Tryz.prog 66 #[.pointer (some ⟨t, 0, none⟩), .int .i64 n, .int .u8 (c.toNat : Int)] X fun e w' => e = .returned (.int .i64 (stepOf (paths (turned l)) n c)) ∧ X = w') := Lib.hid fun X hX n hn c => step_any X _ t _ _ (htr0.keep hX) n hn c
    have HWH : Hid (∀ X, Below w0.heap.size w0 X → ∀ n : Int, (Lit.int .i64 n).wf = true → Calls Tryz.prog 83 #[.pointer (some ⟨x, 0, none⟩), .int .i64 n] X fun e w' => e = .returned (.bool (decide (pathD (paths (turned l)) n ∈ turned l))) ∧ Below X.heap.size X w') := Lib.hid fun X hX n hn => bwhole_any X x l (HB.out.keep hX) n hn
    have HPL := Lib.hid htr0.2.2.2.1
    have HWF : Hid (Wf (paths (turned l))) := Lib.hid (paths_wf _)
    have HPW : Hid (∀ q : Tx, (Lit.int .i64 (place (paths (turned l)) q)).wf = true ∨ place (paths (turned l)) q < 0) := Lib.hid fun q => by
      have h1 := place_lt (paths (turned l)) q
      have h2 := HPL.out
      rcases lt_or_ge_i (place (paths (turned l)) q) 0 with h | h
      · exact .inr h
      · exact .inl (wf_nat (by omega) (by omega))
    have hnil : ([] : Tx) ∈ paths (turned l) := (place_nonneg _ _).1 (by rw [place_nil HWF.out]; omega)
    have HNIL := Lib.hid hnil
    have HMV := Lib.hid (fun e h => move_is l line e h)
    have HSN : Hid (∀ s, s ∈ paths (turned l) → sndN l (place (paths (turned l)) s) = secondOf (turned l) s) := Lib.hid fun s hs => by
      obtain ⟨i, hi, e1, e2, _⟩ := place_mem hs
      rw [e1, sndN_at hi, e2]
    have HFN : Hid (∀ s c, s ∈ paths (turned l) → farN l (place (paths (turned l)) s) c = farOf (turned l) (paths (turned l)) s c) := Lib.hid fun s c hs => by
      obtain ⟨i, hi, e1, e2, _⟩ := place_mem hs
      rw [e1, farN_at hi, e2]
    have HSB : Hid (∀ s, secondOf (turned l) s ≤ m) := Lib.hid fun s => by rw [← HM.out]; exact second_le _ _
    have hcf := HT.out.call
    have HTK := Lib.hid HT.out.keep
    have HTH := Lib.hid HT.out.hit
    clear hx0 htr0 HT hnil
    refine wp_goto_mid 0 (Jd b al line cl fn caps l m I) (fun a' _ => line.length + 1 - (intOf (a'.tmps.getD 6 undef)).toNat) (by rfl) (by rfl) (fun _ _ _ h => h) ?_ ?_
    · intro K hK
      go_wp2
      exact jd_of [] m (line.length + 1) hm0 (by omega) (by omega) rfl HW.out
    · rintro a' w' ⟨d, e, f, u, rfl, he0, heb, hef, hwi, hid⟩
      have HID := Lib.hid hid
      have HWI := Lib.hid hwi
      have HB0 := Lib.hid (HI.out _ _ hid)
      have HTK2 := HTK.out
      clear hid hwi c2 hz hm0
      by_cases hel : e ≤ line.length
      · have hng : ¬ (line.length : Int) < (e : Int) := by omega
        have hdl : d.length ≤ 1001 := by
          have h1 := winds_len l line (line.length + 1) m
          rw [HWI.out, List.length_append] at h1
          omega
        have hfe := fits_le (paths (turned l)) line e
        have HFX := Lib.hid (fun n (hn : n < e) (hf : n ≤ fits (paths (turned l)) line e) => fits_next (p := paths (turned l)) (line := line) hn hf)
        have HFI := Lib.hid (fun n h0 h => fits_in (paths (turned l)) line e n h0 h)
        have HSO : Hid (startsOf l line e = startsTo l line e (fits (paths (turned l)) line e)) := Lib.hid rfl
        have HMVE := Lib.hid (HMV.out e hel)
        have HMEM : Hid (∀ n, n ≤ fits (paths (turned l)) line e → backN line e n ∈ paths (turned l)) := Lib.hid fun n h => by
          rcases Nat.eq_zero_or_pos n with h0 | h0
          · rw [h0, backN_zero]; exact HNIL.out
          · exact HFI.out n h0 h
        obtain ⟨F, hF⟩ : ∃ F, F = fits (paths (turned l)) line e := ⟨_, rfl⟩
        rw [← hF] at hfe HFX HFI HSO HMVE HMEM
        have HFF := Lib.hid hF
        clear hF HTK2
        go_wp2
        go_step3; go_wp2
        go_loopw [7, 8, 9] (fun vs vn vf wr => ∃ k fr : Nat, k ≤ F ∧ k + fr = e ∧ vn = .int .i64 (place (paths (turned l)) (backN line e k)) ∧ vf = .int .i64 (fr : Int) ∧ wr.ownsRow w'.heap.size 3 1 vs (startsTo l line e k).length (ivals (startsTo l line e k)) ∧ Below w'.heap.size w' wr) (fun _ _ vf _ => (intOf vf).toNat)
        case atStart => exact ⟨0, e, Nat.zero_le _, by omega, by rw [backN_zero, place_nil HWF.out], rfl, World.ownsRow_nil _ _ _ _, Below.refl _ _⟩
        case round =>
          obtain ⟨k, fr, hk, hkf, rfl, rfl, hown, hbel⟩ := hrel
          obtain ⟨A, cA, rfl⟩ := own_is' hown
          have hbw := HB0.out.trans (hbel.mono HB0.out.size)
          have hsl := starts_len l line e k
          have HBW := Lib.hid hbw
          have HBEL := Lib.hid hbel
          have HOWN := Lib.hid hown
          clear hbw hbel hown
          by_cases hfr : 0 < fr
          · have hfr2 : (0 : Int) < (fr : Int) := by omega
            have hke : k < e := by omega
            obtain ⟨j, rfl⟩ : ∃ j, fr = j + 1 := ⟨fr - 1, by omega⟩
            have hwj : IntKind.i64.wrap (j : Int) = (j : Int) := by rw [IntWalk.i64_in _ (by omega)]
            have hjl : j < line.length := by omega
            have hjl2 : (j : Int) < (line.length : Int) := by omega
            obtain ⟨bl, ol, rfl, hbl, hr0⟩ := ln_at HL.out.1 j hjl
            have hr := (HBW.out.cell (p := ⟨bl, ol + j, none⟩) hbl).trans hr0
            have HCL : Hid (∀ X, Below w0.heap.size w0 X → X.cell? ⟨bl, ol + j, none⟩ = some (.int .u8 (line[j].toNat : Int))) := Lib.hid fun X hX => (hX.cell (p := ⟨bl, ol + j, none⟩) hbl).trans hr0
            clear hbl hr0
            have d0 := HC0.out _ HBW.out
            have d1 := HX.out _ HBW.out
            have HSU : Hid (backN line e (k + 1) = backN line e k ++ [line[j]]) := Lib.hid (by
              rw [backN_succ hel hke]
              simp only [show e - 1 - k = j by omega])
            have HMK := Lib.hid (HMEM.out k hk)
            have HSTEP : Hid (∀ X, Below wr.heap.size wr X → Calls Tryz.prog 66 #[.pointer (some ⟨t, 0, none⟩), .int .i64 (place (paths (turned l)) (backN line e k)), .int .u8 (line[j].toNat : Int)] X fun e' w' => e' = .returned (.int .i64 (place (paths (turned l)) (backN line e (k + 1)))) ∧ X = w') := Lib.hid fun X hX => by
              obtain ⟨i, hi, e1, e2, _⟩ := place_mem HMK.out
              have := HST.out X (HBW.out.trans (hX.mono HBW.out.size)) (place (paths (turned l)) (backN line e k)) (by rcases HPW.out (backN line e k) with h | h; exact h; omega) line[j]
              rw [e1, stepOf_at hi, e2, ← HSU.out] at this
              rw [e1]; exact this
            have HNX := Lib.hid (HFX.out k hke hk)
            have HWHO : Hid (∀ X, Below wr.heap.size wr X → backN line e (k + 1) ∈ paths (turned l) → Calls Tryz.prog 83 #[.pointer (some ⟨x, 0, none⟩), .int .i64 (place (paths (turned l)) (backN line e (k + 1)))] X fun e' w' => e' = .returned (.bool (decide (backN line e (k + 1) ∈ turned l))) ∧ Below X.heap.size X w') := Lib.hid fun X hX hin => by
              have := HWH.out X (HBW.out.trans (hX.mono HBW.out.size)) (place (paths (turned l)) (backN line e (k + 1))) (by rcases HPW.out (backN line e (k + 1)) with h | h; exact h; have := (place_nonneg _ _).2 hin; omega)
              rwa [pathD_place hin] at this
            have HSH : Hid (backN line e (k + 1) ∈ turned l → startsTo l line e (k + 1) = startsTo l line e k ++ [(j : Int)]) := Lib.hid fun h => by rw [starts_hit h, show e - (k + 1) = j by omega]
            have HSS := Lib.hid (starts_skip (l := l) (line := line) (e := e) (n := k))
            have hkf2 : k + 1 + j = e := by omega
            have HFF1 : Hid (∀ c, line[j]? = some c → c = line[j]) := Lib.hid fun c hc => by rw [List.getElem?_eq_getElem hjl] at hc; exact (Option.some.inj hc).symm
            have HCC : Hid (line.getD j 0 = line[j]) := Lib.hid (by rw [List.getD_eq_getElem?_getD, List.getElem?_eq_getElem hjl]; rfl)
            generalize line[j] = c at *
            clear HSU HFF1 hfr hfr2 hjl hke hkf hsl
            by_cases hin : backN line e (k + 1) ∈ paths (turned l)
            · have hz0 : ¬ place (paths (turned l)) (backN line e (k + 1)) < 0 := by have := (place_nonneg (paths (turned l)) (backN line e (k + 1))).2 hin; omega
              have HIN := Lib.hid hin
              have HKF := Lib.hid (HNX.out.1 hin)
              clear hin
              generalize hzz : place (paths (turned l)) (backN line e (k + 1)) = z at *
              have HZZ := Lib.hid hzz
              clear hzz
              generalize place (paths (turned l)) (backN line e k) = z0 at *
              go_wp2
              go_quiet (exact (HSTEP.out _ (below_drews (Below.refl _ _) _)).mono fun _ _ ⟨he, hm⟩ => ⟨he, _, hm.symm⟩)
              have hgd : Below wr.heap.size wr (wr.drewN nq) := below_drews (Below.refl _ _) _
              go_wp2_with fail
              refine (HWHO.out _ hgd HIN.out).mono ?_
              rintro e' w2 ⟨rfl, hb2⟩
              have HB2 := Lib.hid (hgd.trans (hb2.mono hgd.size))
              have HO2 := Lib.hid (own_keep HOWN.out HB2.out)
              have HBE2 := Lib.hid (HBEL.out.trans (HB2.out.mono HBEL.out.size))
              have hsz2 := HBE2.out.size
              have hsl := starts_len l line e k
              clear hgd hb2 HB2 HOWN HBEL
              by_cases hwl : backN line e (k + 1) ∈ turned l
              · have hd : decide (backN line e (k + 1) ∈ turned l) = true := decide_eq_true hwl
                have HSTT := Lib.hid (HSH.out hwl)
                rw [hd]
                clear hd hwl
                go_wp2_with (at_builtin; refine app_is rfl _ _ rfl w'.heap.size _ _ (startsTo l line e k) (j : Int) rfl (HO2.out.alloc _) ⟨w2.heap.size, 0, none⟩ rfl (cell_new_at _ _ rfl) (by omega) (by simp; omega) ?_; intro v3 w3 hown3 hg3; have HO3 := Lib.hid hown3; have HG3 := Lib.hid hg3; clear hown3 hg3)
                go_roundw
                case rel =>
                  refine ⟨k + 1, j, HKF.out, hkf2, by rw [HZZ.out], rfl, by rw [HSTT.out, List.length_append]; exact HO3.out, ?_⟩
                  exact (HBE2.out.alloc hsz2 _).grown HG3.out (by simp; omega) (fun q hq => by have := own_ge HO2.out hq; omega)
                case measure => simp [intOf]
              · have hd : decide (backN line e (k + 1) ∈ turned l) = false := decide_eq_false hwl
                have HSTT := Lib.hid (HSS.out hwl)
                rw [hd]
                clear hd hwl
                go_wp2
                go_roundw
                case rel => exact ⟨k + 1, j, HKF.out, hkf2, by rw [HZZ.out], rfl, by rw [HSTT.out]; exact HO2.out, HBE2.out⟩
                case measure => simp [intOf]
            · have hz0 : place (paths (turned l)) (backN line e (k + 1)) < 0 := (place_neg _ _).2 hin
              have hkF : k = F := by
                have h3 : ¬ k < F := fun h => hin (HNX.out.2 h)
                omega
              subst hkF
              have HHIT := Lib.hid (fun X (hX : Below wr.heap.size wr X) => HTH.out d e X w'.heap.size A _ cA (HTK.out _ _ _ HID.out (HBEL.out.trans (hX.mono HBEL.out.size))) hel hdl (by rw [HSO.out]; exact own_keep HOWN.out hX))
              have HMVJ : Hid (moveOf l line e = farN l (place (paths (turned l)) (backN line e k)) c) := Lib.hid (by
                rw [HMVE.out, if_pos (by omega), HFN.out _ c HMK.out, show e - 1 - k = j by omega, HCC.out])
              have hmv1 : farN l (place (paths (turned l)) (backN line e k)) c ≤ 1000 := by
                rw [HFN.out _ c HMK.out]
                exact Nat.le_trans (far_le _ _ _ _) (Nat.le_trans (HSB.out _) hmle)
              have hmv0 : 0 < farN l (place (paths (turned l)) (backN line e k)) c := by rw [← HMVJ.out]; exact HPOS.out e
              have HFAR := Lib.hid (fun X (hX : Below w0.heap.size w0 X) => sfar_any X ps l (HS.out.keep hX) (place (paths (turned l)) (backN line e k)) (by rcases HPW.out (backN line e k) with h | h; exact h; have := (place_nonneg _ _).2 HMK.out; omega) c)
              generalize hmm : farN l (place (paths (turned l)) (backN line e k)) c = mv at *
              clear hmm
              obtain ⟨E, hE⟩ : ∃ E, E = e + mv := ⟨_, rfl⟩
              have hwE : IntKind.i64.wrap ((e : Int) + (mv : Int)) = (E : Int) := by rw [IntWalk.i64_in _ (by omega)]; omega
              have HE := Lib.hid hE
              have HWN : Hid (windows l line (line.length + 1) m = (d ++ [e]) ++ windows l line (f - 1) E) := Lib.hid (by rw [HWI.out, windows_go hel hef, HMVJ.out, hE]; simp)
              clear hE
              have hfr3 : (0 : Int) < ((j + 1 : Nat) : Int) := by omega
              generalize place (paths (turned l)) (backN line e (k + 1)) = z at *
              generalize place (paths (turned l)) (backN line e k) = z0 at *
              go_wp2
              go_quiet (exact (HSTEP.out _ (below_drews (Below.refl _ _) _)).mono fun _ _ ⟨he, hm⟩ => ⟨he, _, hm.symm⟩)
              have hgd : Below wr.heap.size wr (wr.drewN nq) := below_drews (Below.refl _ _) _
              go_wp2_with fail
              refine (HHIT.out _ hgd).mono ?_
              rintro e' w2 ⟨rfl, hid2⟩
              have HID2 := Lib.hid hid2
              have HB2 := Lib.hid (HI.out _ _ hid2)
              clear hid2 hgd d0 d1 hr
              go_wp2
              refine wp_region_held_drew (S := fun w' => Below w2.drew.heap.size w2.drew w') (by kernel_rfl) (Below.refl _ _) (fun hH0 => ?_)
              have B0 := Lib.hid (below_drews HB2.out 1)
              change Hid (Below _ _ w2.drew) at B0
              have HID3 : Hid (I (d ++ [e]) w2.drew) := Lib.hid (HTK.out _ _ _ HID2.out (below_drews (Below.refl _ _) 1))
              clear HID2 HB2
              generalize w2.drew = x0 at *
              refine held_take (i := 0) (d := 69) (oi := _) (v := ?_) rfl rfl (by kernel_rfl) (by kernel_rfl) (by kernel_rfl) (fun _ _ _ h => h) (Or.inl ⟨by rfl, ?_⟩) (by assumption) ?_
              rotate_left
              · (intro w hSw; clear hSw; go_simp; (try with_reducible rfl))
              simp only [Act.put, List.setIfInBounds_toArray, List.set_cons_zero, List.set_cons_succ]
              refine held_take (i := 1) (d := 70) (oi := _) (v := ?_) rfl rfl (by kernel_rfl) (by kernel_rfl) (by kernel_rfl) (fun _ _ _ h => h) (Or.inl ⟨by rfl, ?_⟩) (by assumption) ?_
              rotate_left
              · (intro w hSw; clear hSw; go_simp; (try with_reducible rfl))
              simp only [Act.put, List.setIfInBounds_toArray, List.set_cons_zero, List.set_cons_succ]
              refine held_take (i := 2) (d := 71) (oi := _) (v := ?_) rfl rfl (by kernel_rfl) (by kernel_rfl) (by kernel_rfl) (fun _ _ _ h => h) (Or.inl ⟨by rfl, ?_⟩) (by assumption) ?_
              rotate_left
              · (intro w hSw; clear hSw; go_simp; (try with_reducible rfl))
              simp only [Act.put, List.setIfInBounds_toArray, List.set_cons_zero, List.set_cons_succ]
              refine held_take (i := 3) (d := 72) (oi := _) (v := ?_) rfl rfl (by kernel_rfl) (by kernel_rfl) (by kernel_rfl) (fun _ _ _ h => h) (Or.inl ⟨by rfl, ?_⟩) (by assumption) ?_
              rotate_left
              · (intro w hSw; clear hSw; go_simp; (try with_reducible rfl))
              simp only [Act.put, List.setIfInBounds_toArray, List.set_cons_zero, List.set_cons_succ]
              refine held_take (i := 4) (d := 73) (oi := _) (v := ?_) rfl rfl (by kernel_rfl) (by kernel_rfl) (by kernel_rfl) (fun _ _ _ h => h) (Or.inl ⟨by rfl, ?_⟩) (by assumption) ?_
              rotate_left
              · (intro w hSw; have hld := HC1.out w (B0.out.trans (hSw.mono B0.out.size)); clear hSw; go_simp; (try with_reducible rfl))
              simp only [Act.put, List.setIfInBounds_toArray, List.set_cons_zero, List.set_cons_succ]
              refine held_take (i := 5) (d := 74) (oi := _) (v := ?_) rfl rfl (by kernel_rfl) (by kernel_rfl) (by kernel_rfl) (fun _ _ _ h => h) (Or.inl ⟨by rfl, ?_⟩) (by assumption) ?_
              rotate_left
              · (intro w hSw; clear hSw; go_simp; (try with_reducible rfl))
              simp only [Act.put, List.setIfInBounds_toArray, List.set_cons_zero, List.set_cons_succ]
              refine held_take (i := 6) (d := 75) (oi := _) (v := ?_) rfl rfl (by kernel_rfl) (by kernel_rfl) (by kernel_rfl) (fun _ _ _ h => h) (Or.inl ⟨by rfl, ?_⟩) (by assumption) ?_
              rotate_left
              · (intro w hSw; clear hSw; go_simp; (try with_reducible rfl))
              simp only [Act.put, List.setIfInBounds_toArray, List.set_cons_zero, List.set_cons_succ]
              refine held_take (i := 7) (d := 76) (oi := _) (v := ?_) rfl rfl (by kernel_rfl) (by kernel_rfl) (by kernel_rfl) (fun _ _ _ h => h) (Or.inl ⟨by rfl, ?_⟩) (by assumption) ?_
              rotate_left
              · (intro w hSw; clear hSw; go_simp; (try with_reducible rfl))
              simp only [Act.put, List.setIfInBounds_toArray, List.set_cons_zero, List.set_cons_succ]
              refine held_take (i := 8) (d := 77) (oi := _) (v := ?_) rfl rfl (by kernel_rfl) (by kernel_rfl) (by kernel_rfl) (fun _ _ _ h => h) (Or.inl ⟨by rfl, ?_⟩) (by assumption) ?_
              rotate_left
              · (intro w hSw; clear hSw; go_simp; (try with_reducible rfl))
              simp only [Act.put, List.setIfInBounds_toArray, List.set_cons_zero, List.set_cons_succ]
              refine held_take (i := 9) (d := 78) (oi := _) (v := ?_) rfl rfl (by kernel_rfl) (by kernel_rfl) (by kernel_rfl) (fun _ _ _ h => h) (Or.inl ⟨by rfl, ?_⟩) (by assumption) ?_
              rotate_left
              · (intro w hSw; clear hSw; go_simp; (try with_reducible rfl))
              simp only [Act.put, List.setIfInBounds_toArray, List.set_cons_zero, List.set_cons_succ]
              refine held_take (i := 10) (d := 79) (oi := _) (v := ?_) rfl rfl (by kernel_rfl) (by kernel_rfl) (by kernel_rfl) (fun _ _ _ h => h) (Or.inl ⟨by rfl, ?_⟩) (by assumption) ?_
              rotate_left
              · (intro w hSw; have hld := HCL.out w (B0.out.trans (hSw.mono B0.out.size)); clear hSw; go_simp; (try with_reducible rfl))
              simp only [Act.put, List.setIfInBounds_toArray, List.set_cons_zero, List.set_cons_succ]
              refine wpAnyH_ready (rs := [11]) (by kernel_rfl) (by simp) ?_
              refine AllReadyH.cons rfl (fun K hK => ?_) AllReadyH.nil
              go_simp
              go_wp2_with (go_at_call 148; (with_reducible refine (HFAR.out _ B0.out).mono ?_); rintro e' x1 ⟨rfl, hb⟩)
              refine hK.out _ _ hb (fun _ => ?_)
              have HID4 := Lib.hid (HTK.out _ _ _ HID3.out hb)
              clear hK K hH0 hb B0 HID3
              refine held_take (i := 12) (d := 81) (oi := _) (v := ?_) rfl rfl (by kernel_rfl) (by kernel_rfl) (by kernel_rfl) (fun _ _ _ h => h) (Or.inl ⟨by rfl, ?_⟩) (by assumption) ?_
              rotate_left
              · (intro w hSw; clear hSw; go_simp; (try with_reducible rfl))
              simp only [Act.put, List.setIfInBounds_toArray, List.set_cons_zero, List.set_cons_succ]
              refine held_take (i := 13) (d := 6) (oi := _) (v := ?_) rfl rfl (by kernel_rfl) (by kernel_rfl) (by kernel_rfl) (fun _ _ _ h => h) (Or.inl ⟨by rfl, ?_⟩) (by assumption) ?_
              rotate_left
              · (intro w hSw; clear hSw; go_simp; (try with_reducible rfl))
              simp only [Act.put, List.setIfInBounds_toArray, List.set_cons_zero, List.set_cons_succ]
              refine wpAnyH_done (by kernel_rfl) ?_ _
              go_wp2
              go_step3
              have hE2 := HE.out
              exact ⟨rfl, jd_of (d ++ [e]) E (f - 1) (by omega) (by omega) (by omega) HWN.out HID4.out, by simp [intOf]; omega⟩
          · have hfr0 : fr = 0 := by omega
            have hkF : k = F := by omega
            subst hfr0 hkF
            have HMK := Lib.hid (HMEM.out k hk)
            have HHIT := Lib.hid (HTH.out d e wr w'.heap.size A _ cA (HTK.out _ _ _ HID.out HBEL.out) hel hdl (by rw [HSO.out]; exact HOWN.out))
            have HMVJ : Hid (moveOf l line e = sndN l (place (paths (turned l)) (backN line e k))) := Lib.hid (by
              rw [HMVE.out, if_neg (by omega), HSN.out _ HMK.out])
            have hmv1 : sndN l (place (paths (turned l)) (backN line e k)) ≤ 1000 := by
              rw [HSN.out _ HMK.out]
              exact Nat.le_trans (HSB.out _) hmle
            have hmv0 : 0 < sndN l (place (paths (turned l)) (backN line e k)) := by rw [← HMVJ.out]; exact HPOS.out e
            have HSEC := Lib.hid (fun X (hX : Below w0.heap.size w0 X) => ssecond_any X ps l (HS.out.keep hX) (place (paths (turned l)) (backN line e k)) (by rcases HPW.out (backN line e k) with h | h; exact h; have := (place_nonneg _ _).2 HMK.out; omega))
            generalize hmm : sndN l (place (paths (turned l)) (backN line e k)) = mv at *
            clear hmm
            obtain ⟨E, hE⟩ : ∃ E, E = e + mv := ⟨_, rfl⟩
            have hwE : IntKind.i64.wrap ((e : Int) + (mv : Int)) = (E : Int) := by rw [IntWalk.i64_in _ (by omega)]; omega
            have HE := Lib.hid hE
            have HWN : Hid (windows l line (line.length + 1) m = (d ++ [e]) ++ windows l line (f - 1) E) := Lib.hid (by rw [HWI.out, windows_go hel hef, HMVJ.out, hE]; simp)
            clear hE
            generalize place (paths (turned l)) (backN line e k) = z0 at *
            go_wp2_with fail
            refine HHIT.out.mono ?_
            rintro e' w2 ⟨rfl, hid2⟩
            have HID2 := Lib.hid hid2
            have HB2 := Lib.hid (HI.out _ _ hid2)
            have c1 := HC1.out _ HB2.out
            clear hid2
            go_wp2_with (go_at_call 149; (with_reducible refine (HSEC.out _ HB2.out).mono ?_); rintro e' x1 ⟨rfl, hb⟩; have HID4 := Lib.hid (HTK.out _ _ _ HID2.out hb); clear hb)
            go_step3
            have hE2 := HE.out
            exact ⟨rfl, jd_of (d ++ [e]) E (f - 1) (by omega) (by omega) (by omega) HWN.out HID4.out, by simp [intOf]; omega⟩
      · have hng : (line.length : Int) < (e : Int) := by omega
        have HWE : Hid (windsN l line = d) := Lib.hid (by rw [HW0.out, HWI.out, windows_end (by omega), List.append_nil])
        go_wp2
        simp only [Exit.jump]
        refine bodyPost_ret (v := .tuple #[]) (by simp [results, Tryz.results146, go_sem]) rfl ?_
        exact ⟨rfl, by rw [HWE.out]; exact HID.out⟩
theorem walk_any (w0 w : World) (p : Option Addr) (l : List Tx) (h : Cw w0 p l) (line : Tx) (al : Option Addr) (cl : Nat) (hb : Ln w0 al line cl) (hl : line.length ≤ 1000) (fn : FuncId) (caps : Array Value) (I : List Nat → World → Prop)
    (hT : Tell l line fn caps I) (hI : ∀ d W, I d W → Below w0.heap.size w0 W) (hw : I [] w) :
    Calls Tryz.prog 146 #[.pointer p, .slice al line.length cl, .func (.func fn) #[] caps] w fun e w' => e = .returned (.tuple #[]) ∧ I (windsN l line) w' := by
  cases p with
  | none =>
    refine (walk_none w al _ cl fn caps).mono ?_
    rintro e w' ⟨rfl, rfl⟩
    exact ⟨rfl, by rw [windsN, if_pos (h.1 rfl)]; exact hw⟩
  | some a =>
    obtain ⟨b, x, ps, rfl, h1, ⟨s, h2⟩, h3⟩ := h.2 a rfl
    exact walk_some w0 w b x l line al cl _ ps fn caps I h1 rfl h2 h3 hb hl hT hI hw
end Go.Proofs.YtcbhjhhajeeimaaGreat.Wal
/- What is told of windows, gathered: Scan, Ends. -/
namespace Go.Proofs.YtcbhjhhajeeimaaGreat.Wal
open Go.Proofs.YtcbhjhhajeeimaaGreat.Tri Go.Proofs.YtcbhjhhajeeimaaGreat.Lnk Go.Proofs.YtcbhjhhajeeimaaGreat.Prs Go.Proofs.YtcbhjhhajeeimaaGreat.Spa Go.Proofs.YtcbhjhhajeeimaaGreat.Cwl Go.Proofs.YtcbhjhhajeeimaaGreat.Bck Go.Proofs.YtcbhjhhajeeimaaGreat.Shf Go.Proofs.YtcbhjhhajeeimaaGreat.Reg Go.RowKit Go.Maps
set_option maxRecDepth 100000
set_option linter.unusedVariables false

theorem cell_one {w : World} {b : Nat} {v : Value} {t : TypeId} (h : w.heap[b]? = some (.cells #[v] t (0, 0))) : w.cell? ⟨b, 0, none⟩ = some v ∧ w.frozen? ⟨b, 0, none⟩ = false := by
  refine ⟨by rw [cell_of_row w b 0 _ t (0, 0) h]; rfl, ?_⟩
  simp [World.frozen?, h]
/-- Numbers gathered in a variable of the call's own. -/
def Iv (w : World) (g : Nat) (L : List Int) (X : World) : Prop := ∃ v, X.heap[g]? = some (.cells #[v] 111 (0, 0)) ∧ X.ownsRow (g + 1) 3 1 v L.length (ivals L) ∧ w.heap.size ≤ g ∧ Below w.heap.size w X
theorem Iv.keep {w X X' : World} {g : Nat} {L : List Int} (h : Iv w g L X) (hb : Below X.heap.size X X') : Iv w g L X' := by
  obtain ⟨v, h1, h2, h3, h4⟩ := h
  exact ⟨v, (hb.block g (txt_lt h1)).trans h1, own_keep h2 hb, h3, h4.trans (hb.mono h4.size)⟩
/-- Pairs gathered in a variable of the call's own. -/
def Pv (w : World) (g : Nat) (L : List Pr) (X : World) : Prop := ∃ v, X.heap[g]? = some (.cells #[v] 44 (0, 0)) ∧ X.ownsRow (g + 1) 57 2 v L.length (cellsOf L) ∧ w.heap.size ≤ g ∧ Below w.heap.size w X
theorem Pv.keep {w X X' : World} {g : Nat} {L : List Pr} (h : Pv w g L X) (hb : Below X.heap.size X X') : Pv w g L X' := by
  obtain ⟨v, h1, h2, h3, h4⟩ := h
  exact ⟨v, (hb.block g (txt_lt h1)).trans h1, Prs.own_keep h2 hb, h3, h4.trans (hb.mono h4.size)⟩
theorem iv_new (w : World) : Iv w w.heap.size [] (w.alloc (.cells #[.slice none 0 0] 111)) := ⟨_, heap_alloc_new w _, World.ownsRow_nil _ _ _ _, Nat.le_refl _, (Below.refl _ _).alloc (Nat.le_refl _) _⟩
theorem pv_new (w : World) : Pv w w.heap.size [] (w.alloc (.cells #[.slice none 0 0] 44)) := ⟨_, heap_alloc_new w _, World.ownsRow_nil _ _ _ _, Nat.le_refl _, (Below.refl _ _).alloc (Nat.le_refl _) _⟩
def ints (l : List Nat) : List Int := l.map fun e : Nat => (e : Int)
theorem ints_snoc (l : List Nat) (e : Nat) : ints (l ++ [e]) = ints l ++ [(e : Int)] := by simp [ints]
/-- A number more, stored to the variable. -/
theorem iv_put {w X X2 : World} {g : Nat} {L M : List Int} {v v2 : Value} (h1 : X.heap[g]? = some (.cells #[v] 111 (0, 0))) (h2 : X.ownsRow (g + 1) 3 1 v L.length (ivals L)) (h3 : w.heap.size ≤ g) (h4 : Below w.heap.size w X)
    (o : Obj) (hown : X2.ownsRow (g + 1) 3 1 v2 M.length (ivals M)) (hg : (X.alloc o).grownBy X2 v.ownBlock) :
    X2.heap[g]? = some (.cells #[v] 111 (0, 0)) ∧ Iv w g M (X2.setCell ⟨g, 0, none⟩ v2) := by
  have hlt := txt_lt h1
  have hh : X2.heap[g]? = some (.cells #[v] 111 (0, 0)) := (hg.block g (by simp; omega) (own_far h2 g (Nat.lt_succ_self g))).trans ((Below.heap_alloc X o g hlt).trans h1)
  refine ⟨hh, v2, heap_set_same hh, ?_, h3, ?_⟩
  · exact own_far_block hown fun k hk => Below.heap_setCell X2 ⟨g, 0, none⟩ v2 k (by have := own_ge hown hk; simp; omega)
  · exact ((h4.alloc (by omega) o).grown hg (by simp; omega) (fun k hk => by have := own_ge h2 hk; omega)).setCell h3 _
theorem pv_put {w X X2 : World} {g : Nat} {L M : List Pr} {v v2 : Value} (h1 : X.heap[g]? = some (.cells #[v] 44 (0, 0))) (h2 : X.ownsRow (g + 1) 57 2 v L.length (cellsOf L)) (h3 : w.heap.size ≤ g) (h4 : Below w.heap.size w X)
    (o : Obj) (hown : X2.ownsRow (g + 1) 57 2 v2 M.length (cellsOf M)) (hg : (X.alloc o).grownBy X2 v.ownBlock) :
    X2.heap[g]? = some (.cells #[v] 44 (0, 0)) ∧ Pv w g M (X2.setCell ⟨g, 0, none⟩ v2) := by
  have hlt := txt_lt h1
  have hh : X2.heap[g]? = some (.cells #[v] 44 (0, 0)) := (hg.block g (by simp; omega) (own_far h2 g (Nat.lt_succ_self g))).trans ((Below.heap_alloc X o g hlt).trans h1)
  refine ⟨hh, v2, heap_set_same hh, ?_, h3, ?_⟩
  · exact own_far_block hown fun k hk => Below.heap_setCell X2 ⟨g, 0, none⟩ v2 k (by have := Prs.own_ge hown hk; simp; omega)
  · exact ((h4.alloc (by omega) o).grown hg (by simp; omega) (fun k hk => by have := Prs.own_ge h2 hk; omega)).setCell h3 _
set_option maxHeartbeats 1000000 in
theorem tell_scan (w X : World) (g : Nat) (L : List Pr) (h : Pv w g L X) (hL : L.length ≤ 100000000) (e : Nat) (he : e ≤ 100000) (S : List Int) (A : Option Addr) (n c s : Nat) (hn : n ≤ 100000) (hS : X.ownsRow s 3 1 (.slice A n c) n (ivals S)) :
    Calls Tryz.prog 147 #[.int .i64 (e : Int), .slice A n c, .pointer (some ⟨g, 0, none⟩)] X fun x W' => x = .returned (.tuple #[]) ∧ Pv w g (L ++ S.map fun s => ⟨s, (e : Int)⟩) W' := by
  have hSn : S.length = n := by have := hS.1; simpa [ivals] using this
  subst hSn
  have HW := Lib.hid h
  have HS := Lib.hid hS
  clear h hS
  go_enter Tryz.func147, Tryz.ntmps147
  go_wp2
  go_loopw [9] (fun i wr => ∃ j : Nat, j ≤ S.length ∧ i = .int .i64 (j : Int) ∧ Pv w g (L ++ (S.take j).map fun s => ⟨s, (e : Int)⟩) wr ∧ wr.ownsRow s 3 1 (.slice A S.length c) S.length (ivals S)) (fun i _ => S.length - (intOf i).toNat)
  case atStart => exact ⟨0, by omega, rfl, by simpa using HW.out, HS.out⟩
  case round =>
    obtain ⟨j, hj, rfl, hp, hs⟩ := hrel
    by_cases hlt : j < S.length
    · have hlt2 : (j : Int) < (S.length : Int) := by omega
      obtain ⟨b6, off6, e6, hcell⟩ := is_cell hs j hlt
      obtain ⟨v, h1, h2, h3, h4⟩ := hp
      obtain ⟨d1, d2⟩ := cell_one h1
      have hsz := txt_lt h1
      have HN : Hid ((S.take (j + 1)).map (fun s => (⟨s, (e : Int)⟩ : Pr)) = (S.take j).map (fun s => ⟨s, (e : Int)⟩) ++ [⟨S[j], (e : Int)⟩]) := Lib.hid (by rw [List.take_succ_eq_append_getElem hlt, List.map_append]; rfl)
      have hml : ((S.take j).map (fun s => (⟨s, (e : Int)⟩ : Pr))).length ≤ 100000 := by rw [List.length_map, List.length_take]; omega
      generalize (S.take j).map (fun s => (⟨s, (e : Int)⟩ : Pr)) = R at *
      have HO := Lib.hid h2
      have HI := Lib.hid hs
      have HP : Hid (∀ (o : Obj) (X2 : World) (v2 : Value) (M : List Pr), X2.ownsRow (g + 1) 57 2 v2 M.length (cellsOf M) → (wr.alloc o).grownBy X2 v.ownBlock → X2.heap[g]? = some (.cells #[v] 44 (0, 0)) ∧ Pv w g M (X2.setCell ⟨g, 0, none⟩ v2)) := Lib.hid fun o X2 v2 M a b => pv_put h1 h2 h3 h4 o a b
      have HFAR : Hid (∀ (o : Obj) (X2 : World) (v2 : Value), (wr.alloc o).grownBy X2 v.ownBlock → X2.heap[g]? = some (.cells #[v] 44 (0, 0)) → (X2.setCell ⟨g, 0, none⟩ v2).ownsRow s 3 1 (.slice A S.length c) S.length (ivals S)) := Lib.hid fun o X2 v2 hg hh => by
        have h5 := is_far (hs.alloc o) (h2.alloc o) hg
        refine own_far_block h5 fun k hk => Below.heap_setCell X2 ⟨g, 0, none⟩ v2 k fun e => ?_
        obtain ⟨_, _, cs, hc⟩ := own_block_lt h5 hk
        rw [e] at hc
        rw [hh] at hc
        simp at hc
      clear h1 h2 h3 h4 hs
      subst e6
      generalize S[j] = x at *
      go_wp2_with (at_builtin; refine app_ps rfl _ _ rfl (g + 1) v (L ++ R).length (L ++ R) rfl (HO.out.alloc _) (some ⟨wr.heap.size, 0, none⟩) [⟨x, (e : Int)⟩] 1 (wr.heap.size + 1) rfl (by have := ps_one wr ⟨x, (e : Int)⟩ (0, 0); rwa [World.size_alloc] at this) (fun e => by cases e) (by simp only [List.length_append, List.length_cons, List.length_nil]; omega) (by simp; omega) ?_; intro v7 w7 hown7 hg7; rw [List.length_singleton] at hown7; obtain ⟨g7, cap7, rfl⟩ := Tri.own_succ hown7; have hp7 := HP.out _ w7 (.slice (some ⟨g7, 0, none⟩) ((L ++ R).length + 1) cap7) ((L ++ R) ++ [⟨x, (e : Int)⟩]) (by rw [List.length_append (bs := [_])]; exact hown7) hg7; have HF7 := Lib.hid (HFAR.out _ w7 (.slice (some ⟨g7, 0, none⟩) ((L ++ R).length + 1) cap7) hg7 hp7.1); obtain ⟨c40, f40⟩ := cell_one hp7.1; have HF := Lib.hid hp7.2; clear hp7 hown7 hg7)
      go_roundw
      case rel => exact ⟨j + 1, by omega, by go_num, by rw [HN.out, ← List.append_assoc, ← List.length_append]; exact HF.out, by rw [← List.length_append]; exact HF7.out⟩
      case measure => simp [intOf]; omega
    · have hje : j = S.length := by omega
      have hlt2 : ¬ (j : Int) < (S.length : Int) := by omega
      have HP : Hid (Pv w g (L ++ S.map fun s => ⟨s, (e : Int)⟩) wr) := Lib.hid (by rw [hje, List.take_length] at hp; exact hp)
      clear hje hp hs
      go_wp2
      go_end0
      exact ⟨rfl, HP.out⟩
theorem call_scan (args : Array Value) (w : World) : (callFunc 147 args).run Tryz.prog w = .ok (.enter 147 args) w := by simp [go_sem]
theorem flat_snoc {α : Type} (f : Nat → List α) (d : List Nat) (e : Nat) : (d ++ [e]).flatMap f = d.flatMap f ++ f e := by simp
theorem tells_scan (w : World) (g : Nat) (l : List Tx) (line : Tx) (hl : line.length ≤ 1000) : Tell l line 147 #[.pointer (some ⟨g, 0, none⟩)] fun d X => Pv w g (d.flatMap (pairsAt l line)) X ∧ ∀ e ∈ d, e ≤ line.length :=
  ⟨call_scan, fun d W W' h hb => ⟨h.1.keep hb, h.2⟩, fun d e W s A n c h he hd hs => by
    have h2 := flat_len (pairsAt l line) 1000 d fun x hx => pairs_len (h.2 x hx) hl
    have h3 : (startsOf l line e).length ≤ 1000 := by have := pairs_len (l := l) he hl; rwa [pairsAt, List.length_map] at this
    have h4 : (startsOf l line e).length = n := by have := hs.1; simpa [ivals] using this
    have := tell_scan w W g _ h.1 (by omega) e (by omega) (startsOf l line e) A n c s (by omega) hs
    refine this.mono ?_
    rintro x W' ⟨rfl, h5⟩
    refine ⟨rfl, by rw [flat_snoc]; exact h5, fun y hy => ?_⟩
    rcases List.mem_append.1 hy with hy | hy
    · exact h.2 y hy
    · rw [List.mem_singleton.1 hy]; exact he⟩
def GivesPrs (w : World) (l : List Pr) (e : Ending) (w' : World) : Prop := ∃ A c, e = .returned (.slice A l.length c) ∧ Ps w' w'.heap.size A l ∧ Below w.heap.size w w'
def GivesIs (w : World) (l : List Int) (e : Ending) (w' : World) : Prop := ∃ A c, e = .returned (.slice A l.length c) ∧ Is w' w'.heap.size A l ∧ Below w.heap.size w w'
theorem winds_few {l : List Tx} (h : turned l ≠ []) (line : Tx) : ∀ f e, (windows l line f e).length ≤ line.length + 1 - e
  | 0, e => Nat.zero_le _
  | f + 1, e => by
    rw [windows]
    split
    · have h1 := winds_few h line f (e + moveOf l line e)
      have h2 := move_pos h line e
      rw [List.length_cons]; omega
    · exact Nat.zero_le _
theorem winds_n_len (l : List Tx) (line : Tx) : (windsN l line).length ≤ line.length := by
  unfold windsN
  split
  · simp
  · rename_i h
    have h1 := winds_few h line (line.length + 1) (Cwl.leastOf (turned l))
    have h2 := least_pos (fun x h => turned_ne h) h
    omega
/-- Pieces, with room. -/
def GivesPrsC (w : World) (l : List Pr) (e : Ending) (w' : World) : Prop := ∃ A c, e = .returned (.slice A l.length c) ∧ Ps w' w'.heap.size A l ∧ Below w.heap.size w w' ∧ (A = none → c = 0) ∧ l.length ≤ c
theorem wscan_full (w : World) (p : Option Addr) (l : List Tx) (h : Cw w p l) (line : Tx) (al : Option Addr) (cl : Nat) (hb : Ln w al line cl) (hl : line.length ≤ 1000) :
    Calls Tryz.prog 145 #[.pointer p, .slice al line.length cl] w (GivesPrsC w (scanOf l line)) := by
  have hmf : ∀ (fn : Fn) (first cap : Array Value) (w : World), (Instr.makeFunc fn first cap).run Tryz.prog w = .ok (.func fn first cap) w := fun _ _ _ _ => rfl
  have HWK := Lib.hid (walk_any w _ p l h line al cl hb hl 147 _ _ (tells_scan w w.heap.size l line hl) (fun d W h => by obtain ⟨⟨_, _, _, _, h⟩, _⟩ := h; exact h) ⟨pv_new w, fun _ h => by cases h⟩)
  have HF := Lib.hid (found_winds l line)
  have hwn := winds_n_len l line
  clear h hb
  go_enter Tryz.func145, Tryz.ntmps145
  go_wp2_with (first
    | (go_at_call 146; (with_reducible refine HWK.out.mono ?_); rintro e w1 ⟨rfl, ⟨v, h1, h2, h3, h4⟩, h5⟩; obtain ⟨d1, _⟩ := cell_one h1; have hfl := flat_len (pairsAt l line) 1000 (windsN l line) (fun x hx => pairs_len (h5 x hx) hl); have HO := Lib.hid h2; have HB := Lib.hid h4; clear h1 h2 h3 h4 h5)
    | fail)
  obtain ⟨a8, c8, rfl, hc8, hn8, hp8⟩ := own_ps HO.out rfl
  have hwm := Nat.mul_le_mul_right 1000 hwn
  have HSO := Lib.hid (sort_all _ a8 c8 w1 (by omega) hp8 hc8 hn8)
  clear hp8 hn8
  go_wp2_with (go_at_call 40; (with_reducible refine HSO.out.mono ?_); rintro e w9 ⟨a9, c9, rfl, hc9, hn9, hp9, hb9⟩; have HB9 := Lib.hid hb9; have HP9 := Lib.hid hp9; clear hb9 hp9)
  go_ret
  refine ⟨a9, c9, by rw [← HF.out]; rfl, by rw [← HF.out]; exact HP9.out, HB.out.trans (HB9.out.mono HB.out.size), hn9, by rw [← HF.out]; exact hc9⟩
theorem wscan_in (w : World) (p : Option Addr) (l : List Tx) (h : Cw w p l) (line : Tx) (al : Option Addr) (cl : Nat) (hb : Ln w al line cl) (hl : line.length ≤ 1000) :
    Calls Tryz.prog 145 #[.pointer p, .slice al line.length cl] w (GivesPrs w (scanOf l line)) := by
  refine (wscan_full w p l h line al cl hb hl).mono ?_
  rintro e w' ⟨A, c, h1, h2, h3, _⟩
  exact ⟨A, c, h1, h2, h3⟩
end Go.Proofs.YtcbhjhhajeeimaaGreat.Wal
/- New, and what a Walter answers. -/
namespace Go.Proofs.YtcbhjhhajeeimaaGreat.Wal
open Go.Proofs.YtcbhjhhajeeimaaGreat.Tri Go.Proofs.YtcbhjhhajeeimaaGreat.Lnk Go.Proofs.YtcbhjhhajeeimaaGreat.Prs Go.Proofs.YtcbhjhhajeeimaaGreat.Spa Go.Proofs.YtcbhjhhajeeimaaGreat.Cwl Go.Proofs.YtcbhjhhajeeimaaGreat.Bck Go.Proofs.YtcbhjhhajeeimaaGreat.Shf Go.Proofs.YtcbhjhhajeeimaaGreat.Reg Go.RowKit Go.Maps
set_option maxRecDepth 100000
set_option linter.unusedVariables false

/-- Where the windows of a line end. -/
def windsOf (l : List Tx) (line : Tx) : List Int := if turned l = [] then [] else List.map (fun e : Nat => (e : Int)) (windows l line (line.length + 1) (Cwl.leastOf (turned l)))
theorem ints_winds (l : List Tx) (line : Tx) : ints (windsN l line) = windsOf l line := by
  unfold ints windsN windsOf
  split <;> simp
theorem wnew_any (w : World) (xs : List TxV) (a : Option Addr) (cap : Nat) (hts : Ts w a xs) (hl : xs.length ≤ 1000) (hx : ∀ x ∈ xs, x.text.length ≤ 1000) (hz : tot (xs.map TxV.text) ≤ 2000) :
    Calls Tryz.prog 37 #[.slice a xs.length cap] w (GivesCw w (xs.map TxV.text)) := by
  have HBD := Lib.hid (bbuild_any w xs a cap hts hl hx)
  clear hts hl hx
  generalize xs.map TxV.text = l at *
  go_enter Tryz.func37, Tryz.ntmps37
  go_wp2_with (go_at_call 57; (with_reducible refine HBD.out.mono ?_); rintro e w1 ⟨x, rfl, hbk, hb1⟩; have HBK := Lib.hid hbk; have HB1 := Lib.hid hb1; have HSB := Lib.hid (sbuild_any w1 x l hbk hz); clear hbk hb1)
  go_wp2_with (first
    | (go_at_call 58; (with_reducible refine HSB.out.mono ?_); rintro e w2 ⟨p, rfl, hsh, hb2⟩; have HSH := Lib.hid hsh; have HB2 := Lib.hid hb2; have HBK2 := Lib.hid (HBK.out.keep hb2); have HLE := Lib.hid (bleast_any w2 x l HBK2.out); clear hsh hb2)
    | (go_at_call 59; (with_reducible refine HLE.out.mono ?_); rintro e w3 ⟨rfl, hb3⟩; have HB3 := Lib.hid hb3; clear hb3))
  go_ret
  have hb12 := HB1.out.trans (HB2.out.mono HB1.out.size)
  have hb13 := hb12.trans (HB3.out.mono hb12.size)
  refine ⟨some ⟨w3.heap.size, 0, none⟩, rfl, ⟨(fun h => by cases h), fun a h => ?_⟩, hb13.alloc hb13.size _⟩
  obtain rfl := Option.some.inj h
  have hba : Below w3.heap.size w3 (w3.alloc (.cells #[.pointer (some ⟨x, 0, none⟩), .pointer p, .int .i64 (Cwl.leastOf (turned l) : Int)] 128)) := (Below.refl _ _).alloc (Nat.le_refl _) _
  exact ⟨_, x, p, rfl, heap_alloc_new w3 _, ⟨_, (HBK2.out.keep HB3.out).keep hba⟩, (HSH.out.keep HB3.out).keep hba⟩
theorem wscan_any (w : World) (p : Option Addr) (l : List Tx) (h : Cw w p l) (line : Tx) (al : Option Addr) (cl : Nat) (hb : Ln w al line cl) (hl : line.length ≤ 1000) :
    Calls Tryz.prog 145 #[.pointer p, .slice al line.length cl] w (GivesPrs w (scanOf l line)) := wscan_in w p l h line al cl hb hl
theorem scanOf_nil (line : Tx) : scanOf [] line = [] := by
  refine List.eq_nil_iff_forall_not_mem.2 fun r hr => ?_
  rw [← occ_scan] at hr
  obtain ⟨a, b, _, _, _, h, _⟩ := (mem_occ [] line r line.length (Nat.le_refl _)).1 hr
  cases h
theorem windsOf_nil (line : Tx) : windsOf [] line = [] := if_pos rfl
theorem scan_len (l : List Tx) (line : Tx) (hl : line.length ≤ 1000) : (scanOf l line).length ≤ 1000000 := by
  rw [← occ_scan]
  have h1 := occTo_len l line line.length
  have h2 := Nat.mul_le_mul hl hl
  omega
theorem windsOf_len (l : List Tx) (line : Tx) : (windsOf l line).length ≤ line.length + 1 := by
  unfold windsOf
  split
  · simp
  · rw [List.length_map]; exact winds_len _ _ _ _
end Go.Proofs.YtcbhjhhajeeimaaGreat.Wal
