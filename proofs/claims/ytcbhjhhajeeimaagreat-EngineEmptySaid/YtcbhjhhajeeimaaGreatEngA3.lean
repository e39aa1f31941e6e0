/- The engine: what scans, by ways. -/
import Derived.Test.YtcbhjhhajeeimaaGreatEngA2
namespace Go.Proofs.YtcbhjhhajeeimaaGreat.Eng
open Go.Proofs.YtcbhjhhajeeimaaGreat.Tri Go.Proofs.YtcbhjhhajeeimaaGreat.Lnk Go.Proofs.YtcbhjhhajeeimaaGreat.Prs Go.Proofs.YtcbhjhhajeeimaaGreat.Spa Go.Proofs.YtcbhjhhajeeimaaGreat.Reg Go.RowKit Go.Maps
set_option maxRecDepth 100000
set_option linter.unusedVariables false

/-- What scannerOf answers. -/
def GivesSr (w : World) (tag : Int) (l : List Tx) (e : Ending) (w' : World) : Prop := ∃ v, e = .returned (.tuple #[v, .int .i64 (wrongI tag l)]) ∧ (wrongI tag l = 0 → Sr w' tag (Pat.pats l) v) ∧ Below w.heap.size w w'
/-- The patterns, n of them, each with room. -/
def GivesPt (w : World) (n : Nat) (L : List Tx) (e : Ending) (w' : World) : Prop := ∃ a c xs, e = .returned (.slice a n c) ∧ xs.map TxV.text = L ∧ xs.length = n ∧ Ts w' a xs ∧ (∀ x ∈ xs, x.text.length ≤ x.cap) ∧ Below w.heap.size w w'
/-- What the walks of scannerOf share. -/
structure Shr (w : World) (tag : Int) (m : Option Nat) (a : Option Addr) (n c : Nat) (em : Bool) (L : List Tx) : Prop where
  pats : Calls Tryz.prog 23 #[.agg #[.map m, .slice a n c]] (w.alloc (.cells #[.map m, .slice a n c] 38)) (GivesPt (w.alloc (.cells #[.map m, .slice a n c] 38)) n L)
  empty : ∀ X, Below (w.heap.size + 1) (w.alloc (.cells #[.map m, .slice a n c] 38)) X → Calls Tryz.prog 24 #[.agg #[.map m, .slice a n c]] X fun e w' => e = .returned (.bool em) ∧ Below X.heap.size X w'
  is : ∀ X, Calls Tryz.prog 15 #[.int .i64 tag] X fun e w' => e = .returned (.bool (decide (0 ≤ tag ∧ tag ≤ 3))) ∧ Below X.heap.size X w'
  below : Below w.heap.size w (w.alloc (.cells #[.map m, .slice a n c] 38))
  len : L.length = n
  few : n ≤ 100
  small : tot L ≤ 2000
  each : ∀ x ∈ L, x.length ≤ 100 ∧ x ≠ []
theorem shr_any (w : World) (tag : Int) (ht : (Lit.int .i64 tag).wf = true) (m : Option Nat) (a : Option Addr) (c : Nat) (l : List Tx) (hs : Pat.IsSet w m a l) (hl : l.length ≤ 100) (hx : ∀ x ∈ l, x.length ≤ 100) (hz : tot l ≤ 2000) :
    Shr w tag m a (Pat.pats l).length c (decide (([] : Tx) ∈ l)) (Pat.pats l) := by
  have hb : Below w.heap.size w (w.alloc (.cells #[.map m, .slice a (Pat.pats l).length c] 38)) := (Below.refl _ _).alloc (Nat.le_refl _) _
  have hs1 := hs.keep hb
  have hpl := Pat.pats_len l
  have hpt := tot_pats l
  have hpx : ∀ x ∈ Pat.pats l, x.length ≤ 100 ∧ x ≠ [] := fun x h => ⟨hx x ((Pat.mem_pats l x).1 h).1, ((Pat.mem_pats l x).1 h).2⟩
  refine ⟨?_, fun X hX => Pat.empty_any m a _ c l X (hs1.keep (by rw [World.size_alloc]; exact hX)), fun X => eis_any X tag ht, hb, rfl, by omega, by omega, hpx⟩
  refine (Pat.patterns_full (.map m) a c (Pat.pats l) _ hs1.2 (by omega) (fun x h => Nat.le_trans (hpx x h).1 (by omega))).mono ?_
  rintro e w' ⟨a1, c1, xs, rfl, hxs, hts, hxc, hb1⟩
  exact ⟨a1, c1, xs, rfl, hxs, by rw [← hxs, List.length_map], hts, hxc, hb1⟩
theorem cells38 (w : World) (m : Option Nat) (a : Option Addr) (n c : Nat) : (w.alloc (.cells #[.map m, .slice a n c] 38)).cell? ⟨w.heap.size, 0, none⟩ = some (.map m) ∧ (w.alloc (.cells #[.map m, .slice a n c] 38)).cell? ⟨w.heap.size, 1, none⟩ = some (.slice a n c) := (Pat.Blk2.new w 38 (.map m) (.slice a n c)).cells
/-- No way. -/
theorem scanner_out (w : World) (tag : Int) (m : Option Nat) (a : Option Addr) (n c : Nat) (em : Bool) (L : List Tx) (h : Shr w tag m a n c em L) (h1 : ¬ (0 ≤ tag ∧ tag ≤ 3)) :
    Calls Tryz.prog 27 #[.int .i64 tag, .agg #[.map m, .slice a n c]] w fun e w' => (∃ v, e = .returned (.tuple #[v, .int .i64 11])) ∧ Below w.heap.size w w' := by
  obtain ⟨c0, c1⟩ := cells38 w m a n c
  have HI := Lib.hid h.is
  rw [decide_eq_false h1] at HI
  have H := Lib.hid h
  clear h h1
  go_enter Tryz.func27, Tryz.ntmps27
  go_wp2_with (first
    | (go_at_call 23; (with_reducible refine H.out.pats.mono ?_); rintro e w1 ⟨a1, k1, xs, rfl, hxs, hxn, hts, hxc, hb1⟩; have HB1 := Lib.hid (H.out.below.trans (hb1.mono H.out.below.size)); clear hb1 hxs hxn hts hxc)
    | (go_at_call 15; (with_reducible refine (HI.out w1).mono ?_); rintro e w2 ⟨rfl, hb2⟩; have HB2 := Lib.hid (HB1.out.trans (hb2.mono HB1.out.size)); clear hb2))
  refine bodyPost_ret (v := .tuple #[.nilIface, .int .i64 11]) (by simp [results, Tryz.results27, go_sem]) rfl ?_
  exact ⟨⟨_, rfl⟩, HB2.out⟩
/-- Two ways, of none or many patterns. -/
theorem scanner_many (w : World) (m : Option Nat) (a : Option Addr) (n c : Nat) (em : Bool) (L : List Tx) (h : Shr w 2 m a n c em L) (h1 : n ≠ 1) :
    Calls Tryz.prog 27 #[.int .i64 2, .agg #[.map m, .slice a n c]] w fun e w' => (∃ v, e = .returned (.tuple #[v, .int .i64 13])) ∧ Below w.heap.size w w' := by
  obtain ⟨c0, c1⟩ := cells38 w m a n c
  have HI := Lib.hid h.is
  rw [show decide ((0 : Int) ≤ 2 ∧ (2 : Int) ≤ 3) = true from rfl] at HI
  have hn2 : ((n : Int) != 1) = true := by rw [bne_iff_ne]; omega
  have H := Lib.hid h
  clear h h1
  go_enter Tryz.func27, Tryz.ntmps27
  go_wp2_with (first
    | (go_at_call 23; (with_reducible refine H.out.pats.mono ?_); rintro e w1 ⟨a1, k1, xs, rfl, hxs, hxn, hts, hxc, hb1⟩; have HB1 := Lib.hid (H.out.below.trans (hb1.mono H.out.below.size)); clear hb1 hxs hxn hts hxc)
    | (go_at_call 15; (with_reducible refine (HI.out w1).mono ?_); rintro e w2 ⟨rfl, hb2⟩; have HB2 := Lib.hid (HB1.out.trans (hb2.mono HB1.out.size)); clear hb2))
  refine bodyPost_ret (v := .tuple #[.nilIface, .int .i64 13]) (by simp [results, Tryz.results27, go_sem]) rfl ?_
  exact ⟨⟨_, rfl⟩, HB2.out⟩
/-- Two ways, with the empty pattern. -/
theorem scanner_empty (w : World) (m : Option Nat) (a : Option Addr) (c : Nat) (L : List Tx) (h : Shr w 2 m a 1 c true L) :
    Calls Tryz.prog 27 #[.int .i64 2, .agg #[.map m, .slice a 1 c]] w fun e w' => (∃ v, e = .returned (.tuple #[v, .int .i64 13])) ∧ Below w.heap.size w w' := by
  obtain ⟨c0, c1⟩ := cells38 w m a 1 c
  have HI := Lib.hid h.is
  rw [show decide ((0 : Int) ≤ 2 ∧ (2 : Int) ≤ 3) = true from rfl] at HI
  have H := Lib.hid h
  clear h
  go_enter Tryz.func27, Tryz.ntmps27
  go_wp2_with (first
    | (go_at_call 23; (with_reducible refine H.out.pats.mono ?_); rintro e w1 ⟨a1, k1, xs, rfl, hxs, hxn, hts, hxc, hb1⟩; have HC1 := Lib.hid hb1; have HB1 := Lib.hid (H.out.below.trans (hb1.mono H.out.below.size));  clear hb1 hxs hxn hts hxc)
    | (go_at_call 15; (with_reducible refine (HI.out w1).mono ?_); rintro e w2 ⟨rfl, hb2⟩; have HB2 := Lib.hid (HB1.out.trans (hb2.mono HB1.out.size)); have HC2 := Lib.hid (HC1.out.trans (hb2.mono HC1.out.size)); obtain ⟨d0, d1⟩ := ((Pat.Blk2.new w 38 (.map m) (.slice a 1 c)).keep HC2.out (by simp)).cells;  clear hb2)
    | (go_at_call 24; (with_reducible refine (H.out.empty w2 (by have := HC2.out; rwa [World.size_alloc] at this)).mono ?_); rintro e w3 ⟨rfl, hb3⟩; have HB3 := Lib.hid (HB2.out.trans (hb3.mono HB2.out.size));  clear hb3))
  refine bodyPost_ret (v := .tuple #[.nilIface, .int .i64 13]) (by simp [results, Tryz.results27, go_sem]) rfl ?_
  exact ⟨⟨_, rfl⟩, HB3.out⟩
/-- One pattern, by two ways. -/
theorem scanner_two (w : World) (m : Option Nat) (a : Option Addr) (c : Nat) (L : List Tx) (h : Shr w 2 m a 1 c false L) :
    Calls Tryz.prog 27 #[.int .i64 2, .agg #[.map m, .slice a 1 c]] w fun e w' => (∃ v, e = .returned (.tuple #[v, .int .i64 0]) ∧ Sr w' 2 L v) ∧ Below w.heap.size w w' := by
  obtain ⟨c0, c1⟩ := cells38 w m a 1 c
  have HI := Lib.hid h.is
  rw [show decide ((0 : Int) ≤ 2 ∧ (2 : Int) ≤ 3) = true from rfl] at HI
  obtain ⟨x, rfl⟩ := List.length_eq_one_iff.1 h.len
  have hx := h.each x (by simp)
  have H := Lib.hid h
  have HX := Lib.hid hx
  clear h hx
  go_enter Tryz.func27, Tryz.ntmps27
  go_wp2_with (first
    | (go_at_call 23; (with_reducible refine H.out.pats.mono ?_); rintro e w1 ⟨a1, k1, xs, rfl, hxs, hxn, hts, hxc, hb1⟩; have HC1 := Lib.hid hb1; have HB1 := Lib.hid (H.out.below.trans (hb1.mono H.out.below.size)); obtain ⟨y, rfl, rfl⟩ := List.map_eq_singleton_iff.1 hxs; obtain ⟨b, o, rfl, hlt, hcell⟩ := hts.1 (by simp); have hcl := hcell 0 (by simp); have hbs := hts.2 y (by simp); have hyc := hxc y (by simp); have HLT := Lib.hid hlt; have HBS := Lib.hid hbs; have HYC := Lib.hid hyc; clear hcell hlt hbs hyc; clear hb1 hxs hxn hts hxc)
    | (go_at_call 15; (with_reducible refine (HI.out w1).mono ?_); rintro e w2 ⟨rfl, hb2⟩; have HB2 := Lib.hid (HB1.out.trans (hb2.mono HB1.out.size)); have hb2' := Lib.hid hb2; have HC2 := Lib.hid (HC1.out.trans (hb2.mono HC1.out.size)); obtain ⟨d0, d1⟩ := ((Pat.Blk2.new w 38 (.map m) (.slice a 1 c)).keep HC2.out (by simp)).cells;  clear hb2)
    | (go_at_call 24; (with_reducible refine (H.out.empty w2 (by have := HC2.out; rwa [World.size_alloc] at this)).mono ?_); rintro e w3 ⟨rfl, hb3⟩; have HB3 := Lib.hid (HB2.out.trans (hb3.mono HB2.out.size)); have HB23 := Lib.hid (hb2'.out.trans (hb3.mono hb2'.out.size)); have hcl3 := ((hb2'.out.trans (hb3.mono hb2'.out.size)).cell (p := ⟨b, o, none⟩) HLT.out).trans hcl; clear hcl; clear hb3)
    | fail)
  refine (Two.new_some w3 y.text y.a y.cap ⟨(HBS.out.keep HB23.out).more HB23.out.size, HYC.out, y.nil0⟩ HX.out.2 (by have := HX.out.1; omega)).mono ?_
  rintro e w4 ⟨t, rfl, hT, hb4⟩
  have HT := Lib.hid hT
  have HB4 := Lib.hid (HB3.out.trans (hb4.mono HB3.out.size))
  clear hT hb4
  go_wp2
  refine bodyPost_ret (v := .tuple #[.iface 90 (.agg #[.iface 84 (.pointer (some ⟨t, 0, none⟩))]), .int .i64 0]) (by simp [results, Tryz.results27, go_sem]) rfl ?_
  exact ⟨⟨_, rfl, .inr (.inr (.inr (.inl ⟨rfl, _, t, y.text, rfl, rfl, HX.out.2, by have := HX.out.1; omega, HT.out⟩)))⟩, HB4.out⟩
/-- Without patterns. -/
theorem scanner_idle (w : World) (tag : Int) (m : Option Nat) (a : Option Addr) (c : Nat) (em : Bool) (h : Shr w tag m a 0 c em []) (h1 : 0 ≤ tag ∧ tag ≤ 3) (h2 : tag ≠ 2) :
    Calls Tryz.prog 27 #[.int .i64 tag, .agg #[.map m, .slice a 0 c]] w fun e w' => (∃ v, e = .returned (.tuple #[v, .int .i64 0]) ∧ Sr w' tag [] v) ∧ Below w.heap.size w w' := by
  obtain ⟨c0, c1⟩ := cells38 w m a 0 c
  have HI := Lib.hid h.is
  rw [decide_eq_true h1] at HI
  have h2' : (tag == 2) = false := by rw [beq_eq_false_iff_ne]; exact h2
  have H := Lib.hid h
  have H2 := Lib.hid h2
  clear h h1 h2
  go_enter Tryz.func27, Tryz.ntmps27
  go_wp2_with (first
    | (go_at_call 23; (with_reducible refine H.out.pats.mono ?_); rintro e w1 ⟨a1, k1, xs, rfl, hxs, hxn, hts, hxc, hb1⟩; have HC1 := Lib.hid hb1; have HB1 := Lib.hid (H.out.below.trans (hb1.mono H.out.below.size));  clear hb1 hxs hxn hts hxc)
    | (go_at_call 15; (with_reducible refine (HI.out w1).mono ?_); rintro e w2 ⟨rfl, hb2⟩; have HB2 := Lib.hid (HB1.out.trans (hb2.mono HB1.out.size));  clear hb2))
  refine bodyPost_ret (v := .tuple #[.iface 78 (.agg #[]), .int .i64 0]) (by simp [results, Tryz.results27, go_sem]) rfl ?_
  exact ⟨⟨_, rfl, .inl ⟨rfl, H2.out, rfl⟩⟩, HB2.out⟩
/-- The tree. -/
theorem scanner_sparse (w : World) (m : Option Nat) (a : Option Addr) (n c : Nat) (em : Bool) (L : List Tx) (h : Shr w 0 m a n c em L) (h0 : n ≠ 0) :
    Calls Tryz.prog 27 #[.int .i64 0, .agg #[.map m, .slice a n c]] w fun e w' => (∃ v, e = .returned (.tuple #[v, .int .i64 0]) ∧ Sr w' 0 L v) ∧ Below w.heap.size w w' := by
  obtain ⟨c0, c1⟩ := cells38 w m a n c
  have HI := Lib.hid h.is
  rw [show decide ((0 : Int) ≤ 0 ∧ (0 : Int) ≤ 3) = true from rfl] at HI
  have hn0 : ((n : Int) == 0) = false := by rw [beq_eq_false_iff_ne]; omega
  have hne : L ≠ [] := fun e => by have := h.len; rw [e] at this; simp at this; omega
  have HNE := Lib.hid hne
  have H := Lib.hid h
  clear h h0 hne
  go_enter Tryz.func27, Tryz.ntmps27
  go_wp2_with (first
    | (go_at_call 23; (with_reducible refine H.out.pats.mono ?_); rintro e w1 ⟨a1, k1, xs, rfl, hxs, hxn, hts, hxc, hb1⟩; have HC1 := Lib.hid hb1; have HB1 := Lib.hid (H.out.below.trans (hb1.mono H.out.below.size)); have HSN : Hid (∀ X, Below w1.heap.size w1 X → Calls Tryz.prog 34 #[.slice a1 n k1] X (GivesAu X (paths L) L)) := Lib.hid fun X hX => by { have hh := snew_any X xs a1 k1 (hts.keep hX) (by have := H.out.few; omega) (by rw [hxs]; have := H.out.small; omega); rw [hxs, hxn] at hh; exact hh };  clear hb1 hxs hxn hts hxc)
    | (go_at_call 15; (with_reducible refine (HI.out w1).mono ?_); rintro e w2 ⟨rfl, hb2⟩; have HB2 := Lib.hid (HB1.out.trans (hb2.mono HB1.out.size)); have HB12 := Lib.hid hb2; clear hb2)
    | (go_at_call 34; (with_reducible refine (HSN.out w2 HB12.out).mono ?_); rintro e w3 ⟨t, rfl, _, hA, hb3⟩; have HA := Lib.hid hA; have HB3 := Lib.hid (HB2.out.trans (hb3.mono HB2.out.size)); clear hA hb3))
  refine bodyPost_ret (v := .tuple #[.iface 79 (.pointer (some ⟨t, 0, none⟩)), .int .i64 0]) (by simp [results, Tryz.results27, go_sem]) rfl ?_
  exact ⟨⟨_, rfl, .inr (.inl ⟨HNE.out, rfl, t, rfl, HA.out⟩)⟩, HB3.out⟩
/-- The table. -/
theorem scanner_dense (w : World) (m : Option Nat) (a : Option Addr) (n c : Nat) (em : Bool) (L : List Tx) (h : Shr w 1 m a n c em L) (h0 : n ≠ 0) (h160 : (paths L).length ≤ 160) :
    Calls Tryz.prog 27 #[.int .i64 1, .agg #[.map m, .slice a n c]] w fun e w' => (∃ v, e = .returned (.tuple #[v, .int .i64 0]) ∧ Sr w' 1 L v) ∧ Below w.heap.size w w' := by
  obtain ⟨c0, c1⟩ := cells38 w m a n c
  have HI := Lib.hid h.is
  rw [show decide ((0 : Int) ≤ 1 ∧ (1 : Int) ≤ 3) = true from rfl] at HI
  have hn0 : ((n : Int) == 0) = false := by rw [beq_eq_false_iff_ne]; omega
  have hne : L ≠ [] := fun e => by have := h.len; rw [e] at this; simp at this; omega
  have HNE := Lib.hid hne
  have H := Lib.hid h
  have H160 := Lib.hid h160
  clear h160
  clear h h0 hne
  go_enter Tryz.func27, Tryz.ntmps27
  go_wp2_with (first
    | (go_at_call 23; (with_reducible refine H.out.pats.mono ?_); rintro e w1 ⟨a1, k1, xs, rfl, hxs, hxn, hts, hxc, hb1⟩; have HC1 := Lib.hid hb1; have HB1 := Lib.hid (H.out.below.trans (hb1.mono H.out.below.size)); have HSN : Hid (∀ X, Below w1.heap.size w1 X → Calls Tryz.prog 35 #[.slice a1 n k1] X (Dfa.GivesDt X L)) := Lib.hid fun X hX => by { have hh := Dfa.dnew_any X xs a1 k1 (hts.keep hX) (by have := H.out.few; omega) (by rw [hxs]; have := H.out.small; omega) (fun x hx => by have := (H.out.each x.text (by rw [← hxs]; exact List.mem_map_of_mem hx)).1; omega) (by rw [hxs]; exact H160.out); rw [hxs, hxn] at hh; exact hh };  clear hb1 hxs hxn hts hxc)
    | (go_at_call 15; (with_reducible refine (HI.out w1).mono ?_); rintro e w2 ⟨rfl, hb2⟩; have HB2 := Lib.hid (HB1.out.trans (hb2.mono HB1.out.size)); have HB12 := Lib.hid hb2; clear hb2)
    | (go_at_call 35; (with_reducible refine (HSN.out w2 HB12.out).mono ?_); rintro e w3 ⟨t, rfl, hD, hb3⟩; have HD := Lib.hid hD; have HB3 := Lib.hid (HB2.out.trans (hb3.mono HB2.out.size)); clear hD hb3))
  refine bodyPost_ret (v := .tuple #[.iface 81 (.pointer (some ⟨t, 0, none⟩)), .int .i64 0]) (by simp [results, Tryz.results27, go_sem]) rfl ?_
  exact ⟨⟨_, rfl, .inr (.inr (.inl ⟨HNE.out, rfl, _, t, rfl, HD.out⟩))⟩, HB3.out⟩
/-- Too many states. -/
theorem scanner_over (w : World) (m : Option Nat) (a : Option Addr) (n c : Nat) (em : Bool) (L : List Tx) (h : Shr w 1 m a n c em L) (h0 : n ≠ 0) (h160 : 160 < (paths L).length) :
    Calls Tryz.prog 27 #[.int .i64 1, .agg #[.map m, .slice a n c]] w fun e w' => (∃ v, e = .returned (.tuple #[v, .int .i64 14])) ∧ Below w.heap.size w w' := by
  obtain ⟨c0, c1⟩ := cells38 w m a n c
  have HI := Lib.hid h.is
  rw [show decide ((0 : Int) ≤ 1 ∧ (1 : Int) ≤ 3) = true from rfl] at HI
  have hn0 : ((n : Int) == 0) = false := by rw [beq_eq_false_iff_ne]; omega
  have hne : L ≠ [] := fun e => by have := h.len; rw [e] at this; simp at this; omega
  have HNE := Lib.hid hne
  have H := Lib.hid h
  have H160 := Lib.hid h160
  clear h160
  clear h h0 hne
  go_enter Tryz.func27, Tryz.ntmps27
  go_wp2_with (first
    | (go_at_call 23; (with_reducible refine H.out.pats.mono ?_); rintro e w1 ⟨a1, k1, xs, rfl, hxs, hxn, hts, hxc, hb1⟩; have HC1 := Lib.hid hb1; have HB1 := Lib.hid (H.out.below.trans (hb1.mono H.out.below.size)); have HSN : Hid (∀ X, Below w1.heap.size w1 X → Calls Tryz.prog 35 #[.slice a1 n k1] X (Dfa.GivesNone X)) := Lib.hid fun X hX => by { have hh := Dfa.dnew_over X xs a1 k1 (hts.keep hX) (by have := H.out.few; omega) (by rw [hxs]; have := H.out.small; omega) (by rw [hxs]; exact H160.out); rw [hxn] at hh; exact hh };  clear hb1 hxs hxn hts hxc)
    | (go_at_call 15; (with_reducible refine (HI.out w1).mono ?_); rintro e w2 ⟨rfl, hb2⟩; have HB2 := Lib.hid (HB1.out.trans (hb2.mono HB1.out.size)); have HB12 := Lib.hid hb2; clear hb2)
    | (go_at_call 35; (with_reducible refine (HSN.out w2 HB12.out).mono ?_); rintro e w3 ⟨rfl, hb3⟩; have HB3 := Lib.hid (HB2.out.trans (hb3.mono HB2.out.size)); clear hb3))
  refine bodyPost_ret (v := .tuple #[.iface 81 (.pointer none), .int .i64 14]) (by simp [results, Tryz.results27, go_sem]) rfl ?_
  exact ⟨⟨_, rfl⟩, HB3.out⟩
/-- From the ends. -/
theorem scanner_walter (w : World) (m : Option Nat) (a : Option Addr) (n c : Nat) (em : Bool) (L : List Tx) (h : Shr w 3 m a n c em L) (h0 : n ≠ 0) :
    Calls Tryz.prog 27 #[.int .i64 3, .agg #[.map m, .slice a n c]] w fun e w' => (∃ v, e = .returned (.tuple #[v, .int .i64 0]) ∧ Sr w' 3 L v) ∧ Below w.heap.size w w' := by
  obtain ⟨c0, c1⟩ := cells38 w m a n c
  have HI := Lib.hid h.is
  rw [show decide ((0 : Int) ≤ 3 ∧ (3 : Int) ≤ 3) = true from rfl] at HI
  have hn0 : ((n : Int) == 0) = false := by rw [beq_eq_false_iff_ne]; omega
  have hne : L ≠ [] := fun e => by have := h.len; rw [e] at this; simp at this; omega
  have HNE := Lib.hid hne
  have H := Lib.hid h
  clear h h0 hne
  go_enter Tryz.func27, Tryz.ntmps27
  go_wp2_with (first
    | (go_at_call 23; (with_reducible refine H.out.pats.mono ?_); rintro e w1 ⟨a1, k1, xs, rfl, hxs, hxn, hts, hxc, hb1⟩; have HC1 := Lib.hid hb1; have HB1 := Lib.hid (H.out.below.trans (hb1.mono H.out.below.size)); have HSN : Hid (∀ X, Below w1.heap.size w1 X → Calls Tryz.prog 37 #[.slice a1 n k1] X (Wal.GivesCw X L)) := Lib.hid fun X hX => by { have hh := Wal.wnew_any X xs a1 k1 (hts.keep hX) (by have := H.out.few; omega) (fun x hx => by have := (H.out.each x.text (by rw [← hxs]; exact List.mem_map_of_mem hx)).1; omega) (by rw [hxs]; exact H.out.small); rw [hxs, hxn] at hh; exact hh };  clear hb1 hxs hxn hts hxc)
    | (go_at_call 15; (with_reducible refine (HI.out w1).mono ?_); rintro e w2 ⟨rfl, hb2⟩; have HB2 := Lib.hid (HB1.out.trans (hb2.mono HB1.out.size)); have HB12 := Lib.hid hb2; clear hb2)
    | (go_at_call 37; (with_reducible refine (HSN.out w2 HB12.out).mono ?_); rintro e w3 ⟨p, rfl, hC, hb3⟩; have HC := Lib.hid hC; have HB3 := Lib.hid (HB2.out.trans (hb3.mono HB2.out.size)); clear hC hb3))
  refine bodyPost_ret (v := .tuple #[.iface 90 (.agg #[.iface 91 (.pointer p)]), .int .i64 0]) (by simp [results, Tryz.results27, go_sem]) rfl ?_
  exact ⟨⟨_, rfl, .inr (.inr (.inr (.inr ⟨HNE.out, rfl, p, rfl, HC.out⟩)))⟩, HB3.out⟩
theorem scanner_any (w : World) (tag : Int) (m : Option Nat) (a : Option Addr) (c : Nat) (l : List Tx) (h : Shr w tag m a (Pat.pats l).length c (decide (([] : Tx) ∈ l)) (Pat.pats l)) :
    Calls Tryz.prog 27 #[.int .i64 tag, .agg #[.map m, .slice a (Pat.pats l).length c]] w (GivesSr w tag l) := by
  by_cases h1 : 0 ≤ tag ∧ tag ≤ 3
  · have hw : wrongI tag l = if tag = 2 ∧ ((Pat.pats l).length ≠ 1 ∨ [] ∈ l) then 13 else if tag = 1 ∧ 160 < (paths (Pat.pats l)).length then 14 else 0 := by unfold wrongI; rw [if_neg (by omega)]
    by_cases h2 : tag = 2
    · subst h2
      by_cases h3 : (Pat.pats l).length = 1
      · by_cases h4 : ([] : Tx) ∈ l
        · rw [if_pos ⟨rfl, .inr h4⟩] at hw
          rw [decide_eq_true h4] at h
          unfold GivesSr
          rw [hw]
          generalize Pat.pats l = L at *
          rw [h3] at h ⊢
          refine (scanner_empty w m a c L h).mono ?_
          rintro e w' ⟨⟨v, rfl⟩, hb⟩
          exact ⟨v, rfl, (fun e => by cases e), hb⟩
        · rw [if_neg (by simp [h3, h4]), if_neg (by omega)] at hw
          rw [decide_eq_false h4] at h
          unfold GivesSr
          rw [hw]
          generalize Pat.pats l = L at *
          rw [h3] at h ⊢
          refine (scanner_two w m a c L h).mono ?_
          rintro e w' ⟨⟨v, rfl, hS⟩, hb⟩
          exact ⟨v, rfl, fun _ => hS, hb⟩
      · rw [if_pos ⟨rfl, .inl h3⟩] at hw
        unfold GivesSr
        rw [hw]
        refine (scanner_many w m a _ c _ _ h h3).mono ?_
        rintro e w' ⟨⟨v, rfl⟩, hb⟩
        exact ⟨v, rfl, (fun e => by cases e), hb⟩
    · rw [if_neg (fun h => h2 h.1)] at hw
      by_cases h3 : (Pat.pats l).length = 0
      · have h4 : Pat.pats l = [] := List.eq_nil_of_length_eq_zero h3
        rw [if_neg (by rw [h4]; simp [paths])] at hw
        unfold GivesSr
        rw [hw]
        rw [h4] at h ⊢
        refine (scanner_idle w tag m a c _ h h1 h2).mono ?_
        rintro e w' ⟨⟨v, rfl, hS⟩, hb⟩
        exact ⟨v, rfl, fun _ => hS, hb⟩
      · have h5 : tag = 0 ∨ tag = 1 ∨ tag = 3 := by omega
        unfold GivesSr
        rcases h5 with rfl | rfl | rfl
        · rw [if_neg (by omega)] at hw
          rw [hw]
          refine (scanner_sparse w m a _ c _ _ h h3).mono ?_
          rintro e w' ⟨⟨v, rfl, hS⟩, hb⟩
          exact ⟨v, rfl, fun _ => hS, hb⟩
        · by_cases h6 : 160 < (paths (Pat.pats l)).length
          · rw [if_pos ⟨rfl, h6⟩] at hw
            rw [hw]
            refine (scanner_over w m a _ c _ _ h h3 h6).mono ?_
            rintro e w' ⟨⟨v, rfl⟩, hb⟩
            exact ⟨v, rfl, (fun e => by cases e), hb⟩
          · rw [if_neg (fun h => h6 h.2)] at hw
            rw [hw]
            refine (scanner_dense w m a _ c _ _ h h3 (by omega)).mono ?_
            rintro e w' ⟨⟨v, rfl, hS⟩, hb⟩
            exact ⟨v, rfl, fun _ => hS, hb⟩
        · rw [if_neg (by omega)] at hw
          rw [hw]
          refine (scanner_walter w m a _ c _ _ h h3).mono ?_
          rintro e w' ⟨⟨v, rfl, hS⟩, hb⟩
          exact ⟨v, rfl, fun _ => hS, hb⟩
  · have hw : wrongI tag l = 11 := by unfold wrongI; rw [if_pos (by omega)]
    unfold GivesSr
    rw [hw]
    refine (scanner_out w tag m a _ c _ _ h h1).mono ?_
    rintro e w' ⟨⟨v, rfl⟩, hb⟩
    exact ⟨v, rfl, (fun e => by cases e), hb⟩
end Go.Proofs.YtcbhjhhajeeimaaGreat.Eng
