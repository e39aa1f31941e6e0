/- The walk of ClassesOrder. -/
import Derived.Test.YtlepabeibniabaaCh
namespace Go.Proofs.Ytlepabeibniabaa.classesOrder
open Go.Proofs.Ytlepabeibniabaa.Tri Go.Proofs.Ytlepabeibniabaa.Cls Go.Proofs.Ytlepabeibniabaa.Reg Go.RowKit Go.Maps
set_option maxRecDepth 100000
set_option linter.unusedVariables false
theorem flat_le (l : List (List UInt8)) (n : Nat) (h : ∀ t ∈ l, t.length ≤ n) : l.flatten.length ≤ n * l.length := by
  induction l with
  | nil => simp
  | cons t l ih =>
    have h1 := h t (by simp)
    have h2 := ih (fun t ht => h t (by simp [ht]))
    rw [List.flatten_cons, List.length_append, List.length_cons, Nat.mul_succ]
    exact Nat.add_comm _ _ ▸ Nat.add_le_add h2 h1
theorem tm_at (a b : Nat) : (a : Int).tmod (b : Int) = ((a % b : Nat) : Int) := (Int.ofNat_tmod a b).symm
theorem mod_le (a b : Nat) : a % (b + 1) ≤ b := Nat.le_of_lt_succ (Nat.mod_lt a (Nat.succ_pos b))
theorem wrap_u8 (n : UInt8) : wrap64 (n.toNat : Int) = (n.toNat : Int) := by
  have := n.toNat_lt
  exact IntWalk.wrap64_in _ (by omega)
def rotTo (xs : List TxV) (t : Nat) : Nat → List TxV
  | 0 => []
  | i + 1 => rotTo xs t i ++ (match xs[(i + t) % xs.length]? with | some x => [x] | none => [])
theorem rot_succ (xs : List TxV) (t i : Nat) (h : (i + t) % xs.length < xs.length) : rotTo xs t (i + 1) = rotTo xs t i ++ [xs[(i + t) % xs.length]] := by
  rw [rotTo, List.getElem?_eq_getElem h]
theorem rot_sub (xs : List TxV) (t : Nat) : ∀ i, ∀ x ∈ rotTo xs t i, x ∈ xs
  | 0, x, h => by cases h
  | i + 1, x, h => by
    rw [rotTo] at h
    rcases List.mem_append.1 h with h | h
    · exact rot_sub xs t i x h
    · split at h
      · rename_i y hy
        obtain rfl : x = y := by simpa using h
        exact List.mem_of_getElem? hy
      · cases h
theorem rot_has (xs : List TxV) (t : Nat) : ∀ i k, k < i → ∀ h : (k + t) % xs.length < xs.length, xs[(k + t) % xs.length] ∈ rotTo xs t i
  | 0, k, hk, _ => by omega
  | i + 1, k, hk, h => by
    rw [rotTo]
    by_cases e : k = i
    · subst e
      rw [List.getElem?_eq_getElem h]
      simp
    · exact List.mem_append_left _ (rot_has xs t i k (by omega) h)
theorem rot_all (xs : List TxV) (t : Nat) (x : TxV) (hx : x ∈ xs) : x ∈ rotTo xs t xs.length := by
  obtain ⟨j, hj, rfl⟩ := List.getElem_of_mem hx
  have hn : 0 < xs.length := by omega
  have hr := Nat.mod_lt t hn
  have e : ((j + (xs.length - t % xs.length)) % xs.length + t) % xs.length = j := by
    rw [Nat.mod_add_mod]
    have e1 := Nat.div_add_mod t xs.length
    have e2 : j + (xs.length - t % xs.length) + t = j + xs.length * (t / xs.length + 1) := by rw [Nat.mul_add]; omega
    rw [e2, Nat.add_mul_mod_self_left, Nat.mod_eq_of_lt hj]
  have := rot_has xs t xs.length ((j + (xs.length - t % xs.length)) % xs.length) (Nat.mod_lt _ hn) (by rw [e]; exact hj)
  simpa only [e] using this
theorem rot_len (xs : List TxV) (t : Nat) : ∀ i, (rotTo xs t i).length ≤ i
  | 0 => by simp [rotTo]
  | i + 1 => by
    have := rot_len xs t i
    rw [rotTo, List.length_append]
    split <;> simp <;> omega
/-- The texts in another order, the first one once more. -/
def turned (xs : List TxV) (t : Nat) (x : TxV) : List TxV := rotTo xs t xs.length ++ [x]
theorem turned_mem {xs : List TxV} {x : TxV} (hx : x ∈ xs) (t : Nat) (z : TxV) : z ∈ turned xs t x ↔ z ∈ xs := by
  constructor
  · intro hz
    rcases List.mem_append.1 hz with hz | hz
    · exact rot_sub xs t _ z hz
    · rw [List.mem_singleton.1 hz]; exact hx
  · intro hz
    exact List.mem_append_left _ (rot_all xs t z hz)
theorem turned_stands {xs : List TxV} {x : TxV} (hx : x ∈ xs) (t : Nat) : stands ((turned xs t x).map TxV.text) = stands (xs.map TxV.text) := funext fun c =>
  stands_congr (fun y => by
    rw [List.mem_map, List.mem_map]
    constructor
    · rintro ⟨z, hz, rfl⟩; exact ⟨z, (turned_mem hx t z).1 hz, rfl⟩
    · rintro ⟨z, hz, rfl⟩; exact ⟨z, (turned_mem hx t z).2 hz, rfl⟩) c

set_option maxHeartbeats 8000000 in
theorem small (w : World) (xs : List TxV) (a0 : Option Addr) (cap0 : Nat) (hts : Ts w a0 xs) (h0 : xs.length ≤ 12) (hx : ∀ x ∈ xs, x.text.length ≤ 40) (t : UInt8) (hx1 : 0 < xs.length) :
    Calls Try.prog 6 #[.slice a0 xs.length cap0, .int .u8 (t.toNat : Int)] w fun e w' => e = .returned (.bool true) ∧ Below w.heap.size w w' := by
  have hx' : ∀ x ∈ xs, x.text.length ≤ maxLen := fun x h => Nat.le_trans (hx x h) (by unfold maxLen; omega)
  have HX := Lib.hid hx
  have HX' := Lib.hid hx'
  have HAW := Lib.hid (awake_any w)
  clear hx hx'
  go_enter Try.func6, Try.ntmps6
  go_wp2_with fail
  refine HAW.out.mono ?_
  rintro e' w1 ⟨rfl, hb2⟩
  have ts1 := hts.keep hb2
  go_wp2_with fail
  refine (ltexts_any xs a0 cap0 w1 ts1 (by omega) HX'.out).mono ?_
  rintro e' w2 ⟨hb3, hcase⟩
  rcases hcase with ⟨hbad, _⟩ | ⟨_, aL, cL, rfl, hsL⟩
  · exact absurd HX.out hbad
  rw [decide_eq_true h0]
  have HTS := Lib.hid (ts1.keep hb3)
  have HB := Lib.hid (hb2.trans (hb3.mono hb2.size))
  have hszw := HB.out.size
  obtain ⟨l, hl⟩ : ∃ l, l = xs.map TxV.text := ⟨_, rfl⟩
  have HOF : Hid (∀ X, Below w2.heap.size w2 X → Calls Try.prog 9 #[.slice a0 xs.length cap0] X fun e w' => e = .returned (.agg (cc (stands l))) ∧ Below X.heap.size X w') := Lib.hid fun X hX => by
    have := of_any9 xs a0 cap0 X (HTS.out.keep hX) (by omega) (fun x h => Nat.le_trans (HX.out x h) (by omega))
    rwa [← hl] at this
  have HST : Hid (∀ X c, Below w2.heap.size w2 X → Calls Try.prog 16 #[.slice a0 xs.length cap0, .int .u8 (c.toNat : Int)] X fun e w' => e = .returned (.bool (stands l c)) ∧ w' = X) := Lib.hid fun X c hX => by
    have := stands_any xs a0 cap0 X (HTS.out.keep hX) (by omega) (fun x h => Nat.le_trans (HX.out x h) (by omega)) c
    rwa [← hl] at this
  have HLN : Hid (xs.length = l.length) := Lib.hid (by rw [hl]; simp)
  have HFL : Hid (l.flatten.length ≤ 480) := Lib.hid (by
    have h := flat_le l 40 (fun t h => by
      rw [hl] at h
      obtain ⟨y, hy, rfl⟩ := List.mem_map.1 h
      exact HX.out y hy)
    have := HLN.out
    omega)
  rw [← hl] at hsL
  have HSL := Lib.hid hsL
  have HLL := Lib.hid hl
  have HX0 := HX
  clear HX HX' HAW hb2 hb3 ts1 hsL hts hl
  have HZ := Lib.hid (cc_size (fun _ => false))
  have hz29 := zero29
  generalize cc (fun _ => false) = z at *
  have hx0 : ((xs.length : Int) == 0) = false := by rw [beq_eq_false_iff_ne]; omega
  go_wp2_with fail
  refine (HOF.out w2 (Below.refl _ _)).mono ?_
  rintro e3 w3 ⟨rfl, hb3⟩
  have HLL2 := HLL
  have HS := Lib.hid (cc_size (stands l))
  have HO := Lib.hid (cc_one (stands l))
  have HQ := Lib.hid (fun X => equal_cc (stands l) X)
  obtain ⟨f, hf⟩ : ∃ f, f = stands l := ⟨_, rfl⟩
  rw [← hf] at HS HO HQ ⊢
  have HLE := Lib.hid (fun X => len_any f X)
  have HCL := Lib.hid (fun c X => class_any f c X)
  have HTB := Lib.hid (fun X => table_any f X)
  have HF := Lib.hid hf
  clear hf HSL HLN HFL HOF HST HLL
  have HCC : Hid (∀ g : UInt8 → Bool, g = f → cc g = cc f) := Lib.hid (fun g h => by rw [h])
  obtain ⟨cs, hcs⟩ : ∃ cs, cs = cc f := ⟨_, rfl⟩
  rw [← hcs] at HS HO HQ HLE HCL HTB HCC ⊢
  clear hcs
  have es : ((w3.alloc (.cells z 29)).setRow w3.heap.size cs) = w3.alloc (.cells cs 29) := World.setRow_alloc_new _ _ _ _
  have HB0 : Hid (Below w2.heap.size w2 ((w3.alloc (.cells z 29)).setRow w3.heap.size cs)) := Lib.hid (by rw [es]; exact hb3.alloc hb3.size _)
  have HR0 : Hid (((w3.alloc (.cells z 29)).setRow w3.heap.size cs).heap[w3.heap.size]? = some (.cells cs 29 (0, 0))) := Lib.hid (by rw [es]; exact heap_alloc_new w3 _)
  have HG := Lib.hid (heap_alloc_new w3 (.cells z 29))
  clear es hb3
  go_wp2_with (first
    | (with_reducible refine wpList_store_row rfl 29 (.tmp 8) (.tmp 31) rfl w3.heap.size cs rfl rfl 29 z HG.out (by rw [HS.out]; exact size29) (by rw [HS.out, HZ.out]) HO.out ?_))
  generalize ((w3.alloc (.cells z 29)).setRow w3.heap.size cs) = x0 at *
  generalize w3.heap.size = g at *
  clear HG
  have hs0 := HB0.out.size
  have HRX : Hid (∀ X, Below x0.heap.size x0 X → X.heap[g]? = some (.cells cs 29 (0, 0))) := Lib.hid (fun X h => (h.block _ (txt_lt HR0.out)).trans HR0.out)
  obtain ⟨bx, ox, ex, _, _⟩ := HTS.out.1 hx1
  subst ex
  have HCX : Hid (∀ X, Below x0.heap.size x0 X → ∀ i (h : i < xs.length), X.cell? ⟨bx, ox + i, none⟩ = some (.slice xs[i].a xs[i].text.length xs[i].cap)) := Lib.hid fun X hX i hi => by
    obtain ⟨b', o', e', _, hc'⟩ := (HTS.out.keep (HB0.out.trans (hX.mono hs0))).1 hx1
    cases e'
    exact hc' i hi
  go_loopw [9, 10] (fun v x wi => ∃ i : Nat, i ≤ xs.length ∧ x = .int .i64 (i : Int) ∧ wi.ownsRow x0.heap.size 36 1 v (rotTo xs t.toNat i).length (tvals (rotTo xs t.toNat i)) ∧ Below x0.heap.size x0 wi) (fun _ x _ => xs.length - (intOf x).toNat)
  case atStart => exact ⟨0, by omega, rfl, World.ownsRow_nil _ _ _ _, Below.refl _ _⟩
  case round =>
    obtain ⟨i, hi, rfl, ho, hb⟩ := hrel
    have HO2 := Lib.hid ho
    have HBE2 := Lib.hid hb
    have hsz2 := hb.size
    clear ho hb
    have hrl := rot_len xs t.toNat i
    by_cases hlt : i < xs.length
    · have hlt2 : (i : Int) < (xs.length : Int) := by omega
      have hwt := wrap_u8 t
      have hr := Nat.mod_lt (i + t.toNat) hx1
      have htm := tm_at (i + t.toNat) xs.length
      rw [Int.natCast_add] at htm
      have HRS := Lib.hid (rot_succ xs t.toNat i hr)
      have hcell := HCX.out _ HBE2.out _ hr
      have ht8 : t.toNat ≤ 255 := Nat.le_of_lt_succ t.toNat_lt
      generalize xs[(i + t.toNat) % xs.length] = z at *
      generalize (i + t.toNat) % xs.length = r at *
      generalize t.toNat = tt at *
      go_wp2_with (at_builtin; refine app_ts rfl _ _ rfl _ _ _ (rotTo xs tt i) z rfl (HO2.out.alloc _) ⟨wr.heap.size, 0, none⟩ rfl (cell_new1 wr _ 36) (by omega) (by simp; omega) ?_; intro v9 w9 hown9 hg9)
      go_roundw
      case rel => exact ⟨i + 1, by omega, by go_num, by rw [HRS.out, List.length_append]; exact hown9, (HBE2.out.alloc hsz2 _).grown hg9 (by simp; omega) (fun j hj => own_ge HO2.out hj)⟩
      case measure => simp [intOf]; omega
    · have hlt2 : ¬ (i : Int) < (xs.length : Int) := by omega
      have hie : i = xs.length := by omega
      rw [hie] at HO2
      have HX1 : Hid (xs[0] ∈ xs) := Lib.hid (List.getElem_mem hx1)
      have HCX0 : Hid (∀ X, Below x0.heap.size x0 X → X.cell? ⟨bx, ox, none⟩ = some (.slice xs[0].a xs[0].text.length xs[0].cap)) := Lib.hid fun X h => HCX.out X h 0 hx1
      have hcell := HCX0.out wr HBE2.out
      have HTN := Lib.hid (turned_stands HX1.out t.toNat)
      have hrl2 := rot_len xs t.toNat xs.length
      have HTU : Hid (rotTo xs t.toNat xs.length ++ [xs[0]] = turned xs t.toNat xs[0]) := Lib.hid rfl
      have HR0' := Lib.hid (rot_sub xs t.toNat xs.length)
      clear hie hrl hi hlt HCX
      generalize rotTo xs t.toNat xs.length = R0 at *
      generalize xs[0] = z0 at *
      generalize t.toNat = tt at *
      go_wp2_with (first
        | (at_builtin; refine app_ts rfl _ _ rfl _ _ _ R0 z0 rfl (HO2.out.alloc _) ⟨wr.heap.size, 0, none⟩ rfl (cell_new1 wr _ 36) (by omega) (by simp; omega) ?_; intro v9 w9 hown9 hg9; have HO9 := Lib.hid hown9; have hB9 := (HBE2.out.alloc hsz2 (.cells #[.slice z0.a z0.text.length z0.cap] 36)).grown hg9 (by simp; omega) (fun j hj => own_ge HO2.out hj); have hsz9 := hB9.size; have HBE9 := Lib.hid hB9; clear hown9 hB9 hg9))
      have B9 := HB0.out.trans (HBE9.out.mono hs0)
      have hts9 : ∀ x ∈ R0 ++ [z0], Bs w9 w9.heap.size x.a x.text := fun x hx => by
        have hk := (HTS.out.keep B9).2
        rcases List.mem_append.1 hx with hx | hx
        · exact hk x (HR0'.out x hx)
        · rw [List.mem_singleton.1 hx]; exact hk z0 HX1.out
      have hm9 : ∀ x ∈ R0 ++ [z0], x.text.length ≤ 1000000000000 := fun x hx => by
        rcases List.mem_append.1 hx with hx | hx
        · exact Nat.le_trans (HX0.out x (HR0'.out x hx)) (by omega)
        · rw [List.mem_singleton.1 hx]; exact Nat.le_trans (HX0.out z0 HX1.out) (by omega)
      have ho9 : w9.ownsRow x0.heap.size 36 1 v9 (R0 ++ [z0]).length (tvals (R0 ++ [z0])) := by rw [List.length_append]; exact HO9.out
      obtain ⟨ao, co, ev, hto, _, _⟩ := own_ts ho9 hts9
      subst ev
      have CN : Calls Try.prog 9 #[.slice ao (R0 ++ [z0]).length co] w9 fun e w' => e = .returned (.agg cs) ∧ Below w9.heap.size w9 w' := by
        have h := of_any9 (R0 ++ [z0]) ao co w9 hto (by simp; omega) hm9
        rw [HTU.out, HTN.out, HCC.out _ (by rw [HF.out, HLL2.out])] at h
        rw [HTU.out]
        exact h
      refine CN.mono ?_
      rintro e10 w10 ⟨rfl, hb10⟩
      have es : ((w10.alloc (.cells z 29)).setRow w10.heap.size cs) = w10.alloc (.cells cs 29) := World.setRow_alloc_new _ _ _ _
      have b10 := HBE9.out.trans (hb10.mono hsz9)
      have hBx : Below x0.heap.size x0 ((w10.alloc (.cells z 29)).setRow w10.heap.size cs) := by rw [es]; exact b10.alloc b10.size _
      have HRd : Hid (((w10.alloc (.cells z 29)).setRow w10.heap.size cs).heap[w10.heap.size]? = some (.cells cs 29 (0, 0))) := Lib.hid (by rw [es]; exact heap_alloc_new w10 _)
      have HRc : Hid (((w10.alloc (.cells z 29)).setRow w10.heap.size cs).heap[g]? = some (.cells cs 29 (0, 0))) := Lib.hid (HRX.out _ hBx)
      have HBX := Lib.hid (HB0.out.trans (hBx.mono hs0))
      have HG := Lib.hid (heap_alloc_new w10 (.cells z 29))
      clear es b10 hBx hb10 CN hto ho9 hm9 hts9 HTU HR0' HTN HCX0 hcell HBE9 HO9 HO2 HBE2 B9 HTS HX1 HLL2 hsz9 hsz2 hrl2 HR0 HRX HCC
      go_wp2_with (first
        | (with_reducible refine wpList_store_row rfl 29 (.tmp 11) (.tmp 58) rfl w10.heap.size cs rfl rfl 29 z HG.out (by rw [HS.out]; exact size29) (by rw [HS.out, HZ.out]) HO.out ?_))
      generalize ((w10.alloc (.cells z 29)).setRow w10.heap.size cs) = x5 at *
      generalize w10.heap.size = gd at *
      clear HG HZ hz29
      have hs5 := HBX.out.size
      obtain ⟨fs, hd1⟩ := Cls.some29
      have HD := Lib.hid hd1
      clear hd1
      have HRX : Hid (∀ X, Below x5.heap.size x5 X → X.heap[g]? = some (.cells cs 29 (0, 0))) := Lib.hid (fun X h => (h.block _ (txt_lt HRc.out)).trans HRc.out)
      go_loopw [12, 13] (fun v x wi => ∃ q : Nat, q ≤ 256 ∧ x = .int .i64 (q : Int) ∧ v = .int .i64 (lastTo f q : Int) ∧ Below x5.heap.size x5 wi) (fun _ x _ => 256 - (intOf x).toNat)
      case atStart => exact ⟨0, by omega, rfl, rfl, Below.refl _ _⟩
      case round =>
        obtain ⟨q, hq, rfl, rfl, hbq⟩ := hrel
        have hle : lastTo f q ≤ 256 := Nat.le_trans (upTo_len f q) hq
        by_cases hlt : q < 256
        · have hlt2 : (q : Int) < 256 := by omega
          have hqw : IntKind.u8.wrap (q : Int) = (q : Int) := by simp [IntKind.wrap, IntKind.bits, IntKind.signed]; omega
          have HSU := Lib.hid (last_succ f q hlt)
          have HBQ := Lib.hid hbq
          have hqs := hbq.size
          cases hfq : f (UInt8.ofNat q) with
          | true =>
            have HNX := Lib.hid (last_next f q hlt hfq)
            have HCQ : Hid (∀ X, Calls Try.prog 11 #[.agg cs, .int .u8 (q : Int)] X fun e w' => e = .returned (.int .i64 ((lastTo f q : Int) + 1)) ∧ Below X.heap.size X w') := Lib.hid (fun X => by
              have h := HCL.out (UInt8.ofNat q) X
              rw [ofNat_u8 q hlt, HNX.out] at h
              exact h)
            have HL1 : Hid ((lastTo f (q + 1) : Int) = (lastTo f q : Int) + 1) := Lib.hid (by rw [HSU.out, hfq, if_pos rfl, HNX.out]; rfl)
            clear hfq HNX HSU
            generalize lastTo f q = y at *
            have hyp : decide ((0 : Int) < (y : Int) + 1) = true := decide_eq_true (by omega)
            go_wp2_with (first
              | (with_reducible refine wpList_load_row rfl 29 (.tmp 8) rfl g rfl 29 cs (0, 0) _ (HRX.out _ (by assumption)) HD.out rfl (by rw [HS.out]; exact size29) ?_)
              | (go_at_call 11; (with_reducible refine (HCQ.out _).mono ?_); rintro e6 x6 ⟨rfl, hb6⟩; have HB6 := Lib.hid (HBQ.out.trans (hb6.mono hqs)); clear hb6))
            exact ⟨⟨q + 1, by omega, by go_num, by rw [HL1.out], HB6.out⟩, by simp [intOf]; omega⟩
          | false =>
            have HCQ : Hid (∀ X, Calls Try.prog 11 #[.agg cs, .int .u8 (q : Int)] X fun e w' => e = .returned (.int .i64 0) ∧ Below X.heap.size X w') := Lib.hid (fun X => by
              have h := HCL.out (UInt8.ofNat q) X
              rw [ofNat_u8 q hlt, cls_zero hfq] at h
              exact h)
            have HL1 : Hid ((lastTo f (q + 1) : Int) = (lastTo f q : Int)) := Lib.hid (by rw [HSU.out, hfq, if_neg (by decide)])
            clear hfq HSU
            generalize lastTo f q = y at *
            go_wp2_with (first
              | (with_reducible refine wpList_load_row rfl 29 (.tmp 8) rfl g rfl 29 cs (0, 0) _ (HRX.out _ (by assumption)) HD.out rfl (by rw [HS.out]; exact size29) ?_)
              | (go_at_call 11; (with_reducible refine (HCQ.out _).mono ?_); rintro e6 x6 ⟨rfl, hb6⟩; have HB6 := Lib.hid (HBQ.out.trans (hb6.mono hqs)); clear hb6))
            exact ⟨⟨q + 1, by omega, by go_num, by rw [HL1.out], HB6.out⟩, by simp [intOf]; omega⟩
        · obtain rfl : q = 256 := by omega
          have HLN : Hid (lastTo f 256 = cnt f) := Lib.hid rfl
          rw [HLN.out] at hle ⊢
          rw [show ((256 : Nat) : Int) = 256 from rfl]
          generalize cnt f = n at *
          have HBR : Hid (Below wr.heap.size wr wr) := Lib.hid (Below.refl _ _)
          have HRC : Hid (∀ X, Below wr.heap.size wr X → (loadVar 29 ⟨g, 0, none⟩).run Try.prog X = .ok (.agg cs) X) := Lib.hid (fun X h => load29 HS.out (HRX.out wr hbq) h)
          have HRD : Hid (∀ X, Below wr.heap.size wr X → (loadVar 29 ⟨gd, 0, none⟩).run Try.prog X = .ok (.agg cs) X) := Lib.hid (fun X h => load29 HS.out ((hbq.block _ (txt_lt HRd.out)).trans HRd.out) h)
          have HLE1 := Lib.hid (fun X (_ : Below wr.heap.size wr X) => HLE.out X)
          have HTB1 := Lib.hid (fun X (_ : Below wr.heap.size wr X) => HTB.out X)
          have HQ1 : Hid (∀ (w' : World) {B : Nat} {a : World}, Below B a w' → (Op.equalIn 10000 27 (.agg cs) (.agg cs)).run Try.prog w' = .ok true w') := Lib.hid (fun w' _ _ _ => HQ.out w')
          have HFB := Lib.hid (HB.out.trans ((HBX.out.trans (hbq.mono hs5)).mono hszw))
          have hnw : (n : Int) + 1 - 1 = (n : Int) := by omega
          have hnq : IntKind.i64.wrap (n : Int) = (n : Int) := IntWalk.i64_in _ (by omega)
          have hwl := HFB.out.size
          clear hbq
          go_wp2_with fail
          refine wp_region_held_drew (S := fun w' => Below wr.drew.heap.size wr.drew w') (by kernel_rfl) (Below.refl _ _) (fun hH0 => ?_)
          have B0 := Lib.hid (below_drews HBR.out 1)
          change Hid (Below _ _ wr.drew) at B0
          generalize wr.drew = y0 at *
          refine held_take (i := 0) (d := 74) (oi := _) (v := ?_) rfl rfl (by kernel_rfl) (by kernel_rfl) (by kernel_rfl) (fun _ _ _ h => h) (Or.inl ⟨by rfl, ?_⟩) (by assumption) ?_
          rotate_left
          · (intro w hSw; clear hSw; go_simp; (try with_reducible rfl))
          simp only [Act.put, List.setIfInBounds_toArray, List.set_cons_zero, List.set_cons_succ]
          refine held_take (i := 1) (d := 75) (oi := _) (v := _) rfl rfl (by kernel_rfl) (by kernel_rfl) (by kernel_rfl) (fun _ _ _ h => h) (Or.inl ⟨by rfl, fun w hSw => exec_load rfl rfl (HRC.out w (B0.out.trans (hSw.mono B0.out.size)))⟩) (by assumption) ?_
          simp only [Act.put, List.setIfInBounds_toArray, List.set_cons_zero, List.set_cons_succ]
          refine wpAnyH_ready (rs := [2]) (by kernel_rfl) (by simp) ?_
          refine AllReadyH.cons rfl (fun K hK => ?_) AllReadyH.nil
          go_simp
          go_wp2_with (go_at_call 13; (with_reducible refine (HLE1.out _ B0.out).mono ?_); rintro e x1 ⟨rfl, hb⟩)
          refine hK.out _ _ hb (fun _ => ?_)
          have B1 := Lib.hid (B0.out.trans (hb.mono B0.out.size))
          refine wpAnyH_more (S' := fun w' => Below x1.heap.size x1 w') (fun w' h => hb.trans (h.mono hb.size)) _ _ _ _ ?_
          have hH1 : Below x1.heap.size x1 x1 := Below.refl _ _
          clear hK K hH0 hb B0
          refine held_take (i := 3) (d := 77) (oi := _) (v := ?_) rfl rfl (by kernel_rfl) (by kernel_rfl) (by kernel_rfl) (fun _ _ _ h => h) (Or.inl ⟨by rfl, ?_⟩) (by assumption) ?_
          rotate_left
          · (intro w hSw; clear hSw; go_simp; (try with_reducible rfl))
          simp only [Act.put, List.setIfInBounds_toArray, List.set_cons_zero, List.set_cons_succ]
          refine held_take (i := 4) (d := 78) (oi := _) (v := ?_) rfl rfl (by kernel_rfl) (by kernel_rfl) (by kernel_rfl) (fun _ _ _ h => h) (Or.inl ⟨by rfl, ?_⟩) (by assumption) ?_
          rotate_left
          · (intro w hSw; clear hSw; go_simp; (try with_reducible rfl))
          simp only [Act.put, List.setIfInBounds_toArray, List.set_cons_zero, List.set_cons_succ]
          refine held_take (i := 5) (d := 79) (oi := _) (v := ?_) rfl rfl (by kernel_rfl) (by kernel_rfl) (by kernel_rfl) (fun _ _ _ h => h) (Or.inl ⟨by rfl, ?_⟩) (by assumption) ?_
          rotate_left
          · (intro w hSw; clear hSw; go_simp; (try with_reducible rfl))
          simp only [Act.put, List.setIfInBounds_toArray, List.set_cons_zero, List.set_cons_succ]
          refine held_take (i := 6) (d := 80) (oi := _) (v := _) rfl rfl (by kernel_rfl) (by kernel_rfl) (by kernel_rfl) (fun _ _ _ h => h) (Or.inl ⟨by rfl, fun w hSw => exec_load rfl rfl (HRC.out w (B1.out.trans (hSw.mono B1.out.size)))⟩) (by assumption) ?_
          simp only [Act.put, List.setIfInBounds_toArray, List.set_cons_zero, List.set_cons_succ]
          refine held_take (i := 8) (d := 82) (oi := _) (v := _) rfl rfl (by kernel_rfl) (by kernel_rfl) (by kernel_rfl) (fun _ _ _ h => h) (Or.inl ⟨by rfl, fun w hSw => exec_load rfl rfl (HRD.out w (B1.out.trans (hSw.mono B1.out.size)))⟩) (by assumption) ?_
          simp only [Act.put, List.setIfInBounds_toArray, List.set_cons_zero, List.set_cons_succ]
          refine wpAnyH_ready (rs := [7]) (by kernel_rfl) (by simp) ?_
          refine AllReadyH.cons rfl (fun K hK => ?_) AllReadyH.nil
          go_simp
          go_wp2_with (go_at_call 10; (with_reducible refine (HTB1.out _ B1.out).mono ?_); rintro e x2 ⟨rfl, hb⟩)
          refine hK.out _ _ hb (fun _ => ?_)
          have B2 := Lib.hid (B1.out.trans (hb.mono B1.out.size))
          refine wpAnyH_more (S' := fun w' => Below x2.heap.size x2 w') (fun w' h => hb.trans (h.mono hb.size)) _ _ _ _ ?_
          have hH2 : Below x2.heap.size x2 x2 := Below.refl _ _
          clear hK K hH1 hb B1
          refine wpAnyH_ready (rs := [9]) (by kernel_rfl) (by simp) ?_
          refine AllReadyH.cons rfl (fun K hK => ?_) AllReadyH.nil
          go_simp
          go_wp2_with (go_at_call 10; (with_reducible refine (HTB1.out _ B2.out).mono ?_); rintro e x3 ⟨rfl, hb⟩)
          refine hK.out _ _ hb (fun _ => ?_)
          have B3 := Lib.hid (B2.out.trans (hb.mono B2.out.size))
          refine wpAnyH_more (S' := fun w' => Below x3.heap.size x3 w') (fun w' h => hb.trans (h.mono hb.size)) _ _ _ _ ?_
          have hH3 : Below x3.heap.size x3 x3 := Below.refl _ _
          clear hK K hH2 hb B2
          refine held_take (i := 10) (d := 84) (oi := _) (v := ?_) rfl rfl (by kernel_rfl) (by kernel_rfl) (by kernel_rfl) (fun _ _ _ h => h) (Or.inl ⟨by rfl, ?_⟩) (by assumption) ?_
          rotate_left
          · (intro w hSw; have hcvw := HQ1.out w hSw; clear hSw; go_simp; (try with_reducible rfl))
          simp only [Act.put, List.setIfInBounds_toArray, List.set_cons_zero, List.set_cons_succ]
          refine held_take (i := 11) (d := 85) (oi := _) (v := ?_) rfl rfl (by kernel_rfl) (by kernel_rfl) (by kernel_rfl) (fun _ _ _ h => h) (Or.inl ⟨by rfl, ?_⟩) (by assumption) ?_
          rotate_left
          · (intro w hSw; clear hSw; go_simp; (try with_reducible rfl))
          simp only [Act.put, List.setIfInBounds_toArray, List.set_cons_zero, List.set_cons_succ]
          refine held_take (i := 12) (d := 86) (oi := _) (v := ?_) rfl rfl (by kernel_rfl) (by kernel_rfl) (by kernel_rfl) (fun _ _ _ h => h) (Or.inl ⟨by rfl, ?_⟩) (by assumption) ?_
          rotate_left
          · (intro w hSw; clear hSw; go_simp; (try with_reducible rfl))
          simp only [Act.put, List.setIfInBounds_toArray, List.set_cons_zero, List.set_cons_succ]
          refine held_take (i := 13) (d := 87) (oi := _) (v := _) rfl rfl (by kernel_rfl) (by kernel_rfl) (by kernel_rfl) (fun _ _ _ h => h) (Or.inl ⟨by rfl, fun w hSw => exec_load rfl rfl (HRC.out w (B3.out.trans (hSw.mono B3.out.size)))⟩) (by assumption) ?_
          simp only [Act.put, List.setIfInBounds_toArray, List.set_cons_zero, List.set_cons_succ]
          refine held_take (i := 15) (d := 89) (oi := _) (v := _) rfl rfl (by kernel_rfl) (by kernel_rfl) (by kernel_rfl) (fun _ _ _ h => h) (Or.inl ⟨by rfl, fun w hSw => exec_load rfl rfl (HRD.out w (B3.out.trans (hSw.mono B3.out.size)))⟩) (by assumption) ?_
          simp only [Act.put, List.setIfInBounds_toArray, List.set_cons_zero, List.set_cons_succ]
          refine wpAnyH_ready (rs := [14]) (by kernel_rfl) (by simp) ?_
          refine AllReadyH.cons rfl (fun K hK => ?_) AllReadyH.nil
          go_simp
          go_wp2_with (go_at_call 13; (with_reducible refine (HLE1.out _ B3.out).mono ?_); rintro e x4 ⟨rfl, hb⟩)
          refine hK.out _ _ hb (fun _ => ?_)
          have B4 := Lib.hid (B3.out.trans (hb.mono B3.out.size))
          refine wpAnyH_more (S' := fun w' => Below x4.heap.size x4 w') (fun w' h => hb.trans (h.mono hb.size)) _ _ _ _ ?_
          have hH4 : Below x4.heap.size x4 x4 := Below.refl _ _
          clear hK K hH3 hb B3
          refine wpAnyH_ready (rs := [16]) (by kernel_rfl) (by simp) ?_
          refine AllReadyH.cons rfl (fun K hK => ?_) AllReadyH.nil
          go_simp
          go_wp2_with (go_at_call 13; (with_reducible refine (HLE1.out _ B4.out).mono ?_); rintro e x5 ⟨rfl, hb⟩)
          refine hK.out _ _ hb (fun _ => ?_)
          have B5 := Lib.hid (B4.out.trans (hb.mono B4.out.size))
          refine wpAnyH_more (S' := fun w' => Below x5.heap.size x5 w') (fun w' h => hb.trans (h.mono hb.size)) _ _ _ _ ?_
          have hH5 : Below x5.heap.size x5 x5 := Below.refl _ _
          clear hK K hH4 hb B4
          refine held_take (i := 17) (d := 91) (oi := _) (v := ?_) rfl rfl (by kernel_rfl) (by kernel_rfl) (by kernel_rfl) (fun _ _ _ h => h) (Or.inl ⟨by rfl, ?_⟩) (by assumption) ?_
          rotate_left
          · (intro w hSw; clear hSw; go_simp; (try with_reducible rfl))
          simp only [Act.put, List.setIfInBounds_toArray, List.set_cons_zero, List.set_cons_succ]
          refine held_take (i := 18) (d := 92) (oi := _) (v := ?_) rfl rfl (by kernel_rfl) (by kernel_rfl) (by kernel_rfl) (fun _ _ _ h => h) (Or.inl ⟨by rfl, ?_⟩) (by assumption) ?_
          rotate_left
          · (intro w hSw; clear hSw; go_simp; (try with_reducible rfl))
          simp only [Act.put, List.setIfInBounds_toArray, List.set_cons_zero, List.set_cons_succ]
          refine held_take (i := 19) (d := 4) (oi := _) (v := ?_) rfl rfl (by kernel_rfl) (by kernel_rfl) (by kernel_rfl) (fun _ _ _ h => h) (Or.inl ⟨by rfl, ?_⟩) (by assumption) ?_
          rotate_left
          · (intro w hSw; clear hSw; go_simp; (try with_reducible rfl))
          simp only [Act.put, List.setIfInBounds_toArray, List.set_cons_zero, List.set_cons_succ]
          refine wpAnyH_done (by kernel_rfl) ?_ _
          go_wp2
          go_ret
          exact ⟨rfl, HFB.out.trans (B5.out.mono hwl)⟩
set_option maxHeartbeats 8000000 in
theorem empty (w : World) (xs : List TxV) (a0 : Option Addr) (cap0 : Nat) (hts : Ts w a0 xs) (h0 : xs.length ≤ 12) (hx : ∀ x ∈ xs, x.text.length ≤ 40) (t : UInt8) (hx1 : ¬ 0 < xs.length) :
    Calls Try.prog 6 #[.slice a0 xs.length cap0, .int .u8 (t.toNat : Int)] w fun e w' => e = .returned (.bool true) ∧ Below w.heap.size w w' := by
  have hx' : ∀ x ∈ xs, x.text.length ≤ maxLen := fun x h => Nat.le_trans (hx x h) (by unfold maxLen; omega)
  have HX := Lib.hid hx
  have HX' := Lib.hid hx'
  have HAW := Lib.hid (awake_any w)
  clear hx hx'
  go_enter Try.func6, Try.ntmps6
  go_wp2_with fail
  refine HAW.out.mono ?_
  rintro e' w1 ⟨rfl, hb2⟩
  have ts1 := hts.keep hb2
  go_wp2_with fail
  refine (ltexts_any xs a0 cap0 w1 ts1 (by omega) HX'.out).mono ?_
  rintro e' w2 ⟨hb3, hcase⟩
  rcases hcase with ⟨hbad, _⟩ | ⟨_, aL, cL, rfl, hsL⟩
  · exact absurd HX.out hbad
  rw [decide_eq_true h0]
  have HTS := Lib.hid (ts1.keep hb3)
  have HB := Lib.hid (hb2.trans (hb3.mono hb2.size))
  have hszw := HB.out.size
  obtain ⟨l, hl⟩ : ∃ l, l = xs.map TxV.text := ⟨_, rfl⟩
  have HOF : Hid (∀ X, Below w2.heap.size w2 X → Calls Try.prog 9 #[.slice a0 xs.length cap0] X fun e w' => e = .returned (.agg (cc (stands l))) ∧ Below X.heap.size X w') := Lib.hid fun X hX => by
    have := of_any9 xs a0 cap0 X (HTS.out.keep hX) (by omega) (fun x h => Nat.le_trans (HX.out x h) (by omega))
    rwa [← hl] at this
  have HST : Hid (∀ X c, Below w2.heap.size w2 X → Calls Try.prog 16 #[.slice a0 xs.length cap0, .int .u8 (c.toNat : Int)] X fun e w' => e = .returned (.bool (stands l c)) ∧ w' = X) := Lib.hid fun X c hX => by
    have := stands_any xs a0 cap0 X (HTS.out.keep hX) (by omega) (fun x h => Nat.le_trans (HX.out x h) (by omega)) c
    rwa [← hl] at this
  have HLN : Hid (xs.length = l.length) := Lib.hid (by rw [hl]; simp)
  have HFL : Hid (l.flatten.length ≤ 480) := Lib.hid (by
    have h := flat_le l 40 (fun t h => by
      rw [hl] at h
      obtain ⟨y, hy, rfl⟩ := List.mem_map.1 h
      exact HX.out y hy)
    have := HLN.out
    omega)
  rw [← hl] at hsL
  have HSL := Lib.hid hsL
  have HLL := Lib.hid hl
  have HX0 := HX
  clear HX HX' HAW hb2 hb3 ts1 hsL hts hl
  clear HTS HSL HOF HST HLN HFL HLL HX0
  have hx0 : ((xs.length : Int) == 0) = true := by rw [beq_iff_eq]; omega
  go_wp2
  go_ret
  exact ⟨rfl, HB.out⟩
set_option maxHeartbeats 8000000 in
theorem walk (w : World) (xs : List TxV) (a0 : Option Addr) (cap0 : Nat) (hz0 : xs.length ≤ 6000000000000) (hx0 : ∀ x ∈ xs, x.text.length ≤ maxLen) (hts : Ts w a0 xs) (t : UInt8) :
    Calls Try.prog 6 #[.slice a0 xs.length cap0, .int .u8 (t.toNat : Int)] w fun e w' => e = .returned (.bool true) ∧ Below w.heap.size w w' := by
  by_cases hall : xs.length ≤ 12 ∧ (∀ x ∈ xs, x.text.length ≤ 40)
  · by_cases hx1 : 0 < xs.length
    · exact small w xs a0 cap0 hts hall.1 hall.2 t hx1
    · exact empty w xs a0 cap0 hts hall.1 hall.2 t hx1
  · have HALL := Lib.hid hall
    have HX := Lib.hid hx0
    clear hall hx0
    go_enter Try.func6, Try.ntmps6
    go_wp2_with fail
    refine (awake_any _).mono ?_
    rintro e' w1 ⟨rfl, hb2⟩
    have ts1 := hts.keep hb2
    go_wp2_with fail
    refine (ltexts_any xs a0 cap0 w1 ts1 hz0 HX.out).mono ?_
    rintro e' w2 ⟨hb3, hcase⟩
    have B2 := hb2.trans (hb3.mono hb2.size)
    rcases hcase with ⟨_, rfl⟩ | ⟨hok, aL, cL, rfl, _⟩
    · go_wp2
      go_ret
      exact ⟨rfl, B2⟩
    · have h12 : ¬ xs.length ≤ 12 := fun h => HALL.out ⟨h, hok⟩
      rw [decide_eq_false h12]
      clear HALL hok
      go_wp2
      go_ret
      exact ⟨rfl, B2⟩
end Go.Proofs.Ytlepabeibniabaa.classesOrder
