/- Contracts of Path and Kids. -/
import Derived.Test.YtkooanahgffjgaaTb
namespace Go.Proofs.Ytkooanahgffjgaa.Tri
open Go.RowKit Go.Maps
set_option maxRecDepth 100000

theorem ndOf_snoc (ps l : List Tx) (q : Tx) (c : UInt8) : (ndOf ps l (q ++ [c])).last = c ∧ (ndOf ps l (q ++ [c])).up = place ps q := by
  simp [ndOf]
theorem made_bytes (n : Nat) : (madeCells (Value.int .u8 0).cells (n * 1)).toList = vals (List.replicate n 0) := by
  show (madeCells #[Value.int .u8 0] (n * 1)).toList = _
  rw [toList_madeCells_one, Nat.mul_one]
  simp [vals]
theorem vals_set (p : Tx) (j : Nat) (h : j < p.length) : (vals (List.replicate (j + 1) 0 ++ p.drop (j + 1))).set j (.int .u8 (p[j].toNat : Int)) = vals (List.replicate j 0 ++ p.drop j) := by
  have e1 : List.replicate (j + 1) (0 : UInt8) ++ p.drop (j + 1) = List.replicate j 0 ++ (0 :: p.drop (j + 1)) := by
    rw [List.replicate_succ']; simp
  have e2 : p.drop j = p[j] :: p.drop (j + 1) := (List.drop_eq_getElem_cons h)
  rw [e1, e2]
  unfold vals
  rw [List.map_append, List.map_append, List.set_append_right _ _ (by simp), List.map_cons, List.map_cons]
  simp only [List.length_map, List.length_replicate, Nat.sub_self, List.set_cons_zero]
theorem own_there {w : World} {base g n cap : Nat} {xs : Tx} (h : w.ownsRow base 5 1 (.slice (some ⟨g, 0, none⟩) n cap) n (vals xs)) {j : Nat} (hj : j < n) : (∃ u, w.cell? ⟨g, j, none⟩ = some u) ∧ w.frozen? ⟨g, j, none⟩ = false ∧ g < w.heap.size := by
  have hl : (vals xs).length = n * 1 := h.1
  refine ⟨⟨(vals xs)[j]'(by omega), ?_⟩, h.frozenAt j, (own_block_lt h rfl).2.1⟩
  rw [h.cellAt j (by omega), List.getElem?_eq_getElem (by omega)]
set_option maxHeartbeats 1000000 in
theorem path_any (w : World) (s t : Nat) (ps l : List Tx) (h : Tr w s t ps l) (n : Int) (hd : (pathD ps n).length ≤ 1000000) :
    Calls Try.prog 37 #[.pointer (some ⟨t, 0, none⟩), .int .i64 n] w (GivesText w (pathD ps n)) := by
  have HD := Lib.hid (depth_any w s t ps l h n)
  have hx0 : 0 < (pathD ps n).length → n = place ps (pathD ps n) ∧ pathD ps n ∈ ps := fun h0 => by
    by_cases hin : 0 ≤ n ∧ n < ps.length
    · obtain ⟨i, rfl⟩ : ∃ i : Nat, n = (i : Int) := ⟨n.toNat, by omega⟩
      have hi : i < ps.length := by omega
      rw [pathD_at hi, place_at h.2.1.nodup hi]
      exact ⟨rfl, List.getElem_mem hi⟩
    · rw [pathD, pathOf_none hin] at h0; exact absurd h0 (by simp)
  have HX := Lib.hid hx0
  have HH := Lib.hid h
  clear hx0 h
  generalize pathD ps n = p at *
  obtain ⟨i0, hi, hz0, hz1, hz2⟩ := info_parts info5
  go_enter Try.func37, Try.ntmps37
  go_wp2_with (first
    | (go_at_call 53; (with_reducible refine HD.out.mono ?_); rintro e w0 ⟨rfl, hb0⟩)
    | (at_make; refine wpList_make_full w0 rfl _ _ 23 rfl w.heap.size 5 i0 (.int .u8 0) 1 Try.underlying23 hi hz0 hz1 .i64 .i64 _ _ p.length rfl rfl (by simp) (by simp) (by rw [hz2]; omega) (by unfold maxLen; omega) hb0.size ?_; intro w1 hown hg1))
  rw [made_bytes] at hown
  have hb1 : Below w.heap.size w w1 := hb0.grown hg1 hb0.size (fun k hk => by cases hk)
  have hgw : w.heap.size ≤ w0.heap.size := hb0.size
  generalize w0.heap.size = g at *
  clear hb0 hg1 HD
  go_loopw [1, 6] (fun x i wr => ∃ (k : Nat) (z : Int), k ≤ p.length ∧ i = .int .i64 ((k : Int) - 1) ∧ x = .int .i64 z ∧ (0 < k → z = place ps (p.take k) ∧ p.take k ∈ ps) ∧ wr.ownsRow w.heap.size 5 1 (.slice (some ⟨g, 0, none⟩) p.length p.length) p.length (vals (List.replicate k 0 ++ p.drop k)) ∧ Below w.heap.size w wr) (fun _ i _ => (intOf i + 1).toNat)
  case atStart => exact ⟨p.length, n, Nat.le_refl _, rfl, rfl, fun h0 => by rw [List.take_length]; exact HX.out h0, by rw [List.drop_length, List.append_nil]; exact hown, hb1⟩
  case round =>
    obtain ⟨k, z, hk, rfl, rfl, hz, hown, hbel⟩ := hrel
    cases k with
    | zero =>
      have HO := Lib.hid hown
      have HB := Lib.hid hbel
      clear hown hbel hz
      rw [show (((0 : Nat) : Int) - 1) = -1 from rfl]
      go_wp2
      go_ret
      have ho := HO.out
      rw [List.replicate_zero, List.nil_append, List.drop_zero] at ho
      obtain ⟨a, cap, e, ht, hc, hnil⟩ := own_txt ho
      exact ⟨a, cap, by rw [← e]; rfl, ht, hc, hnil, HB.out⟩
    | succ j =>
      obtain ⟨hz1', hz2'⟩ := hz (by omega)
      have ej : (((j + 1 : Nat) : Int) - 1) = (j : Int) := by omega
      rw [ej]
      have hj : j < p.length := by omega
      have HA := Lib.hid (at_any wr s t ps l (HH.out.keep hbel) z)
      obtain ⟨i, hil, e1, e2, _⟩ := place_mem hz2'
      have HR : Hid ((ndAt ps l z).last = p[j] ∧ (ndAt ps l z).up = place ps (p.take j)) := Lib.hid (by
        rw [hz1', e1, ndAt_in l hil, e2, List.take_succ_eq_append_getElem hj]
        exact ndOf_snoc _ _ _ _)
      have HM : Hid (p.take j ∈ ps) := Lib.hid (by rw [List.take_succ_eq_append_getElem hj] at hz2'; exact HH.out.2.1.closed hz2')
      have HO := Lib.hid hown
      have HB := Lib.hid hbel
      clear hz hz1' hz2' ej e1 e2 hil hown hbel hb1
      generalize ndAt ps l z = r at *
      go_wp2_with (go_at_call 54; (with_reducible refine HA.out.mono ?_); rintro e w2 ⟨rfl, hb2⟩; obtain ⟨⟨u, hu⟩, hfz, hgl⟩ := own_there (own_keep HO.out hb2) hj; have HB2 := Lib.hid hb2; clear hb2)
      refine ⟨⟨j, r.up, by omega, rfl, rfl, fun _ => ⟨HR.out.2, HM.out⟩, ?_, ?_⟩, by simp [intOf]⟩
      · have h1 := ((own_keep HO.out HB2.out).stored j (.int .u8 (r.last.toNat : Int))).1
        rw [HR.out.1, vals_set p j hj] at h1
        rw [HR.out.1]
        exact h1.alloc _
      · have h1 : Below w.heap.size w w2 := HB.out.trans (HB2.out.mono HB.out.size)
        exact (h1.setCell (p := ⟨g, j, none⟩) hgw _).alloc (by simp; omega) _
/-- The bytes below k that f tells. -/
def kidsTo (f : UInt8 → Bool) (k : Nat) : List UInt8 := ((List.range k).map UInt8.ofNat).filter f
theorem kidsTo_succ (f : UInt8 → Bool) (k : Nat) : kidsTo f (k + 1) = if f (UInt8.ofNat k) then kidsTo f k ++ [UInt8.ofNat k] else kidsTo f k := by
  unfold kidsTo
  rw [List.range_succ, List.map_append, List.filter_append]
  split
  · rename_i h; simp [h]
  · rename_i h; simp [h]
theorem kidsTo_len (f : UInt8 → Bool) (k : Nat) : (kidsTo f k).length ≤ k := by
  unfold kidsTo
  refine Nat.le_trans (List.length_filter_le _ _) (by simp)
/-- The bytes that lead on. -/
def kidsOf (ps : List Tx) (n : Int) : List UInt8 := kidsTo (fun c => decide (0 ≤ stepOf ps n c)) 256
theorem ofNat_u8 (k : Nat) (h : k < 256) : ((UInt8.ofNat k).toNat : Int) = (k : Int) := by
  rw [UInt8.toNat_ofNat']; omega
theorem vals_append (l m : Tx) : vals (l ++ m) = vals l ++ vals m := by simp [vals]
set_option maxRecDepth 20000 in
set_option maxHeartbeats 1000000 in
theorem kids_any (w : World) (s t : Nat) (ps l : List Tx) (h : Tr w s t ps l) (n : Int) (hn : (Lit.int .i64 n).wf = true) :
    Calls Try.prog 42 #[.pointer (some ⟨t, 0, none⟩), .int .i64 n] w (GivesText w (kidsOf ps n)) := by
  have HH := Lib.hid h
  have HN := Lib.hid hn
  unfold kidsOf
  obtain ⟨f, hf⟩ : ∃ f : UInt8 → Bool, f = fun c => decide (0 ≤ stepOf ps n c) := ⟨_, rfl⟩
  rw [← hf]
  have HF : Hid (∀ c, f c = decide (0 ≤ stepOf ps n c)) := Lib.hid (fun c => by rw [hf])
  clear h hn hf
  obtain ⟨y, hy⟩ : ∃ y, y = kidsTo f 256 := ⟨_, rfl⟩
  rw [← hy]
  have HY := Lib.hid hy
  clear hy
  go_enter Try.func42, Try.ntmps42
  go_wp2
  go_loopw [5, 7] (fun v i wr => ∃ k : Nat, k ≤ 256 ∧ i = .int .i64 (k : Int) ∧ wr.ownsRow w.heap.size 5 1 v (kidsTo f k).length (vals (kidsTo f k)) ∧ Below w.heap.size w wr) (fun _ i _ => 256 - (intOf i).toNat)
  case atStart => exact ⟨0, by omega, rfl, World.ownsRow_nil _ _ _ _, Below.refl _ _⟩
  case round =>
    obtain ⟨k, hk, rfl, hown, hbel⟩ := hrel
    have hkl := kidsTo_len f k
    by_cases hlt : k < 256
    · have HS : Hid (Calls Try.prog 43 #[.pointer (some ⟨t, 0, none⟩), .int .i64 n, .int .u8 ((UInt8.ofNat k).toNat : Int)] wr fun e w' => e = .returned (.int .i64 (stepOf ps n (UInt8.ofNat k))) ∧ wr = w') := Lib.hid (step_any wr s t ps l (HH.out.keep hbel) n HN.out (UInt8.ofNat k))
      have HE := Lib.hid (kidsTo_succ f k)
      have HFk := Lib.hid (HF.out (UInt8.ofNat k))
      rw [ofNat_u8 k hlt] at HS
      generalize stepOf ps n (UInt8.ofNat k) = x at *
      have HO := Lib.hid hown
      have HB := Lib.hid hbel
      clear hown hbel
      have hq : IntKind.u8.wrap (k : Int) = (k : Int) := by simp [IntKind.wrap, IntKind.bits, IntKind.signed]; omega
      by_cases hx : 0 ≤ x
      · have hsz := HB.out.size
        go_wp2_with (first
          | (go_at_call 43; (with_reducible refine HS.out.mono ?_); rintro e w2 ⟨rfl, rfl⟩)
          | (at_builtin; refine app_bs rfl _ _ rfl w.heap.size _ _ _ rfl (HO.out.alloc _) (some ⟨wr.heap.size, 0, none⟩) [UInt8.ofNat k] 1 (wr.heap.size + 1) rfl (by have := bs_lit wr [UInt8.ofNat k] (0, 0) #[.int .u8 (k : Int)] (by rw [List.map_cons, ofNat_u8 k hlt]; rfl); rwa [World.size_alloc] at this) (fun e => by cases e) (by simp; omega) (by simp; omega) ?_; intro v3 w3 hown3 hg3))
        go_roundw
        case rel =>
          refine ⟨k + 1, by omega, by go_num, ?_, (HB.out.alloc hsz _).grown hg3 (by simp; omega) (fun q hq => own_ge HO.out hq)⟩
          rw [HE.out, HFk.out, if_pos (by simp; omega), List.length_append, vals_append]
          exact hown3
        case measure => simp [intOf]; omega
      · go_wp2_with (go_at_call 43; (with_reducible refine HS.out.mono ?_); rintro e w2 ⟨rfl, rfl⟩)
        go_roundw
        case rel => exact ⟨k + 1, by omega, by go_num, by rw [HE.out, HFk.out, if_neg (by simp; omega)]; exact HO.out, HB.out⟩
        case measure => simp [intOf]; omega
    · have hke : k = 256 := by omega
      have HK : Hid (kidsTo f k = y) := Lib.hid (by rw [hke]; exact HY.out.symm)
      rw [HK.out] at hown
      clear hke
      have hk2 : ¬ (k : Int) < 256 := by omega
      have HO := Lib.hid hown
      have HB := Lib.hid hbel
      clear hown hbel
      go_wp2
      go_ret
      obtain ⟨a, cap, e, ht, hc, hnil⟩ := own_txt HO.out
      exact ⟨a, cap, by rw [← e]; rfl, ht, hc, hnil, HB.out⟩
end Go.Proofs.Ytkooanahgffjgaa.Tri
