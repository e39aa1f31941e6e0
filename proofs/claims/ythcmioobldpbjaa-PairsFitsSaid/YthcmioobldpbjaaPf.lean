/- The contracts of the reference's Put and Sort. -/
import Derived.Test.YthcmioobldpbjaaPe
namespace Go.Proofs.Ythcmioobldpbjaa
open Go.RowKit
attribute [local go_sem ↓] eql_pairs neq_pairs

/-- What has been put together of the first k, and whether the pair is there already. -/
def Putting (w1 : World) (l : List Pr) (p : Pr) (s5 s6 s7 : Value) (wr : World) : Prop :=
  ∃ (k : Nat) (d : Bool) (out : List Pr), k ≤ l.length ∧ s7 = .int .i64 (k : Int) ∧ s6 = .bool d ∧ out.length ≤ k + d.toNat ∧ (put l p = out ++ if d then l.drop k else put (l.drop k) p) ∧
    wr.ownsRow w1.heap.size 27 2 s5 out.length (cellsOf out) ∧ Below w1.heap.size w1 wr
theorem put_lt {q p : Pr} {l : List Pr} (h : lt q p = true) : put (q :: l) p = q :: put l p := by rw [put, if_pos h]
theorem put_same {q p : Pr} {l : List Pr} (h : lt q p = false) (e : q = p) : put (q :: l) p = q :: l := by rw [put, if_neg (by rw [h]; simp), if_pos e]
theorem put_gt {q p : Pr} {l : List Pr} (h : lt q p = false) (e : ¬ q = p) : put (q :: l) p = p :: q :: l := by rw [put, if_neg (by rw [h]; simp), if_neg e]
set_option maxRecDepth 100000 in
set_option maxHeartbeats 4000000 in
theorem put_any (l : List Pr) (p : Pr) (a : Option Addr) (ca : Nat) (w : World) (hl : l.length ≤ 1000000) (hx : Ps w w.heap.size a l) :
    Calls Try.prog 10 #[.slice a l.length ca, pv p] w (Gives w (put l p)) := by
  obtain ⟨w1, hw1⟩ : ∃ w1, w1 = w.alloc (.cells #[.int .i64 p.s, .int .i64 p.e] 27) := ⟨_, rfl⟩
  have hb01 : Below w.heap.size w w1 := by rw [hw1]; exact (Below.refl _ _).alloc (Nat.le_refl _) _
  have hx1 : Ps w1 w1.heap.size a l := hx.keeps hb01
  have hg1 : w.heap.size < w1.heap.size := by rw [hw1]; simp
  have hp1 : w1.cell? ⟨w.heap.size, 0, none⟩ = some (.int .i64 p.s) ∧ w1.cell? ⟨w.heap.size, 1, none⟩ = some (.int .i64 p.e) := by
    rw [hw1]
    constructor <;> (rw [cell_of_row _ w.heap.size _ _ 27 (0, 0) (heap_alloc_new w _)]; rfl)
  have HP := Lib.hid hp1
  clear hp1 hx
  go_enter Try.func10, Try.ntmps10
  go_wp2
  rw [← hw1]
  have HW := Lib.hid hw1
  clear hw1
  go_loopw [5, 6, 7] (fun s5 s6 s7 wr => Putting w1 l p s5 s6 s7 wr) (fun _ _ i _ => l.length - (intOf i).toNat)
  case atStart => exact ⟨0, false, [], Nat.zero_le _, rfl, rfl, by simp, rfl, World.ownsRow_nil _ _ _ _, Below.refl _ _⟩
  case round =>
    obtain ⟨k, d, out, hk, rfl, rfl, hol, hput, hown, hbel⟩ := hrel
    have HPUT := Lib.hid hput
    clear hput
    have hsz := hbel.size
    have hcp : wr.cell? ⟨w.heap.size, 0, none⟩ = some (.int .i64 p.s) := (hbel.cell (p := ⟨w.heap.size, 0, none⟩) hg1).trans HP.out.1
    have hcq : wr.cell? ⟨w.heap.size, 1, none⟩ = some (.int .i64 p.e) := (hbel.cell (p := ⟨w.heap.size, 1, none⟩) hg1).trans HP.out.2
    by_cases hlt : k < l.length
    · have hdr := List.drop_eq_getElem_cons hlt
      obtain ⟨b1, o1, rfl, hb1, hc1⟩ := hx1.keep hbel (by omega)
      obtain ⟨h11, h12⟩ := hc1 k hlt
      have HC : Hid (∀ w', Below w1.heap.size w1 w' → w'.cell? ⟨b1, o1 + k * 2, none⟩ = some (.int .i64 l[k].s) ∧ w'.cell? ⟨b1, o1 + k * 2 + 1, none⟩ = some (.int .i64 l[k].e)) := Lib.hid (fun w' hb' => by
        obtain ⟨_, _, e, _, hc⟩ := hx1.keep hb' (by omega)
        cases e
        exact hc k hlt)
      clear hc1
      have hkl : (k : Int) < (l.length : Int) := by omega
      have HR : Hid (l.drop k = l[k] :: l.drop (k + 1)) := Lib.hid hdr
      clear hdr
      generalize l[k] = q at *
      cases d
      · simp only [Bool.toNat_false, Nat.add_zero] at hol
        have HPQ : Hid (put l p = out ++ put (q :: l.drop (k + 1)) p) := Lib.hid (by rw [← HR.out]; exact HPUT.out)
        clear HPUT
        cases hc : lt q p
        · have HLT := Lib.hid hc
          clear hc
          by_cases he : q = p
          · have HPN : Hid (put l p = (out ++ [q]) ++ if true then l.drop (k + 1) else put (l.drop (k + 1)) p) := Lib.hid (by rw [HPQ.out, put_same HLT.out he]; simp)
            have ht : prEq q.s q.e p.s p.e = true := by rw [prEq_eq]; simp [he]
            have HE := Lib.hid he
            clear he HPQ
            go_wp2
            go_still_tail 8, (by kernel_rfl)
            change wpList _ _ _ _ _ wr.drew
            have hbel2 : Below w1.heap.size w1 wr.drew := below_drews hbel 1
            have hown2 : wr.drew.ownsRow w1.heap.size 27 2 u5 out.length (cellsOf out) := hown
            generalize wr.drew = w2 at *
            clear h11 h12 hcp hcq hown hbel hsz
            have hs2 := hbel2.size
            go_wp2_with (go_at_call 18; ((with_reducible refine (rless_any q p w2).mono ?_)); rintro e w3 ⟨rfl, hb3⟩; rw [HLT.out]; have hown3 := own_keep hown2 hb3; have hbel3 := hbel2.trans (hb3.mono hs2); have hs3 := hbel3.size; obtain ⟨h11, h12⟩ := HC.out w3 hbel3; have hcp : w3.cell? ⟨w.heap.size, 0, none⟩ = some (.int .i64 p.s) := (hbel3.cell (p := ⟨w.heap.size, 0, none⟩) hg1).trans HP.out.1; have hcq : w3.cell? ⟨w.heap.size, 1, none⟩ = some (.int .i64 p.e) := (hbel3.cell (p := ⟨w.heap.size, 1, none⟩) hg1).trans HP.out.2)
            go_quiet (fail)
            have hbel4 : Below w1.heap.size w1 (w3.drewN nq) := below_drews hbel3 nq
            have hown4 : (w3.drewN nq).ownsRow w1.heap.size 27 2 u5 out.length (cellsOf out) := hown3
            generalize w3.drewN nq = w4 at *
            clear h11 h12 hcp hcq hown3 hbel3 ht
            have hs4 := hbel4.size
            obtain ⟨h11, h12⟩ := HC.out w4 hbel4
            go_wp2_with (at_builtin; refine app_ps rfl (.tmp 35) (.tmp 40) rfl w1.heap.size _ (out).length (out) rfl (hown4.alloc _) (some ⟨w4.heap.size, 0, none⟩) [q] 1 _ rfl (ps_one w4 q (0, 0)) (fun e => by cases e) (by simp; omega) (by simp; omega) ?_; intro v5 w5 hown5' hg5; have hown5 := own_snoc hown5'; have hbel5 := app_below (hbel4.alloc hs4 _) (hown4.alloc _) hg5 (by simp; omega) (Nat.le_refl _); have hs5 := hbel5.size)
            go_roundw
            case rel => exact ⟨k + 1, true, out ++ [q], by omega, by go_num, rfl, by simp; omega, HPN.out, hown5, hbel5⟩
            case measure => simp [intOf]; omega
          · have HPN : Hid (put l p = ((out ++ [p]) ++ [q]) ++ if true then l.drop (k + 1) else put (l.drop (k + 1)) p) := Lib.hid (by rw [HPQ.out, put_gt HLT.out he]; simp)
            have ht : prEq q.s q.e p.s p.e = false := by rw [prEq_eq]; simp [he]
            clear he HPQ
            go_wp2
            go_still_tail 8, (by kernel_rfl)
            change wpList _ _ _ _ _ wr.drew
            have hbel2 : Below w1.heap.size w1 wr.drew := below_drews hbel 1
            have hown2 : wr.drew.ownsRow w1.heap.size 27 2 u5 out.length (cellsOf out) := hown
            generalize wr.drew = w2 at *
            clear h11 h12 hcp hcq hown hbel hsz
            have hs2 := hbel2.size
            go_wp2_with (go_at_call 18; ((with_reducible refine (rless_any q p w2).mono ?_)); rintro e w3 ⟨rfl, hb3⟩; rw [HLT.out]; have hown3 := own_keep hown2 hb3; have hbel3 := hbel2.trans (hb3.mono hs2); have hs3 := hbel3.size; obtain ⟨h11, h12⟩ := HC.out w3 hbel3; have hcp : w3.cell? ⟨w.heap.size, 0, none⟩ = some (.int .i64 p.s) := (hbel3.cell (p := ⟨w.heap.size, 0, none⟩) hg1).trans HP.out.1; have hcq : w3.cell? ⟨w.heap.size, 1, none⟩ = some (.int .i64 p.e) := (hbel3.cell (p := ⟨w.heap.size, 1, none⟩) hg1).trans HP.out.2)
            go_quiet (fail)
            have hbel4 : Below w1.heap.size w1 (w3.drewN nq) := below_drews hbel3 nq
            have hown4 : (w3.drewN nq).ownsRow w1.heap.size 27 2 u5 out.length (cellsOf out) := hown3
            generalize w3.drewN nq = w4 at *
            clear h11 h12 hcp hcq hown3 hbel3 ht
            have hs4 := hbel4.size
            have hcp : w4.cell? ⟨w.heap.size, 0, none⟩ = some (.int .i64 p.s) := (hbel4.cell (p := ⟨w.heap.size, 0, none⟩) hg1).trans HP.out.1
            have hcq : w4.cell? ⟨w.heap.size, 1, none⟩ = some (.int .i64 p.e) := (hbel4.cell (p := ⟨w.heap.size, 1, none⟩) hg1).trans HP.out.2
            go_wp2_with (first
              | (at_builtin; refine app_ps rfl (.tmp 31) (.tmp 33) rfl w1.heap.size _ (out).length (out) rfl (hown4.alloc _) (some ⟨w4.heap.size, 0, none⟩) [p] 1 _ rfl (ps_one w4 p (0, 0)) (fun e => by cases e) (by simp; omega) (by simp; omega) ?_; intro v5 w5 hown5' hg5; have hown5 := own_snoc hown5'; have hbel5 := app_below (hbel4.alloc hs4 _) (hown4.alloc _) hg5 (by simp; omega) (Nat.le_refl _); have hs5 := hbel5.size; obtain ⟨h11, h12⟩ := HC.out w5 hbel5)
              | (at_builtin; refine app_ps rfl (.tmp 35) (.tmp 40) rfl w1.heap.size _ (out ++ [p]).length (out ++ [p]) rfl (hown5.alloc _) (some ⟨w5.heap.size, 0, none⟩) [q] 1 _ rfl (ps_one w5 q (0, 0)) (fun e => by cases e) (by simp; omega) (by simp; omega) ?_; intro v6 w6 hown6' hg6; have hown6 := own_snoc hown6'; have hbel6 := app_below (hbel5.alloc hs5 _) (hown5.alloc _) hg6 (by simp; omega) (Nat.le_refl _); have hs6 := hbel6.size))
            go_roundw
            case rel => exact ⟨k + 1, true, (out ++ [p]) ++ [q], by omega, by go_num, rfl, by simp; omega, HPN.out, hown6, hbel6⟩
            case measure => simp [intOf]; omega
        · have HLT := Lib.hid hc
          have HPN : Hid (put l p = (out ++ [q]) ++ if false then l.drop (k + 1) else put (l.drop (k + 1)) p) := Lib.hid (by rw [HPQ.out, put_lt hc]; simp)
          clear hc HPQ
          go_wp2
          go_still_tail 8, (by kernel_rfl)
          change wpList _ _ _ _ _ wr.drew
          have hbel2 : Below w1.heap.size w1 wr.drew := below_drews hbel 1
          have hown2 : wr.drew.ownsRow w1.heap.size 27 2 u5 out.length (cellsOf out) := hown
          generalize wr.drew = w2 at *
          clear h11 h12 hcp hcq hown hbel hsz
          have hs2 := hbel2.size
          go_wp2_with (first
            | (go_at_call 18; ((with_reducible refine (rless_any q p w2).mono ?_)); rintro e w3 ⟨rfl, hb3⟩; rw [HLT.out]; have hown3 := own_keep hown2 hb3; have hbel3 := hbel2.trans (hb3.mono hs2); have hs3 := hbel3.size; obtain ⟨h11, h12⟩ := HC.out w3 hbel3; have hcp : w3.cell? ⟨w.heap.size, 0, none⟩ = some (.int .i64 p.s) := (hbel3.cell (p := ⟨w.heap.size, 0, none⟩) hg1).trans HP.out.1; have hcq : w3.cell? ⟨w.heap.size, 1, none⟩ = some (.int .i64 p.e) := (hbel3.cell (p := ⟨w.heap.size, 1, none⟩) hg1).trans HP.out.2)
            | (at_builtin; refine app_ps rfl (.tmp 35) (.tmp 40) rfl w1.heap.size _ (out).length (out) rfl (hown3.alloc _) (some ⟨w3.heap.size, 0, none⟩) [q] 1 _ rfl (ps_one w3 q (0, 0)) (fun e => by cases e) (by simp; omega) (by simp; omega) ?_; intro v4 w4 hown4' hg4; have hown4 := own_snoc hown4'; have hbel4 := app_below (hbel3.alloc hs3 _) (hown3.alloc _) hg4 (by simp; omega) (Nat.le_refl _); have hs4 := hbel4.size))
          go_roundw
          case rel => exact ⟨k + 1, false, out ++ [q], by omega, by go_num, rfl, by simp; omega, HPN.out, hown4, hbel4⟩
          case measure => simp [intOf]; omega
      · simp only [Bool.toNat_true] at hol
        have HPN : Hid (put l p = (out ++ [q]) ++ if true then l.drop (k + 1) else put (l.drop (k + 1)) p) := Lib.hid (by rw [HPUT.out, if_pos rfl, if_pos rfl, HR.out]; simp)
        clear HPUT
        go_wp2
        go_quiet (fail)
        have hbel4 : Below w1.heap.size w1 (wr.drewN nq) := below_drews hbel nq
        have hown4 : (wr.drewN nq).ownsRow w1.heap.size 27 2 u5 out.length (cellsOf out) := hown
        generalize wr.drewN nq = w4 at *
        clear h11 h12 hcp hcq hown hbel
        have hs4 := hbel4.size
        obtain ⟨h11, h12⟩ := HC.out w4 hbel4
        go_wp2_with (at_builtin; refine app_ps rfl (.tmp 35) (.tmp 40) rfl w1.heap.size _ (out).length (out) rfl (hown4.alloc _) (some ⟨w4.heap.size, 0, none⟩) [q] 1 _ rfl (ps_one w4 q (0, 0)) (fun e => by cases e) (by simp; omega) (by simp; omega) ?_; intro v5 w5 hown5' hg5; have hown5 := own_snoc hown5'; have hbel5 := app_below (hbel4.alloc hs4 _) (hown4.alloc _) hg5 (by simp; omega) (Nat.le_refl _); have hs5 := hbel5.size)
        go_roundw
        case rel => exact ⟨k + 1, true, out ++ [q], by omega, by go_num, rfl, by simp; omega, HPN.out, hown5, hbel5⟩
        case measure => simp [intOf]; omega
    · have hdn : l.drop k = [] := List.drop_of_length_le (by omega)
      cases d
      · simp only [Bool.toNat_false, Nat.add_zero] at hol
        have HPN : Hid (put l p = out ++ [p]) := Lib.hid (by rw [HPUT.out, hdn]; simp [put])
        clear HPUT hdn
        go_wp2_with (at_builtin; refine app_ps rfl (.tmp 44) (.tmp 46) rfl w1.heap.size _ (out).length (out) rfl (hown.alloc _) (some ⟨wr.heap.size, 0, none⟩) [p] 1 _ rfl (ps_one wr p (0, 0)) (fun e => by cases e) (by simp; omega) (by simp; omega) ?_; intro v4 w4 hown4' hg4; have hown4 := own_snoc hown4'; have hbel4 := app_below (hbel.alloc hsz _) (hown.alloc _) hg4 (by simp; omega) (Nat.le_refl _); have hs4 := hbel4.size)
        go_ret
        rw [HPN.out]
        obtain ⟨a2, c2, rfl, h1, h2, h3⟩ := own_ps hown4 rfl
        exact ⟨a2, c2, rfl, h1, h2, h3, hb01.trans (hbel4.mono hb01.size)⟩
      · have HPN : Hid (put l p = out) := Lib.hid (by rw [HPUT.out, hdn]; simp)
        clear HPUT hdn
        go_wp2
        go_ret
        rw [HPN.out]
        obtain ⟨a2, c2, rfl, h1, h2, h3⟩ := own_ps hown rfl
        exact ⟨a2, c2, rfl, h1, h2, h3, hb01.trans (hbel.mono hb01.size)⟩
theorem norm_snoc (xs : List Pr) (k : Nat) (h : k < xs.length) : norm (xs.take (k + 1)) = put (norm (xs.take k)) xs[k] := by
  rw [List.take_succ_eq_append_getElem h, norm_append]; rfl
theorem norm_take_le (xs : List Pr) (k : Nat) : (norm (xs.take k)).length ≤ xs.length := by
  have h1 := norm_length (xs.take k)
  have h2 : (xs.take k).length ≤ xs.length := by simp; omega
  omega
set_option maxHeartbeats 1000000 in
theorem rsort_any (xs : List Pr) (a : Option Addr) (ca : Nat) (w : World) (hl : xs.length ≤ 1000000) (hx : Ps w w.heap.size a xs) :
    Calls Try.prog 9 #[.slice a xs.length ca] w (Gives w (norm xs)) := by
  go_enter Try.func9, Try.ntmps9
  go_wp2
  go_loopw [3, 4] (fun v i wr => ∃ (k : Nat) (A : Option Addr) (c : Nat), k ≤ xs.length ∧ i = .int .i64 (k : Int) ∧ v = .slice A (norm (xs.take k)).length c ∧ (norm (xs.take k)).length ≤ c ∧ (A = none → c = 0) ∧ Ps wr wr.heap.size A (norm (xs.take k)) ∧ Below w.heap.size w wr)
    (fun _ i _ => xs.length - (intOf i).toNat)
  case atStart => exact ⟨0, none, 0, Nat.zero_le _, rfl, rfl, Nat.le_refl _, fun _ => rfl, ps_nil _ _ _, Below.refl _ _⟩
  case round =>
    obtain ⟨k, A, c, hk, rfl, rfl, hlc, hnc, hps, hbel⟩ := hrel
    have HNC := Lib.hid hnc
    clear hnc
    by_cases hlt : k < xs.length
    · obtain ⟨b1, o1, rfl, hb1, hc1⟩ := hx.keep hbel (by omega)
      obtain ⟨h11, h12⟩ := hc1 k hlt
      clear hc1
      have hkl : (k : Int) < (xs.length : Int) := by omega
      have HN := Lib.hid (norm_snoc xs k hlt)
      have hle := norm_take_le xs k
      have hsz := hbel.size
      generalize xs[k] = p at *
      generalize norm (xs.take k) = m at *
      go_wp2_with (go_at_call 10; ((with_reducible refine (put_any m p A c wr (by omega) hps).mono ?_)); rintro e w1 ⟨a1, c1, rfl, hc1, hn1, hp1, hb1⟩)
      go_roundw
      case rel =>
        refine ⟨k + 1, a1, c1, by omega, by go_num, ?_⟩
        rw [HN.out]
        exact ⟨rfl, hc1, hn1, hp1, hbel.trans (hb1.mono hsz)⟩
      case measure => simp [intOf]; omega
    · have e : xs.take k = xs := List.take_of_length_le (by omega)
      rw [e] at hlc hps
      rw [e]
      go_wp2
      go_ret
      exact ⟨A, c, rfl, hlc, HNC.out, hps, hbel⟩
end Go.Proofs.Ythcmioobldpbjaa
