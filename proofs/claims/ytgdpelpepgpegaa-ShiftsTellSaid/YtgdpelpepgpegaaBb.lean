/- The reference: Turn, Turned, Least, Near. -/
import Derived.Test.YtgdpelpepgpegaaBa
namespace Go.Proofs.Ytgdpelpepgpegaa.Bck
open Go.Proofs.Ytgdpelpepgpegaa.Tri Go.Proofs.Ytgdpelpepgpegaa.Cwl Go.Proofs.Ytgdpelpepgpegaa.Bck Go.Proofs.Ytgdpelpepgpegaa.Reg Go.RowKit Go.Maps
set_option maxRecDepth 100000
set_option linter.unusedVariables false

theorem str_drop0 (x : Tx) (k : Nat) : (str x).extract k x.length = str (x.drop k) := by
  unfold str
  rw [ByteArray.extract_mk]
  congr 1
  show (List.take (x.length - k) (x.drop k)).toArray = _
  rw [List.take_of_length_le (by simp)]
theorem size_of5b : ∀ w, (Go.sizeOf 5).run Try.prog w = .ok 1 w := fun w => by
  have hsz : (Try.prog.info? 5).map (·.size) = some 1 := by kernel_rfl
  cases hq : Try.prog.info? 5 with
  | none => rw [hq] at hsz; cases hsz
  | some i =>
    rw [hq] at hsz
    have hz : i.size = 1 := Option.some.inj hsz
    simp [Go.sizeOf, typeInfo, hq, hz]
theorem cut_back0 (a : Option Addr) (l : Tx) (c d : Nat) (hd : d ≤ l.length) (hc : l.length ≤ c) :
    ∃ A, (∀ W, (Instr.slice 44 (.slice a l.length c) (some (.int .i64 (d : Int))) none none).run Try.prog W = .ok (.slice A (l.length - d) (c - d)) W) ∧ ∀ X B, Bs X B a l → Bs X B A (l.drop d) := by
  have ht : Try.prog.underlying 44 = some (.slice (Try.prog.elem 44)) := by simp [Program.elem, Try.underlying44]
  have he : Try.prog.elem 44 = 5 := by simp [Program.elem, Try.underlying44]
  refine ⟨if c = d then a else a.map (·.add d), fun W => ?_, fun X B hb h0 => ?_⟩
  · rw [run_slice_l W 44 _ _ _ ht .i64 _ (by omega) (by omega), he, size_of5b]
    simp [Result.andThen, sliced]
  · rw [List.length_drop] at h0
    obtain ⟨b', o', rfl, hb', hcs⟩ := hb (by omega)
    refine ⟨b', o' + d, by rw [if_neg (by omega)]; simp [Addr.add], hb', fun i hi => ?_⟩
    rw [List.length_drop] at hi
    rw [List.getElem_drop, Nat.add_assoc]
    exact hcs (d + i) (by omega)
theorem pathD_off {ps : List Tx} {n : Int} (h : ¬ (0 ≤ n ∧ n < ps.length)) : pathD ps n = [] := by
  have : pathOf ps n = none := by
    unfold pathOf
    split
    · rw [List.getElem?_eq_none_iff]; omega
    · rfl
  rw [pathD, this]; rfl
theorem path_short0 {l : List Tx} {m : Nat} (h : ∀ x ∈ l, x.length ≤ m) {p : Tx} (hp : p ∈ paths l) : p.length ≤ m := by
  rcases (paths_mem _ p).1 hp with h0 | ⟨x, hx, q, e⟩
  · rw [h0]; exact Nat.zero_le _
  · have := h x hx
    rw [← e, List.length_append] at this
    omega
theorem turned_tot (l : List Tx) : tot (turned l) ≤ tot l := by
  induction l with
  | nil => exact Nat.le_refl _
  | cons x l ih =>
    unfold turned at *
    by_cases h : x = []
    · simp [h, tot] at *; omega
    · simp [h, tot] at *; omega
set_option maxHeartbeats 1000000 in
theorem rturn_any (w : World) (s : Tx) (hl : s.length ≤ 1000000) : Calls Try.prog 33 #[.string (str s)] w fun e w' => e = .returned (.string (str s.reverse)) ∧ w = w' := by
  have hz := str_size s
  go_enter Try.func33, Try.ntmps33
  go_wp2
  go_loop [3, 4] (fun vt vi => ∃ (k : Nat) (i : Int), k ≤ s.length ∧ vt = .string (str (turnTo s k)) ∧ vi = .int .i64 i ∧ i = (s.length : Int) - 1 - k) (fun _ vi => (intOf vi + 1).toNat)
  case atStart => exact ⟨0, _, Nat.zero_le _, by rw [turnTo_zero]; rfl, rfl, by omega⟩
  case round =>
    obtain ⟨k, i, hk, rfl, rfl, hi⟩ := hrel
    have hzt : (str (turnTo s k)).size = k := by rw [str_size, turnTo_len hk]
    by_cases hlt : k < s.length
    · obtain ⟨P, hP⟩ : ∃ P : Nat, P = s.length - 1 - k := ⟨_, rfl⟩
      obtain rfl : i = (P : Int) := by omega
      have hPl : P < s.length := by omega
      obtain ⟨y, hy⟩ : ∃ y, y = s[P] := ⟨_, rfl⟩
      have hpc := Go.Proofs.Ytgdpelpepgpegaa.Lnk.str_piece s P hPl
      have HST : Hid (turnTo s (k + 1) = turnTo s k ++ [y]) := Lib.hid (by rw [turnTo_step hlt, hy]; congr 2; simp only [hP])
      rw [← hy] at hpc
      have hz1 : (str [y]).size = 1 := str_size [y]
      have hap := str_append (turnTo s k) [y]
      rw [← HST.out] at hap
      obtain ⟨E, hE⟩ : ∃ E, E = P + 1 := ⟨_, rfl⟩
      have hwE : IntKind.i64.wrap ((P : Int) + 1) = (E : Int) := by rw [IntWalk.i64_in _ (by omega)]; omega
      rw [← hE] at hpc
      have h1 : (E : Int) ≤ (s.length : Int) := by omega
      have h2 : (P : Int) ≤ (E : Int) := by omega
      have HP := Lib.hid hP
      clear hy hE hP hi
      go_wp2
      exact ⟨⟨k + 1, (P : Int) - 1, by omega, rfl, by go_num, by have := HP.out; omega⟩, by simp [intOf]⟩
    · obtain rfl : i = -1 := by omega
      have HA : Hid (turnTo s k = s.reverse) := Lib.hid (turnTo_all (by omega))
      go_wp2
      go_ret
      exact ⟨by rw [HA.out]; rfl, rfl⟩
theorem str_emp0 (l : Tx) : (str l).toList.isEmpty = decide (l = []) := by
  have e : (str l).toList = l := by simp [str]
  rw [e, Bool.eq_iff_iff]; simp
theorem turned_take (l : List Tx) (k : Nat) (h : k < l.length) : turned (l.take (k + 1)) = if l[k] = [] then turned (l.take k) else turned (l.take k) ++ [l[k].reverse] := by
  rw [List.take_succ_eq_append_getElem h, turned_snoc]
set_option maxHeartbeats 2000000 in
theorem rturned_any (w : World) (l : List Tx) (a : Option Addr) (cap : Nat) (hs : Ss w a l) (hl : l.length ≤ 1000000) (hx : ∀ x ∈ l, x.length ≤ 1000000) :
    Calls Try.prog 12 #[.slice a l.length cap] w (GivesSs w (turned l)) := by
  have HS := Lib.hid hs
  have HX := Lib.hid hx
  clear hs hx
  go_enter Try.func12, Try.ntmps12
  go_wp2
  go_loopw [3, 4] (fun v i wr => ∃ k : Nat, k ≤ l.length ∧ i = .int .i64 k ∧ wr.ownsRow w.heap.size 9 1 v (turned (l.take k)).length (svals (turned (l.take k))) ∧ Below w.heap.size w wr) (fun _ i _ => l.length - (intOf i).toNat)
  case atStart => exact ⟨0, Nat.zero_le _, rfl, ⟨rfl, Or.inl ⟨rfl, rfl⟩⟩, Below.refl _ _⟩
  case round =>
    obtain ⟨k, hk, rfl, hown, hbel⟩ := hrel
    have hsz2 := hbel.size
    by_cases hlt : k < l.length
    · obtain ⟨b, off, rfl, hbl, hc⟩ := HS.out (by omega)
      have hkl : (k : Int) < (l.length : Int) := by omega
      have hck := (hbel.cell (p := ⟨b, off + k, none⟩) hbl).trans (hc k hlt)
      have HP := Lib.hid (turned_take l k hlt)
      have htl : (turned (l.take k)).length ≤ 1000000 := by have := turned_len (l.take k); rw [List.length_take] at this; omega
      have hxl := HX.out _ (List.getElem_mem hlt)
      have hze := str_emp0 l[k]
      have HTU := Lib.hid (fun X => rturn_any X l[k] hxl)
      have HO := Lib.hid hown
      have HB := Lib.hid hbel
      clear hc hown hbel
      generalize turned (l.take k) = q at *
      generalize l[k] = x at *
      by_cases h0 : x = []
      · rw [decide_eq_true h0] at hze
        have HH := Lib.hid h0
        clear h0
        go_wp2
        exact ⟨⟨k + 1, by omega, by go_num, by rw [HP.out, if_pos HH.out]; exact HO.out, HB.out⟩, by simp [intOf]; omega⟩
      · rw [decide_eq_false h0] at hze
        have HH := Lib.hid h0
        clear h0
        go_wp2_with (first
          | (go_at_call 33; (with_reducible refine (HTU.out _).mono ?_); rintro e w1 ⟨rfl, rfl⟩)
          | (at_builtin; refine app_ss rfl _ _ rfl w.heap.size _ _ _ x.reverse rfl (HO.out.alloc _) ⟨wr.heap.size, 0, none⟩ rfl (cell_new1 _ _ _) (by omega) (by simp; omega) ?_; intro v2 w2 hown3 hg3))
        refine ⟨⟨k + 1, by omega, by go_num, ?_, (HB.out.alloc hsz2 _).grown hg3 (by simp; omega) (fun q hq => own_ge HO.out hq)⟩, by simp [intOf]; omega⟩
        rw [HP.out, if_neg HH.out, List.length_append]
        exact hown3
    · obtain rfl : k = l.length := by omega
      rw [List.take_length] at hown
      obtain ⟨av, cv, rfl, hss, _, _⟩ := own_ss hown
      have HSS := Lib.hid hss
      have HB := Lib.hid hbel
      clear hss hown hbel
      go_wp2
      go_ret
      exact ⟨_, _, rfl, HSS.out, HB.out⟩
set_option maxHeartbeats 1000000 in
theorem rleast_any (w : World) (l : List Tx) (a : Option Addr) (cap : Nat) (hs : Ss w a l) (hl : l.length ≤ 1000000) :
    Calls Try.prog 36 #[.slice a l.length cap] w fun e w' => e = .returned (.int .i64 (leastTo l l.length : Int)) ∧ w = w' := by
  have HS := Lib.hid hs
  clear hs
  go_enter Try.func36, Try.ntmps36
  go_wp2
  go_loop [3, 4] (fun n i => ∃ k : Nat, k ≤ l.length ∧ i = .int .i64 k ∧ n = .int .i64 (leastTo l k : Int)) (fun _ i => l.length - (intOf i).toNat)
  case atStart => exact ⟨0, Nat.zero_le _, rfl, rfl⟩
  case round =>
    obtain ⟨k, hk, rfl, rfl⟩ := hrel
    by_cases hlt : k < l.length
    · obtain ⟨b, off, rfl, hbl, hc⟩ := HS.out (by omega)
      have hkl : (k : Int) < (l.length : Int) := by omega
      have hck := hc k hlt
      have hz := str_size l[k]
      have HP : Hid (leastTo l (k + 1) = if k = 0 ∨ l[k].length < leastTo l k then l[k].length else leastTo l k) := Lib.hid (by
        rw [leastTo, List.getD_eq_getElem?_getD, List.getElem?_eq_getElem hlt]; rfl)
      clear hc
      generalize leastTo l k = n at *
      generalize l[k] = x at *
      by_cases hk0 : k = 0
      · subst hk0
        simp only [Nat.add_zero] at hck
        go_wp2
        exact ⟨⟨1, by omega, rfl, by rw [HP.out, if_pos (.inl rfl)]⟩, by simp [intOf]; omega⟩
      · have hkb : ((k : Int) == 0) = false := by simpa using hk0
        by_cases hln : x.length < n
        · have hln2 : (x.length : Int) < (n : Int) := by omega
          go_wp2
          exact ⟨⟨k + 1, by omega, by go_num, by rw [HP.out, if_pos (.inr hln)]⟩, by simp [intOf]; omega⟩
        · have hln2 : ¬ (x.length : Int) < (n : Int) := by omega
          go_wp2
          exact ⟨⟨k + 1, by omega, by go_num, by rw [HP.out, if_neg (by omega)]⟩, by simp [intOf]; omega⟩
    · obtain rfl : k = l.length := by omega
      go_wp2
      go_ret
      exact ⟨rfl, rfl⟩
theorem u8_beq0 (x y : UInt8) : ((x.toNat : Int) == y.toNat) = (x == y) := by
  rw [Bool.eq_iff_iff]; simp only [beq_iff_eq]
  constructor
  · intro h; apply UInt8.toNat_inj.1; omega
  · rintro rfl; rfl
set_option maxHeartbeats 2000000 in
theorem rnear_any (w : World) (l : List Tx) (a : Option Addr) (cap : Nat) (hs : Ss w a l) (hl : l.length ≤ 1000000) (hx : ∀ x ∈ l, x.length ≤ 1000000) (c : UInt8) :
    Calls Try.prog 38 #[.slice a l.length cap, .int .u8 (c.toNat : Int)] w fun e w' => e = .returned (.int .i64 (nearOf l c : Int)) ∧ w = w' := by
  have HS := Lib.hid hs
  have HX := Lib.hid hx
  clear hs hx
  go_enter Try.func38, Try.ntmps38
  go_wp2
  go_loop [5, 6] (fun n i => ∃ k : Nat, k ≤ l.length ∧ i = .int .i64 k ∧ n = .int .i64 (nearTo l c k : Int)) (fun _ i => l.length - (intOf i).toNat)
  case atStart => exact ⟨0, Nat.zero_le _, rfl, rfl⟩
  case round =>
    obtain ⟨k, hk, rfl, rfl⟩ := hrel
    by_cases hlt : k < l.length
    · obtain ⟨b, off, rfl, hbl, hc⟩ := HS.out (by omega)
      have hkl : (k : Int) < (l.length : Int) := by omega
      have hck := hc k hlt
      have hz := str_size l[k]
      have hxl := HX.out _ (List.getElem_mem hlt)
      have HP : Hid (nearTo l c (k + 1) = nearRow l[k] c (nearTo l c k) l[k].length) := Lib.hid (by
        rw [nearTo, List.getD_eq_getElem?_getD, List.getElem?_eq_getElem hlt]; rfl)
      clear hc
      generalize nearTo l c k = n at *
      generalize l[k] = x at *
      go_wp2
      go_loop [5, 7] (fun n' j' => ∃ j : Nat, j ≤ x.length ∧ j' = .int .i64 j ∧ n' = .int .i64 (nearRow x c n j : Int)) (fun _ j' => x.length - (intOf j').toNat)
      case atStart => exact ⟨0, Nat.zero_le _, rfl, rfl⟩
      case round =>
        obtain ⟨j, hj, rfl, rfl⟩ := hrel
        by_cases hjx : j < x.length
        · have hjl : (j : Int) < (x.length : Int) := by omega
          have hya := str_at x j hjx
          have HR : Hid (nearRow x c n (j + 1) = nearStep (nearRow x c n j) j (x[j] == c)) := Lib.hid (by
            rw [nearRow, List.getD_eq_getElem?_getD, List.getElem?_eq_getElem hjx]; rfl)
          have hd := u8_beq0 x[j] c
          generalize nearRow x c n j = m at *
          generalize x[j] = y at *
          cases hyc : (y == c)
          · rw [hyc] at hd HR
            clear hyc
            have HRR : Hid (nearRow x c n (j + 1) = m) := Lib.hid (by rw [HR.out]; simp [nearStep])
            go_wp2
            exact ⟨⟨j + 1, by omega, by go_num, by rw [HRR.out]⟩, by simp [intOf]; omega⟩
          · rw [hyc] at hd HR
            clear hyc
            by_cases hm0 : m = 0 ∨ j + 1 < m
            · have HRR : Hid (nearRow x c n (j + 1) = j + 1) := Lib.hid (by rw [HR.out]; simp [nearStep, hm0])
              by_cases hm1 : m = 0
              · subst hm1
                clear hm0
                go_wp2
                exact ⟨⟨j + 1, by omega, by go_num, by rw [HRR.out]; go_num⟩, by simp [intOf]; omega⟩
              · have hmb : ((m : Int) == 0) = false := by simpa using hm1
                have hjm : (j : Int) + 1 < (m : Int) := by omega
                clear hm0
                go_wp2
                exact ⟨⟨j + 1, by omega, by go_num, by rw [HRR.out]; go_num⟩, by simp [intOf]; omega⟩
            · have HRR : Hid (nearRow x c n (j + 1) = m) := Lib.hid (by rw [HR.out]; simp [nearStep, hm0])
              have hm1 : ¬ m = 0 := fun h => hm0 (.inl h)
              have hmb : ((m : Int) == 0) = false := by simpa using hm1
              have hjm : ¬ (j : Int) + 1 < (m : Int) := by omega
              clear hm0
              go_wp2
              exact ⟨⟨j + 1, by omega, by go_num, by rw [HRR.out]⟩, by simp [intOf]; omega⟩
        · have hjl : ¬ (j : Int) < (x.length : Int) := by omega
          obtain rfl : j = x.length := by omega
          go_wp2
          exact ⟨⟨k + 1, by omega, by go_num, by rw [HP.out]⟩, by simp [intOf]; omega⟩
    · obtain rfl : k = l.length := by omega
      go_wp2
      go_ret
      exact ⟨rfl, rfl⟩
end Go.Proofs.Ytgdpelpepgpegaa.Bck
