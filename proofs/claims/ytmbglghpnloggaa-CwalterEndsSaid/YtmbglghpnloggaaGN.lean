/- Package by package: Hb. -/
import Derived.Test.YtmbglghpnloggaaGH
/- The reference: ahead, First, Second, Far, Paths. -/
namespace Go.Proofs.Ytmbglghpnloggaa.Shf
open Go.Proofs.Ytmbglghpnloggaa.Tri Go.Proofs.Ytmbglghpnloggaa.Cwl Go.Proofs.Ytmbglghpnloggaa.Bck Go.Proofs.Ytmbglghpnloggaa.Shf Go.Proofs.Ytmbglghpnloggaa.Reg Go.RowKit Go.Maps
set_option maxRecDepth 100000
set_option linter.unusedVariables false

theorem str_take0 (x : Tx) (k : Nat) : (str x).extract 0 k = str (x.take k) := Tri.str_take x k
set_option maxHeartbeats 1000000 in
theorem rahead_any (w : World) (a v : Tx) (ha : a.length ≤ 1000000) (hv : v.length ≤ 1000000) : Calls Try.prog 69 #[.string (str a), .string (str v)] w fun e w' => e = .returned (.int .i64 (Cwl.ahead a v : Int)) ∧ w = w' := by
  have hz := str_size a
  have hz2 := str_size v
  by_cases h1 : v.length < a.length
  · have h1i : (v.length : Int) < (a.length : Int) := by omega
    have hlei : (v.length : Int) ≤ (a.length : Int) := by omega
    have htk := str_take0 a v.length
    have hbe := str_beq (a.take v.length) v
    obtain ⟨D, hD⟩ : ∃ D, D = a.length - v.length := ⟨_, rfl⟩
    have hwD : IntKind.i64.wrap ((a.length : Int) - (v.length : Int)) = (D : Int) := by rw [IntWalk.i64_in _ (by omega)]; omega
    by_cases h2 : a.take v.length = v
    · have HA : Hid (Cwl.ahead a v = D) := Lib.hid (by rw [Cwl.ahead, if_pos ⟨h1, h2⟩, hD])
      rw [decide_eq_true h2] at hbe
      clear h2 hD
      go_enter Try.func69, Try.ntmps69
      go_wp2
      go_ret
      exact ⟨ret_int (by rw [HA.out]), rfl⟩
    · have HA : Hid (Cwl.ahead a v = 0) := Lib.hid (by rw [Cwl.ahead, if_neg (fun h => h2 h.2)])
      rw [decide_eq_false h2] at hbe
      clear h2 hD
      go_enter Try.func69, Try.ntmps69
      go_wp2
      go_ret
      exact ⟨ret_int (by rw [HA.out]; rfl), rfl⟩
  · have h1i : ¬ (v.length : Int) < (a.length : Int) := by omega
    have HA : Hid (Cwl.ahead a v = 0) := Lib.hid (by rw [Cwl.ahead, if_neg (fun h => h1 h.1)])
    go_enter Try.func69, Try.ntmps69
    go_wp2
    go_ret
    exact ⟨ret_int (by rw [HA.out]; rfl), rfl⟩
/-- One number more. -/
theorem min_take {α : Type} (a : Nat) (ls : List α) (f : α → Nat) (i : Nat) (h : i < ls.length) : minOver a ((ls.take (i + 1)).map f) = if 0 < f ls[i] ∧ f ls[i] < minOver a ((ls.take i).map f) then f ls[i] else minOver a ((ls.take i).map f) := by
  rw [List.take_succ_eq_append_getElem h, List.map_append, List.map_singleton, min_snoc]
set_option maxHeartbeats 2000000 in
theorem rfirst_any (w : World) (l p : List Tx) (aT aP : Option Addr) (cT cP : Nat) (hsT : Ss w aT l) (hsP : Ss w aP p) (hl : l.length ≤ 1000000) (hp : p.length ≤ 1000000) (hl0 : ∀ x ∈ l, 0 < x.length) (hpx : ∀ x ∈ p, x.length ≤ 1000000) (s : Tx) (hs : s.length ≤ 1000000) :
    Calls Try.prog 68 #[.slice aT l.length cT, .slice aP p.length cP, .string (str s)] w fun e w' => e = .returned (.int .i64 (firstOf l p s : Int)) ∧ w = w' := by
  have HL := Lib.hid (rleast_any w l aT cT hsT hl)
  have HLE := Lib.hid (leastTo_is hl0)
  have HTS := Lib.hid (rturn_any w s hs)
  have HSP := Lib.hid hsP
  have HPX := Lib.hid hpx
  clear hsT hsP hl0 hpx
  go_enter Try.func68, Try.ntmps68
  go_wp2_with fail
  refine HL.out.mono ?_
  rintro e w' ⟨rfl, rfl⟩
  rw [HLE.out]
  go_wp2_with fail
  refine HTS.out.mono ?_
  rintro e w' ⟨rfl, rfl⟩
  go_wp2
  go_loop [7, 9] (fun vm v => ∃ i : Nat, i ≤ p.length ∧ vm = .int .i64 (minOver (Cwl.leastOf l) ((p.take i).map fun q => Cwl.ahead q.reverse s.reverse) : Int) ∧ v = .int .i64 (i : Int)) (fun _ v => p.length - (intOf v).toNat)
  case atStart => exact ⟨0, Nat.zero_le _, rfl, rfl⟩
  case round =>
    obtain ⟨i, hi, rfl, rfl⟩ := hrel
    by_cases hlt : i < p.length
    · have hil : (i : Int) < (p.length : Int) := by omega
      obtain ⟨b, off, rfl, hbl, hc⟩ := HSP.out (by omega)
      have hck := hc i hlt
      have hxl := HPX.out _ (List.getElem_mem hlt)
      have HM := Lib.hid (min_take (Cwl.leastOf l) p (fun q => Cwl.ahead q.reverse s.reverse) i hlt)
      have HT := Lib.hid (rturn_any w p[i] hxl)
      have HA := Lib.hid (rahead_any w p[i].reverse s.reverse (by rw [List.length_reverse]; exact hxl) (by rw [List.length_reverse]; exact hs))
      clear hc
      generalize minOver (Cwl.leastOf l) ((p.take i).map fun q => Cwl.ahead q.reverse s.reverse) = m at *
      generalize Cwl.ahead p[i].reverse s.reverse = k at *
      generalize p[i] = x at *
      go_wp2_with fail
      refine HT.out.mono ?_
      rintro e w' ⟨rfl, rfl⟩
      go_wp2_with fail
      refine HA.out.mono ?_
      rintro e w' ⟨rfl, rfl⟩
      clear HT HA
      by_cases hk0 : 0 < k
      · have hk1 : (0 : Int) < (k : Int) := by omega
        by_cases hkm : k < m
        · have hkm1 : (k : Int) < (m : Int) := by omega
          have HR : Hid (_ = k) := Lib.hid (HM.out.trans (if_pos ⟨hk0, hkm⟩))
          go_wp2
          exact ⟨⟨i + 1, by omega, by rw [HR.out], by go_num⟩, by simp [intOf]; omega⟩
        · have hkm1 : ¬ (k : Int) < (m : Int) := by omega
          have HR : Hid (_ = m) := Lib.hid (HM.out.trans (if_neg fun h => hkm h.2))
          go_wp2
          exact ⟨⟨i + 1, by omega, by rw [HR.out], by go_num⟩, by simp [intOf]; omega⟩
      · obtain rfl : k = 0 := by omega
        have HR : Hid (_ = m) := Lib.hid (HM.out.trans (if_neg fun h => hk0 h.1))
        go_wp2
        exact ⟨⟨i + 1, by omega, by rw [HR.out], by go_num⟩, by simp [intOf]; omega⟩
    · obtain rfl : i = p.length := by omega
      rw [List.take_length]
      go_wp2
      go_ret
      exact ⟨rfl, rfl⟩
theorem min_append (a : Nat) (ks js : List Nat) : minOver a (ks ++ js) = minOver (minOver a ks) js := by unfold minOver; rw [List.foldl_append]
def sndTo (l : List Tx) (s : Tx) (n : Nat) : Nat := minOver (Cwl.leastOf l) ((List.range n).flatMap fun n => l.map fun x => Cwl.ahead x.reverse (s.take n).reverse)
theorem sndTo_succ (l : List Tx) (s : Tx) (n : Nat) : sndTo l s (n + 1) = minOver (sndTo l s n) (l.map fun x => Cwl.ahead x.reverse (s.take n).reverse) := by
  unfold sndTo
  rw [List.range_succ, List.flatMap_append, min_append]
  simp
set_option maxHeartbeats 4000000 in
theorem rsecond_any (w : World) (l : List Tx) (aT : Option Addr) (cT : Nat) (hsT : Ss w aT l) (hl : l.length ≤ 1000000) (hl0 : ∀ x ∈ l, 0 < x.length) (hlx : ∀ x ∈ l, x.length ≤ 1000000) (s : Tx) (hs : s.length ≤ 1000000) :
    Calls Try.prog 35 #[.slice aT l.length cT, .string (str s)] w fun e w' => e = .returned (.int .i64 (secondOf l s : Int)) ∧ w = w' := by
  have HL := Lib.hid (rleast_any w l aT cT hsT hl)
  have HLE := Lib.hid (leastTo_is hl0)
  have HST := Lib.hid hsT
  have HLX := Lib.hid hlx
  have hz := str_size s
  clear hsT hl0 hlx
  go_enter Try.func35, Try.ntmps35
  go_wp2_with fail
  refine HL.out.mono ?_
  rintro e w' ⟨rfl, rfl⟩
  rw [HLE.out]
  go_wp2
  go_loop [5, 6] (fun vm v => ∃ n : Nat, n ≤ s.length + 1 ∧ vm = .int .i64 (sndTo l s n : Int) ∧ v = .int .i64 (n : Int)) (fun _ v => s.length + 1 - (intOf v).toNat)
  case atStart => exact ⟨0, Nat.zero_le _, rfl, rfl⟩
  case round =>
    obtain ⟨n, hn, rfl, rfl⟩ := hrel
    by_cases hle : n ≤ s.length
    · have hnl : (n : Int) ≤ (s.length : Int) := by omega
      have htk := str_take0 s n
      have HTU := Lib.hid (rturn_any w (s.take n) (by rw [List.length_take]; omega))
      have hul : (s.take n).reverse.length ≤ 1000000 := by rw [List.length_reverse, List.length_take]; omega
      have HSU := Lib.hid (sndTo_succ l s n)
      generalize sndTo l s n = m0 at *
      generalize s.take n = st at *
      go_wp2_with fail
      refine HTU.out.mono ?_
      rintro e w' ⟨rfl, rfl⟩
      clear HTU
      generalize st.reverse = u at *
      go_wp2
      go_loop [5, 8] (fun vm v => ∃ i : Nat, i ≤ l.length ∧ vm = .int .i64 (minOver m0 ((l.take i).map fun x => Cwl.ahead x.reverse u) : Int) ∧ v = .int .i64 (i : Int)) (fun _ v => l.length - (intOf v).toNat)
      case atStart => exact ⟨0, Nat.zero_le _, rfl, rfl⟩
      case round =>
        obtain ⟨i, hi, rfl, rfl⟩ := hrel
        by_cases hlt : i < l.length
        · have hil : (i : Int) < (l.length : Int) := by omega
          obtain ⟨b, off, rfl, hbl, hc⟩ := HST.out (by omega)
          have hck := hc i hlt
          have hxl := HLX.out _ (List.getElem_mem hlt)
          have HM := Lib.hid (min_take m0 l (fun x => Cwl.ahead x.reverse u) i hlt)
          have HT := Lib.hid (rturn_any w l[i] hxl)
          have HA := Lib.hid (rahead_any w l[i].reverse u (by rw [List.length_reverse]; exact hxl) hul)
          clear hc
          generalize minOver m0 ((l.take i).map fun x => Cwl.ahead x.reverse u) = m at *
          generalize Cwl.ahead l[i].reverse u = k at *
          generalize l[i] = x at *
          go_wp2_with fail
          refine HT.out.mono ?_
          rintro e w' ⟨rfl, rfl⟩
          go_wp2_with fail
          refine HA.out.mono ?_
          rintro e w' ⟨rfl, rfl⟩
          clear HT HA
          by_cases hk0 : 0 < k
          · have hk1 : (0 : Int) < (k : Int) := by omega
            by_cases hkm : k < m
            · have hkm1 : (k : Int) < (m : Int) := by omega
              have HR : Hid (_ = k) := Lib.hid (HM.out.trans (if_pos ⟨hk0, hkm⟩))
              go_wp2
              exact ⟨⟨i + 1, by omega, by rw [HR.out], by go_num⟩, by simp [intOf]; omega⟩
            · have hkm1 : ¬ (k : Int) < (m : Int) := by omega
              have HR : Hid (_ = m) := Lib.hid (HM.out.trans (if_neg fun h => hkm h.2))
              go_wp2
              exact ⟨⟨i + 1, by omega, by rw [HR.out], by go_num⟩, by simp [intOf]; omega⟩
          · obtain rfl : k = 0 := by omega
            have HR : Hid (_ = m) := Lib.hid (HM.out.trans (if_neg fun h => hk0 h.1))
            go_wp2
            exact ⟨⟨i + 1, by omega, by rw [HR.out], by go_num⟩, by simp [intOf]; omega⟩
        · have hil : ¬ (i : Int) < (l.length : Int) := by omega
          obtain rfl : i = l.length := by omega
          rw [List.take_length]
          go_wp2
          exact ⟨⟨n + 1, by omega, by rw [HSU.out], by go_num⟩, by simp [intOf]; omega⟩
    · have hnl : ¬ (n : Int) ≤ (s.length : Int) := by omega
      obtain rfl : n = s.length + 1 := by omega
      have hS : sndTo l s (s.length + 1) = secondOf l s := rfl
      rw [hS]
      go_wp2
      go_ret
      exact ⟨rfl, rfl⟩
theorem nearK_near (l : List Tx) (c : UInt8) : nearK l c = if 0 < nearOf l c ∧ nearOf l c < Cwl.leastOf l + 1 then nearOf l c else Cwl.leastOf l + 1 := by
  have hmem : ∀ k, k ∈ nearAll l c → 0 < k → ∃ x ∈ l, x[k - 1]? = some c := by
    intro k hk h0
    unfold nearAll at hk
    obtain ⟨x, hx, hk⟩ := List.mem_flatMap.1 hk
    obtain ⟨i, hi, rfl⟩ := List.mem_map.1 hk
    split at h0
    · rename_i h
      refine ⟨x, hx, ?_⟩
      rw [if_pos h, Nat.add_sub_cancel]
      exact h
    · omega
  have hin : ∀ x ∈ l, ∀ i : Nat, x[i]? = some c → i + 1 ∈ nearAll l c := by
    intro x hx i hi
    unfold nearAll
    refine List.mem_flatMap.2 ⟨x, hx, List.mem_map.2 ⟨i, List.mem_range.2 (List.getElem?_eq_some_iff.1 hi).1, if_pos hi⟩⟩
  unfold nearK
  have h1 := min_le (Cwl.leastOf l + 1) (nearAll l c)
  have h2 := min_is (Cwl.leastOf l + 1) (nearAll l c)
  have h3 := min_mem (Cwl.leastOf l + 1) (nearAll l c)
  rcases nearOf_near l c with ⟨h0, hno⟩ | ⟨h0, ⟨x, hx, hn⟩, hle⟩
  · rw [if_neg (by omega)]
    rcases h2 with h2 | ⟨k, hk, hk0, _⟩
    · exact h2
    · obtain ⟨x, hx, hc⟩ := hmem k hk hk0
      exact absurd hc (hno x hx _)
  · have hm := h3 (nearOf l c) (by have := hin x hx _ hn; rwa [Nat.sub_add_cancel (by omega)] at this) h0
    rcases h2 with h2 | ⟨k, hk, hk0, h2⟩
    · split <;> omega
    · obtain ⟨y, hy, hc⟩ := hmem k hk hk0
      have := hle y hy _ hc
      split <;> omega
set_option maxHeartbeats 2000000 in
theorem rfar_any (w : World) (l p : List Tx) (aT aP : Option Addr) (cT cP : Nat) (hsT : Ss w aT l) (hsP : Ss w aP p) (hl : l.length ≤ 1000000) (hp : p.length ≤ 1000000) (hl0 : ∀ x ∈ l, 0 < x.length) (hlx : ∀ x ∈ l, x.length ≤ 1000000) (hpx : ∀ x ∈ p, x.length ≤ 1000000) (s : Tx) (hs : s.length ≤ 1000000) (c : UInt8) :
    Calls Try.prog 34 #[.slice aT l.length cT, .slice aP p.length cP, .string (str s), .int .u8 (c.toNat : Int)] w fun e w' => e = .returned (.int .i64 (farOf l p s c : Int)) ∧ w = w' := by
  have hz := str_size s
  by_cases hl1 : l = []
  · subst hl1
    have HF : Hid (farOf [] p s c = 0) := Lib.hid (by unfold farOf; exact if_pos rfl)
    go_enter Try.func34, Try.ntmps34
    go_wp2
    go_ret
    exact ⟨by rw [HF.out]; rfl, rfl⟩
  · have hlp := List.length_pos_iff.2 hl1
    have hlb : ((l.length : Int) == 0) = false := by simp; omega
    have HLE := Lib.hid (rleast_any w l aT cT hsT hl)
    have HL2 := Lib.hid (leastTo_is hl0)
    have HN := Lib.hid (rnear_any w l aT cT hsT hl hlx c)
    have HF := Lib.hid (rfirst_any w l p aT aP cT cP hsT hsP hl hp hl0 hpx s hs)
    have HS := Lib.hid (rsecond_any w l aT cT hsT hl hl0 hlx s hs)
    have HK := Lib.hid (nearK_near l c)
    have HR : Hid (farOf l p s c = min (secondOf l s) (max (firstOf l p s) (nearK l c - s.length - 1))) := Lib.hid (by unfold farOf; exact if_neg hl1)
    have hmb : Cwl.leastOf l ≤ 1000000 := by
      obtain ⟨x, hx, e⟩ := Cwl.least_is hl1
      rw [e]; exact hlx x hx
    have hfb := first_le l p s
    have hsb := second_le l s
    clear hsT hsP hl0 hlx hpx hl1
    generalize nearK l c = kk at *
    generalize firstOf l p s = f at *
    generalize secondOf l s = d at *
    go_enter Try.func34, Try.ntmps34
    go_wp2_with fail
    refine HLE.out.mono ?_
    rintro e w' ⟨rfl, rfl⟩
    rw [HL2.out]
    go_wp2_with fail
    refine HN.out.mono ?_
    rintro e w' ⟨rfl, rfl⟩
    clear HN HLE HL2
    generalize Cwl.leastOf l = m at *
    have HKK : Hid (kk = if 0 < nearOf l c ∧ nearOf l c < m + 1 then nearOf l c else m + 1) := HK
    clear HK
    generalize nearOf l c = n at *
    by_cases hn0 : 0 < n
    · have hn1 : (0 : Int) < (n : Int) := by omega
      by_cases hnm : n < m + 1
      · have hnm1 : (n : Int) < (m : Int) + 1 := by omega
        have HKV : Hid (kk = n) := Lib.hid (by rw [HKK.out]; exact if_pos ⟨hn0, hnm⟩)
        obtain ⟨D1, hD1⟩ : ∃ D1 : Int, D1 = (n : Int) - (s.length : Int) := ⟨_, rfl⟩
        obtain ⟨D, hD⟩ : ∃ D : Int, D = D1 - 1 := ⟨_, rfl⟩
        have hw1 : IntKind.i64.wrap ((n : Int) - (s.length : Int)) = D1 := by rw [IntWalk.i64_in _ (by omega)]; omega
        have hw2 : IntKind.i64.wrap (D1 - 1) = D := by rw [IntWalk.i64_in _ (by omega)]; omega
        have HD := Lib.hid (And.intro hD1 hD)
        clear hD1 hD
        go_wp2_with fail
        refine HF.out.mono ?_
        rintro e w' ⟨rfl, rfl⟩
        by_cases hfd : D < (f : Int)
        · go_wp2_with fail
          refine HS.out.mono ?_
          rintro e w' ⟨rfl, rfl⟩
          by_cases hdz : (d : Int) < (f : Int)
          · have HV : Hid ((farOf l p s c : Int) = (d : Int)) := Lib.hid (by rw [HR.out]; have := HKV.out; have := HD.out; omega)
            go_wp2
            go_ret
            exact ⟨by rw [HV.out]; rfl, rfl⟩
          · have HV : Hid ((farOf l p s c : Int) = (f : Int)) := Lib.hid (by rw [HR.out]; have := HKV.out; have := HD.out; omega)
            go_wp2
            go_ret
            exact ⟨by rw [HV.out]; rfl, rfl⟩
        · go_wp2_with fail
          refine HS.out.mono ?_
          rintro e w' ⟨rfl, rfl⟩
          by_cases hdz : (d : Int) < D
          · have HV : Hid ((farOf l p s c : Int) = (d : Int)) := Lib.hid (by rw [HR.out]; have := HKV.out; have := HD.out; omega)
            go_wp2
            go_ret
            exact ⟨by rw [HV.out]; rfl, rfl⟩
          · have HV : Hid ((farOf l p s c : Int) = D) := Lib.hid (by rw [HR.out]; have := HKV.out; have := HD.out; omega)
            go_wp2
            go_ret
            exact ⟨by rw [HV.out]; rfl, rfl⟩
      · have hnm1 : ¬ (n : Int) < (m : Int) + 1 := by omega
        have HKV : Hid (kk = m + 1) := Lib.hid (by rw [HKK.out]; exact if_neg fun h => hnm h.2)
        obtain ⟨D1, hD1⟩ : ∃ D1 : Int, D1 = ((m : Int) + 1) - (s.length : Int) := ⟨_, rfl⟩
        obtain ⟨D, hD⟩ : ∃ D : Int, D = D1 - 1 := ⟨_, rfl⟩
        have hw1 : IntKind.i64.wrap (((m : Int) + 1) - (s.length : Int)) = D1 := by rw [IntWalk.i64_in _ (by omega)]; omega
        have hw2 : IntKind.i64.wrap (D1 - 1) = D := by rw [IntWalk.i64_in _ (by omega)]; omega
        have HD := Lib.hid (And.intro hD1 hD)
        clear hD1 hD
        go_wp2_with fail
        refine HF.out.mono ?_
        rintro e w' ⟨rfl, rfl⟩
        by_cases hfd : D < (f : Int)
        · go_wp2_with fail
          refine HS.out.mono ?_
          rintro e w' ⟨rfl, rfl⟩
          by_cases hdz : (d : Int) < (f : Int)
          · have HV : Hid ((farOf l p s c : Int) = (d : Int)) := Lib.hid (by rw [HR.out]; have := HKV.out; have := HD.out; omega)
            go_wp2
            go_ret
            exact ⟨by rw [HV.out]; rfl, rfl⟩
          · have HV : Hid ((farOf l p s c : Int) = (f : Int)) := Lib.hid (by rw [HR.out]; have := HKV.out; have := HD.out; omega)
            go_wp2
            go_ret
            exact ⟨by rw [HV.out]; rfl, rfl⟩
        · go_wp2_with fail
          refine HS.out.mono ?_
          rintro e w' ⟨rfl, rfl⟩
          by_cases hdz : (d : Int) < D
          · have HV : Hid ((farOf l p s c : Int) = (d : Int)) := Lib.hid (by rw [HR.out]; have := HKV.out; have := HD.out; omega)
            go_wp2
            go_ret
            exact ⟨by rw [HV.out]; rfl, rfl⟩
          · have HV : Hid ((farOf l p s c : Int) = D) := Lib.hid (by rw [HR.out]; have := HKV.out; have := HD.out; omega)
            go_wp2
            go_ret
            exact ⟨by rw [HV.out]; rfl, rfl⟩
    · obtain rfl : n = 0 := by omega
      have HKV : Hid (kk = m + 1) := Lib.hid (by rw [HKK.out]; exact if_neg fun h => hn0 h.1)
      obtain ⟨D1, hD1⟩ : ∃ D1 : Int, D1 = ((m : Int) + 1) - (s.length : Int) := ⟨_, rfl⟩
      obtain ⟨D, hD⟩ : ∃ D : Int, D = D1 - 1 := ⟨_, rfl⟩
      have hw1 : IntKind.i64.wrap (((m : Int) + 1) - (s.length : Int)) = D1 := by rw [IntWalk.i64_in _ (by omega)]; omega
      have hw2 : IntKind.i64.wrap (D1 - 1) = D := by rw [IntWalk.i64_in _ (by omega)]; omega
      have HD := Lib.hid (And.intro hD1 hD)
      clear hD1 hD
      go_wp2_with fail
      refine HF.out.mono ?_
      rintro e w' ⟨rfl, rfl⟩
      by_cases hfd : D < (f : Int)
      · go_wp2_with fail
        refine HS.out.mono ?_
        rintro e w' ⟨rfl, rfl⟩
        by_cases hdz : (d : Int) < (f : Int)
        · have HV : Hid ((farOf l p s c : Int) = (d : Int)) := Lib.hid (by rw [HR.out]; have := HKV.out; have := HD.out; omega)
          go_wp2
          go_ret
          exact ⟨by rw [HV.out]; rfl, rfl⟩
        · have HV : Hid ((farOf l p s c : Int) = (f : Int)) := Lib.hid (by rw [HR.out]; have := HKV.out; have := HD.out; omega)
          go_wp2
          go_ret
          exact ⟨by rw [HV.out]; rfl, rfl⟩
      · go_wp2_with fail
        refine HS.out.mono ?_
        rintro e w' ⟨rfl, rfl⟩
        by_cases hdz : (d : Int) < D
        · have HV : Hid ((farOf l p s c : Int) = (d : Int)) := Lib.hid (by rw [HR.out]; have := HKV.out; have := HD.out; omega)
          go_wp2
          go_ret
          exact ⟨by rw [HV.out]; rfl, rfl⟩
        · have HV : Hid ((farOf l p s c : Int) = D) := Lib.hid (by rw [HR.out]; have := HKV.out; have := HD.out; omega)
          go_wp2
          go_ret
          exact ⟨by rw [HV.out]; rfl, rfl⟩
end Go.Proofs.Ytmbglghpnloggaa.Shf
