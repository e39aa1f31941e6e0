/- The walk of the law FoldRaw. -/
import Derived.Test.YtobkljjbemfkeaaLists
import Derived.Deep.DeepCutAuto
import Derived.Deep.RegionHeld3
import Derived.IntWalk
namespace Go.Proofs.Ytobkljjbemfkeaa.foldRaw
open Go.RowKit

theorem len_any' (N : Nat) (w : World) :
    Calls Try.prog 23 #[setV N] w fun e w' => e = .returned (.int .i64 (((listTo N 256).length : Nat) : Int)) ∧ Below w.heap.size w w' := by
  rw [← len_list]; exact len_any N w

set_option maxRecDepth 100000 in
set_option maxHeartbeats 8000000 in
theorem walk (w : World) (N : Nat) (hN : N < 2 ^ 256) (c : UInt8) :
    Calls Try.prog 7 #[setV N, .int .u8 c.toNat] w fun e w' => e = .returned (.bool true) ∧ Below w.heap.size w w' := by
  obtain ⟨L, hL⟩ : ∃ L, L = listTo N 256 := ⟨_, rfl⟩
  have HL := Lib.hid hL
  have hll : L.length ≤ 256 := by rw [hL]; exact listTo_le N 256
  have HLI : Hid (∀ w : World, Calls Try.prog 24 #[setV N] w (GivesBytes w L)) := fun w => by rw [hL]; exact list_any N w
  have HLE : Hid (∀ w : World, Calls Try.prog 23 #[setV N] w fun e w' => e = .returned (.int .i64 (L.length : Int)) ∧ Below w.heap.size w w') := fun w => by rw [hL]; exact len_any' N w
  have HOF : Hid (∀ (a : Option Addr) (cap : Nat) (w : World), Bs w w.heap.size a L → Calls Try.prog 17 #[.slice a L.length cap] w fun e w' => e = .returned (setV N) ∧ Below w.heap.size w w') := fun a cap w h => by
    have h1 := of_any L a cap w (by omega) h
    have e : setOf L = N := by rw [hL]; exact set_list N hN
    rw [e] at h1; exact h1
  clear hL
  have hq := fun W => neq_sets hN hN W
  rw [setV_eq, beq_self_eq_true, Bool.not_true] at hq
  have HH : Hid (∀ w : World, Calls Try.prog 21 #[setV N, .int .u8 c.toNat] w fun e w' => e = .returned (.bool (N.testBit c.toNat)) ∧ Below w.heap.size w w') := fun w => has_any N c.toNat w c.toNat_lt
  rw [setV_eq N]
  go_enter Try.func7, Try.ntmps7
  go_wp2_with fail
  go_at_call 9
  refine (awake_any _).mono ?_
  rintro e w1 ⟨rfl, hb1⟩
  have s1 : Blk4 w1 w.heap.size N := (Blk4.made w N).keep hb1 (Blk4.made w N).lt
  have B1 : Below w.heap.size w w1 := ((Below.refl _ _).alloc (Nat.le_refl _) _).trans (hb1.mono (by simp))
  clear hb1
  obtain ⟨c0, c1, c2, c3⟩ := s1.cells
  go_wp2_with fail
  clear c0 c1 c2 c3
  go_at_call 24
  refine (HLI.out w1).mono ?_
  rintro e w2 ⟨a2, cap2, rfl, hb2, hbel2⟩
  have s2 : Blk4 w2 w.heap.size N := s1.keep hbel2 s1.lt
  have B2 : Below w.heap.size w w2 := B1.trans (hbel2.mono B1.size)
  clear hbel2 s1 B1
  go_upto_region 5 with fail
  go_cut [26] (fun s26 wx => s26 = .bool false ∧ Below w2.heap.size w2 wx)
  case first =>
    have sD : Blk4 w2.drew w.heap.size N := s2
    have hD : Bs w2.drew w2.drew.heap.size a2 L := hb2
    obtain ⟨c0, c1, c2, c3⟩ := sD.cells
    go_region_with (first
      | (go_at_call 23; refine (HLE.out _).mono ?_; rintro e w3 ⟨rfl, hb3⟩; obtain ⟨d0, d1, d2, d3⟩ := (sD.keep hb3 sD.lt).cells)
      | (go_at_call 17; refine (HOF.out a2 cap2 _ ((hD.keep hb3).more hb3.size)).mono ?_; rintro e w4 ⟨rfl, hb4⟩; rw [setV_eq]; obtain ⟨e0, e1, e2, e3⟩ := ((sD.keep hb3 sD.lt).keep hb4 (sD.keep hb3 sD.lt).lt).cells))
    all_goals
      go_wp2_with fail
      go_meet
      exact ⟨rfl, ((Below.refl w2.heap.size w2).drew.trans hb3).trans (hb4.mono hb3.size)⟩
  case rest =>
    obtain ⟨rfl, hbx⟩ := hcut
    clear hq
    go_wp2
    go_loopw [7, 8] (fun n i wr => ∃ k : Nat, k ≤ 256 ∧ i = .int .i64 k ∧ n = .int .i64 ((listTo N k).length : Nat) ∧ Below w2.heap.size w2 wr) (fun _ i _ => 256 - (intOf i).toNat)
    case atStart => exact ⟨0, Nat.zero_le _, rfl, rfl, hbx⟩
    case round =>
      obtain ⟨k, hk, rfl, rfl, hbr⟩ := hrel
      have sr : Blk4 wr w.heap.size N := s2.keep hbr s2.lt
      obtain ⟨c0, c1, c2, c3⟩ := sr.cells
      by_cases hlt : k < 256
      · have hle := listTo_le N k
        cases hbk : N.testBit k with
        | true =>
          have hat := list_at N k hlt hbk
          rw [← HL.out] at hat
          have HY := Lib.hid (listTo_yes N k hbk)
          have HBK := Lib.hid hbk
          clear hbk
          obtain ⟨n, hn⟩ : ∃ n, n = (listTo N k).length := ⟨_, rfl⟩
          rw [← hn] at hat hle ⊢
          have HN := Lib.hid hn
          clear hn
          obtain ⟨hnl, hat'⟩ := List.getElem?_eq_some_iff.1 hat
          clear hat
          obtain ⟨b2, o2, ha2, hbl2, hc2⟩ := hb2 (by omega)
          subst ha2
          have hcx : ∀ W, Below w2.heap.size w2 W → W.cell? ⟨b2, o2 + n, none⟩ = some (.int .u8 (k : Int)) := fun W hW => by
            rw [hW.cell (p := ⟨b2, o2 + n, none⟩) hbl2, hc2 n hnl, hat', nat_u8 k hlt]
          have HCX := Lib.hid hcx
          clear hcx hat' hc2
          go_wp2_with (go_at_call 21; refine (has_any N k _ hlt).mono ?_; rintro e w3 ⟨rfl, hw3⟩; rw [HBK.out]; have hcc := HCX.out w3 (hbr.trans (hw3.mono hbr.size)))
          go_roundw
          case rel => exact ⟨k + 1, by omega, by go_num, by rw [HY.out, List.length_append, ← HN.out]; go_num, hbr.trans (hw3.mono hbr.size)⟩
          case measure => simp [intOf]; omega
        | false =>
          have HY := Lib.hid (listTo_no N k hbk)
          have HBK := Lib.hid hbk
          clear hbk
          go_wp2_with (go_at_call 21; refine (has_any N k _ hlt).mono ?_; rintro e w3 ⟨rfl, hw3⟩; rw [HBK.out])
          go_roundw
          case rel => exact ⟨k + 1, by omega, by go_num, by rw [HY.out], hbr.trans (hw3.mono hbr.size)⟩
          case measure => simp [intOf]; omega
      · obtain rfl : k = 256 := by omega
        rw [← HL.out]
        obtain ⟨M, hM⟩ : ∃ M, M = N ||| 2 ^ c.toNat := ⟨_, rfl⟩
        have hMlt : M < 2 ^ 256 := by rw [hM]; exact with_lt hN c.toNat_lt
        have hq := fun W => eql_sets hMlt hMlt W
        rw [setV_eq, beq_self_eq_true] at hq
        have HWI : Hid (∀ w : World, Calls Try.prog 19 #[setV N, .int .u8 c.toNat] w fun e w' => e = .returned (setV M) ∧ Below w.heap.size w w') := fun w => by rw [hM]; exact with_any N c.toNat w c.toNat_lt
        have HMH : Hid (∀ w : World, Calls Try.prog 21 #[setV M, .int .u8 c.toNat] w fun e w' => e = .returned (.bool true) ∧ Below w.heap.size w w') := fun w => by
          have h := has_any M c.toNat w c.toNat_lt
          rw [hM, with_has, ← hM] at h; exact h
        have HMU : Hid (∀ w : World, Calls Try.prog 18 #[setV M, setV N] w fun e w' => e = .returned (setV M) ∧ Below w.heap.size w w') := fun w => by
          have h := union_any M N w
          have e : M ||| N = M := by rw [hM]; exact with_union N _
          rw [e] at h; exact h
        have hlen := with_len N c.toNat c.toNat_lt
        rw [← hM, ← HL.out] at hlen
        obtain ⟨more, hmore⟩ : ∃ more, more = if N.testBit c.toNat = true then 0 else 1 := ⟨_, rfl⟩
        rw [← hmore] at hlen
        have HML : Hid (∀ w : World, Calls Try.prog 23 #[setV M] w fun e w' => e = .returned (.int .i64 ((L.length + more : Nat) : Int)) ∧ Below w.heap.size w w') := fun w => by rw [← hlen]; exact len_any M w
        have hm2 : more ≤ 1 := by rw [hmore]; split <;> omega
        clear hlen hM
        obtain ⟨tb, htb⟩ : ∃ tb, tb = N.testBit c.toNat := ⟨_, rfl⟩
        rw [← htb] at HH hmore
        clear htb
        have hpost : ∀ W, Below w2.heap.size w2 W → Below w.heap.size w W := fun W h => B2.trans (h.mono B2.size)
        have HP := Lib.hid hpost
        clear hpost
        go_wp2_with fail
        go_at_call 19
        refine (HWI.out wr).mono ?_
        rintro e w4 ⟨rfl, hb4⟩
        rw [setV_eq]
        have s4 : Blk4 w4 w.heap.size N := sr.keep hb4 sr.lt
        have s5 : Blk4 (w4.alloc (.cells #[.int .u64 (wd M 0), .int .u64 (wd M 1), .int .u64 (wd M 2), .int .u64 (wd M 3)] 31)) w.heap.size N := s4.keep (B := w4.heap.size) ((Below.refl _ _).alloc (Nat.le_refl _) _) s4.lt
        have m5 := Blk4.made w4 M
        have hz4 := hb4.size
        have hzr := hbr.size
        have B5 : Below w2.heap.size w2 (w4.alloc (.cells #[.int .u64 (wd M 0), .int .u64 (wd M 1), .int .u64 (wd M 2), .int .u64 (wd M 3)] 31)) := (hbr.trans (hb4.mono hbr.size)).alloc (by omega) _
        clear c0 c1 c2 c3
        obtain ⟨c0, c1, c2, c3⟩ := s5.cells
        go_wp2_with fail
        clear c0 c1 c2 c3
        go_at_call 21
        refine (HH.out _).mono ?_
        rintro e w6 ⟨rfl, hb6⟩
        have s6 := s5.keep hb6 s5.lt
        have m6 := m5.keep hb6 m5.lt
        have B6 : Below w2.heap.size w2 w6 := B5.trans (hb6.mono B5.size)
        have hgm : w4.heap.size < w6.heap.size := m6.lt
        clear s4 s5 m5 B5 hb6 hb4 sr
        cases tb
        · simp at hmore
          subst hmore
          have s7 : Blk4 w6.drew w.heap.size N := s6
          have m7 : Blk4 w6.drew w4.heap.size M := m6
          obtain ⟨x0, x1, x2, x3⟩ := s7.cells
          obtain ⟨y0, y1, y2, y3⟩ := m7.cells
          have HML2 : Hid (∀ w : World, Calls Try.prog 23 #[setV M] w fun e w' => e = .returned (.int .i64 ((L.length : Int) + 1)) ∧ Below w.heap.size w w') := fun w => by
            have h := HML.out w
            simpa using h
          have hw1 : IntKind.i64.wrap ((L.length : Int) + 1) = (L.length : Int) + 1 := IntWalk.i64_in _ (by omega)
          have hw2 : IntKind.i64.wrap (L.length : Int) = (L.length : Int) := IntWalk.i64_in _ (by omega)
          go_upto_region 19 with fail
          go_region_held3 (fun w' => w'.cell? ⟨w.heap.size, 0, none⟩ = some (.int .u64 (wd N 0)) ∧ w'.cell? ⟨w.heap.size, 1, none⟩ = some (.int .u64 (wd N 1)) ∧ w'.cell? ⟨w.heap.size, 2, none⟩ = some (.int .u64 (wd N 2)) ∧ w'.cell? ⟨w.heap.size, 3, none⟩ = some (.int .u64 (wd N 3)) ∧ w'.cell? ⟨w4.heap.size, 0, none⟩ = some (.int .u64 (wd M 0)) ∧ w'.cell? ⟨w4.heap.size, 1, none⟩ = some (.int .u64 (wd M 1)) ∧ w'.cell? ⟨w4.heap.size, 2, none⟩ = some (.int .u64 (wd M 2)) ∧ w'.cell? ⟨w4.heap.size, 3, none⟩ = some (.int .u64 (wd M 3)))
            (((repeat' apply And.intro) <;> assumption))
            (first
              | (go_at_call 21; refine (HMH.out _).mono ?_; rintro e w8 ⟨rfl, hb8⟩; have s8 := s7.keep hb8 s7.lt; have m8 := m7.keep hb8 m7.lt; obtain ⟨z0, z1, z2, z3⟩ := s8.cells; obtain ⟨t0, t1, t2, t3⟩ := m8.cells)
              | (go_at_call 23; refine (HML2.out _).mono ?_; rintro e w9 ⟨rfl, hb9⟩; have s9 := s8.keep hb9 s8.lt; have m9 := m8.keep hb9 m8.lt; obtain ⟨p0, p1, p2, p3⟩ := s9.cells; obtain ⟨q0, q1, q2, q3⟩ := m9.cells)
              | (go_at_call 18; refine (HMU.out _).mono ?_; rintro e w10 ⟨rfl, hb10⟩; rw [setV_eq]; have s10 := s9.keep hb10 s9.lt; have m10 := m9.keep hb10 m9.lt; obtain ⟨r0, r1, r2, r3⟩ := s10.cells; obtain ⟨v0, v1, v2, v3⟩ := m10.cells))
          all_goals
            go_wp2
            go_ret
            have b7 := B6.drew
            have b8 := b7.trans (hb8.mono b7.size)
            have b9 := b8.trans (hb9.mono b8.size)
            refine ⟨by simp, HP.out _ (b9.trans (hb10.mono b9.size))⟩
        · simp at hmore
          subst hmore
          have s7 : Blk4 w6.drew w.heap.size N := s6
          have m7 : Blk4 w6.drew w4.heap.size M := m6
          obtain ⟨x0, x1, x2, x3⟩ := s7.cells
          obtain ⟨y0, y1, y2, y3⟩ := m7.cells
          have HML2 : Hid (∀ w : World, Calls Try.prog 23 #[setV M] w fun e w' => e = .returned (.int .i64 ((L.length : Int))) ∧ Below w.heap.size w w') := fun w => by
            have h := HML.out w
            simpa using h
          have hw1 : IntKind.i64.wrap ((L.length : Int) + 1) = (L.length : Int) + 1 := IntWalk.i64_in _ (by omega)
          have hw2 : IntKind.i64.wrap (L.length : Int) = (L.length : Int) := IntWalk.i64_in _ (by omega)
          go_upto_region 19 with fail
          go_region_held3 (fun w' => w'.cell? ⟨w.heap.size, 0, none⟩ = some (.int .u64 (wd N 0)) ∧ w'.cell? ⟨w.heap.size, 1, none⟩ = some (.int .u64 (wd N 1)) ∧ w'.cell? ⟨w.heap.size, 2, none⟩ = some (.int .u64 (wd N 2)) ∧ w'.cell? ⟨w.heap.size, 3, none⟩ = some (.int .u64 (wd N 3)) ∧ w'.cell? ⟨w4.heap.size, 0, none⟩ = some (.int .u64 (wd M 0)) ∧ w'.cell? ⟨w4.heap.size, 1, none⟩ = some (.int .u64 (wd M 1)) ∧ w'.cell? ⟨w4.heap.size, 2, none⟩ = some (.int .u64 (wd M 2)) ∧ w'.cell? ⟨w4.heap.size, 3, none⟩ = some (.int .u64 (wd M 3)))
            (((repeat' apply And.intro) <;> assumption))
            (first
              | (go_at_call 21; refine (HMH.out _).mono ?_; rintro e w8 ⟨rfl, hb8⟩; have s8 := s7.keep hb8 s7.lt; have m8 := m7.keep hb8 m7.lt; obtain ⟨z0, z1, z2, z3⟩ := s8.cells; obtain ⟨t0, t1, t2, t3⟩ := m8.cells)
              | (go_at_call 23; refine (HML2.out _).mono ?_; rintro e w9 ⟨rfl, hb9⟩; have s9 := s8.keep hb9 s8.lt; have m9 := m8.keep hb9 m8.lt; obtain ⟨p0, p1, p2, p3⟩ := s9.cells; obtain ⟨q0, q1, q2, q3⟩ := m9.cells)
              | (go_at_call 18; refine (HMU.out _).mono ?_; rintro e w10 ⟨rfl, hb10⟩; rw [setV_eq]; have s10 := s9.keep hb10 s9.lt; have m10 := m9.keep hb10 m9.lt; obtain ⟨r0, r1, r2, r3⟩ := s10.cells; obtain ⟨v0, v1, v2, v3⟩ := m10.cells))
          all_goals
            go_wp2
            go_ret
            have b7 := B6.drew
            have b8 := b7.trans (hb8.mono b7.size)
            have b9 := b8.trans (hb9.mono b8.size)
            refine ⟨by simp, HP.out _ (b9.trans (hb10.mono b9.size))⟩
end Go.Proofs.Ytobkljjbemfkeaa.foldRaw
