/- The contracts of the reference and of the statements' own 'stands'. -/
import Derived.Test.YtlepabeibniabaaCd
namespace Go.Proofs.Ytlepabeibniabaa.Cls
open Go.RowKit Go.Maps Go.Proofs.Ytlepabeibniabaa.Reg Go.Proofs.Ytlepabeibniabaa.Tri
set_option maxRecDepth 100000

theorem flat_take (l : List Tx) (k : Nat) : (l.take k).flatten.length ≤ l.flatten.length := by
  have h : l.flatten = (l.take k).flatten ++ (l.drop k).flatten := by rw [← List.flatten_append, List.take_append_drop]
  rw [h, List.length_append]; omega
theorem flat_succ (l : List Tx) (k : Nat) (h : k < l.length) : (l.take (k + 1)).flatten = (l.take k).flatten ++ l[k] := by
  rw [List.take_succ_eq_append_getElem h, List.flatten_append, List.flatten_cons, List.flatten_nil, List.append_nil]
set_option maxHeartbeats 1000000 in
theorem all_any (l : List Tx) (a : Option Addr) (cap : Nat) (w : World) (hs : Ss w a l) (hl : l.length ≤ 1000000) (hf : l.flatten.length ≤ 1000000) :
    Calls Try.prog 19 #[.slice a l.length cap] w fun e w' => e = .returned (.string (str l.flatten)) ∧ w' = w := by
  have HS := Lib.hid hs
  have HF := Lib.hid hf
  clear hs hf
  go_enter Try.func19, Try.ntmps19
  go_wp2
  go_loopw [3, 4] (fun v i wr => ∃ k : Nat, k ≤ l.length ∧ i = .int .i64 (k : Int) ∧ v = .string (str (l.take k).flatten) ∧ wr = w) (fun _ i _ => l.length - (intOf i).toNat)
  case atStart => exact ⟨0, Nat.zero_le _, rfl, rfl, rfl⟩
  case round =>
    obtain ⟨k, hk, rfl, rfl, rfl⟩ := hrel
    by_cases hlt : k < l.length
    · obtain ⟨b, off, rfl, hbl, hc⟩ := HS.out (by omega)
      have hck := hc k hlt
      have hkl : (k : Int) < (l.length : Int) := by omega
      have HE := Lib.hid (flat_succ l k hlt)
      have HL := Lib.hid (flat_take l (k + 1))
      have hz1 := str_size (l.take k).flatten
      have hz2 := str_size l[k]
      have hz3 : (l.take k).flatten.length + l[k].length ≤ 1000000 := by
        have h := HL.out
        rw [HE.out, List.length_append] at h
        have := HF.out
        omega
      have hap := str_add (l.take k).flatten l[k]
      clear hc
      generalize (l.take k).flatten = p at *
      generalize l[k] = q at *
      go_wp2
      go_roundw
      case rel => exact ⟨k + 1, by omega, by go_num, by rw [HE.out], by trivial⟩
      case measure => simp [intOf]; omega
    · have HE : Hid ((l.take k).flatten = l.flatten) := Lib.hid (by rw [List.take_of_length_le (by omega)])
      rw [HE.out]
      go_wp2
      go_ret
      exact ⟨rfl, rfl⟩
theorem testBit_flat (l : List Tx) (c : UInt8) : (setOf l.flatten).testBit c.toNat = stands l c := setT_bit l c
set_option maxHeartbeats 1000000 in
theorem rclass_any (l : List Tx) (a : Option Addr) (cap : Nat) (w : World) (hs : Ss w a l) (hl : l.length ≤ 1000000) (hf : l.flatten.length ≤ 1000000) (c : UInt8) :
    Calls Try.prog 12 #[.slice a l.length cap, .int .u8 (c.toNat : Int)] w fun e w' => e = .returned (.int .i64 (cls (stands l) c : Int)) ∧ w = w' := by
  have HA := Lib.hid (all_any l a cap w hs hl hf)
  have HI : Hid (∀ d : UInt8, Calls Try.prog 20 #[.string (str l.flatten), .int .u8 (d.toNat : Int)] w fun e w' => e = .returned (.bool (stands l d)) ∧ w = w') := Lib.hid (fun d => by
    have h := in_any l.flatten d.toNat w (by omega)
    rw [testBit_flat] at h
    exact h)
  obtain ⟨f, hf2⟩ : ∃ f, f = stands l := ⟨_, rfl⟩
  rw [← hf2] at HI ⊢
  clear hs hf hf2
  generalize str l.flatten = t at *
  by_cases hc : f c = true
  · have HC : Hid (cls f c = (upTo f (c.toNat + 1)).length) := Lib.hid (by simp [cls, hc])
    have hlt := c.toNat_lt
    have HIc := Lib.hid (HI.out c)
    rw [hc] at HIc
    clear hc
    go_enter Try.func12, Try.ntmps12
    go_wp2_with (first
      | (go_at_call 19; (with_reducible refine HA.out.mono ?_); rintro e w1 ⟨rfl, rfl⟩)
      | (go_at_call 20; (with_reducible refine HIc.out.mono ?_); rintro e w1 ⟨rfl, rfl⟩))
    go_loopw [6, 7] (fun v i wr => ∃ k : Nat, k ≤ c.toNat + 1 ∧ i = .int .i64 (k : Int) ∧ v = .int .i64 ((upTo f k).length : Int) ∧ wr = w1) (fun _ i _ => c.toNat + 1 - (intOf i).toNat)
    case atStart => exact ⟨0, Nat.zero_le _, rfl, rfl, rfl⟩
    case round =>
      obtain ⟨k, hk, rfl, rfl, rfl⟩ := hrel
      have hle := upTo_len f k
      by_cases hlk : k ≤ c.toNat
      · have hk2 : (k : Int) ≤ (c.toNat : Int) := by omega
        have HIk := Lib.hid (HI.out (UInt8.ofNat k))
        rw [ofNat_u8 k (by omega)] at HIk
        have hq : IntKind.u8.wrap (k : Int) = (k : Int) := by simp [IntKind.wrap, IntKind.bits, IntKind.signed]; omega
        have HU := Lib.hid (upTo_succ f k)
        cases hfk : f (UInt8.ofNat k) with
        | true =>
          rw [hfk] at HIk HU
          have HU2 : Hid ((upTo f (k + 1)).length = (upTo f k).length + 1) := Lib.hid (by rw [HU.out]; simp)
          clear hfk HU
          generalize (upTo f k).length = n at *
          go_wp2_with (go_at_call 20; (with_reducible refine HIk.out.mono ?_); rintro e w2 ⟨rfl, rfl⟩)
          go_roundw
          case rel => exact ⟨k + 1, by omega, by go_num, by rw [HU2.out]; go_num, by trivial⟩
          case measure => simp [intOf]; omega
        | false =>
          rw [hfk] at HIk HU
          have HU2 : Hid ((upTo f (k + 1)).length = (upTo f k).length) := Lib.hid (by rw [HU.out]; simp)
          clear hfk HU
          generalize (upTo f k).length = n at *
          go_wp2_with (go_at_call 20; (with_reducible refine HIk.out.mono ?_); rintro e w2 ⟨rfl, rfl⟩)
          go_roundw
          case rel => exact ⟨k + 1, by omega, by go_num, by rw [HU2.out], by trivial⟩
          case measure => simp [intOf]; omega
      · obtain rfl : k = c.toNat + 1 := by omega
        have hk3 : (c.toNat : Int) < ((c.toNat + 1 : Nat) : Int) := by omega
        have hk4 : (c.toNat : Int) < (c.toNat : Int) + 1 := by omega
        clear hle
        generalize (upTo f (c.toNat + 1)).length = n at *
        go_wp2
        go_ret
        exact ⟨by rw [HC.out]; rfl, rfl⟩
  · have hc2 : f c = false := by simpa using hc
    have HC := Lib.hid (cls_zero hc2)
    have HIc := Lib.hid (HI.out c)
    rw [hc2] at HIc
    rw [HC.out]
    clear hc hc2
    go_enter Try.func12, Try.ntmps12
    go_wp2_with (first
      | (go_at_call 19; (with_reducible refine HA.out.mono ?_); rintro e w1 ⟨rfl, rfl⟩)
      | (go_at_call 20; (with_reducible refine HIc.out.mono ?_); rintro e w1 ⟨rfl, rfl⟩))
    go_ret
    exact ⟨rfl, rfl⟩
set_option maxHeartbeats 1000000 in
theorem rlen_any (l : List Tx) (a : Option Addr) (cap : Nat) (w : World) (hs : Ss w a l) (hl : l.length ≤ 1000000) (hf : l.flatten.length ≤ 1000000) :
    Calls Try.prog 14 #[.slice a l.length cap] w fun e w' => e = .returned (.int .i64 ((cnt (stands l) : Int) + 1)) ∧ Below w.heap.size w w' := by
  have HA := Lib.hid (all_any l a cap w hs hl hf)
  have HR := Lib.hid (rlist_any l.flatten w (by omega))
  have e := list_up l
  unfold setT at e
  rw [e] at HR
  clear e hs hf
  have hz := str_size (upTo (stands l) 256)
  have hle : (str (upTo (stands l) 256)).size ≤ 256 := by rw [hz]; exact upTo_len _ _
  have HC : Hid (cnt (stands l) = (str (upTo (stands l) 256)).size) := Lib.hid hz.symm
  rw [HC.out]
  clear hz HC
  generalize str l.flatten = t at *
  generalize str (upTo (stands l) 256) = u at *
  go_enter Try.func14, Try.ntmps14
  go_wp2_with (first
    | (go_at_call 19; (with_reducible refine HA.out.mono ?_); rintro e w1 ⟨rfl, rfl⟩)
    | (go_at_call 21; (with_reducible refine HR.out.mono ?_); rintro e w2 ⟨rfl, hb⟩))
  go_ret
  refine ⟨?_, hb⟩
  have e : (1 : Int) + (u.size : Int) = (u.size : Int) + 1 := by omega
  simp [e]
set_option maxHeartbeats 2000000 in
theorem stands_any (xs : List TxV) (a : Option Addr) (cap : Nat) (w : World) (hts : Ts w a xs) (hl : xs.length ≤ 6000000000000) (hm : ∀ x ∈ xs, x.text.length ≤ 1000000000000) (c : UInt8) :
    Calls Try.prog 16 #[.slice a xs.length cap, .int .u8 (c.toNat : Int)] w fun e w' => e = .returned (.bool (stands (xs.map TxV.text) c)) ∧ w' = w := by
  have HT := Lib.hid hts
  have HM := Lib.hid hm
  clear hts hm
  go_enter Try.func16, Try.ntmps16
  go_wp2
  go_loopw [5] (fun i wr => ∃ k : Nat, k ≤ xs.length ∧ i = .int .i64 (k : Int) ∧ (∀ x ∈ xs.take k, c ∉ x.text) ∧ wr = w) (fun i _ => xs.length - (intOf i).toNat)
  case atStart => exact ⟨0, Nat.zero_le _, rfl, (fun x hx => by cases hx), rfl⟩
  case round =>
    obtain ⟨k, hk, rfl, hno, rfl⟩ := hrel
    have HNO := Lib.hid hno
    clear hno
    by_cases hlt : k < xs.length
    · obtain ⟨⟨b, off, rfl, hbl, hc⟩, hbs⟩ : (∃ b off, a = some ⟨b, off, none⟩ ∧ b < wr.heap.size ∧ ∀ i (h : i < xs.length), wr.cell? ⟨b, off + i, none⟩ = some (.slice xs[i].a xs[i].text.length xs[i].cap)) ∧ Bs wr wr.heap.size xs[k].a xs[k].text :=
        ⟨HT.out.1 (by omega), HT.out.2 _ (List.getElem_mem hlt)⟩
      have hck := hc k hlt
      have hkl : (k : Int) < (xs.length : Int) := by omega
      have HBS := Lib.hid hbs
      have hxm := HM.out _ (List.getElem_mem hlt)
      have HTK := Lib.hid (List.take_succ_eq_append_getElem hlt)
      have HMEM := Lib.hid (List.getElem_mem hlt)
      clear hc hbs
      generalize xs[k] = x at *
      go_wp2
      go_loopw [6] (fun i wq => ∃ j : Nat, j ≤ x.text.length ∧ i = .int .i64 (j : Int) ∧ c ∉ x.text.take j ∧ wq = wr) (fun i _ => x.text.length - (intOf i).toNat)
      case atStart => exact ⟨0, Nat.zero_le _, rfl, (fun hx => by cases hx), rfl⟩
      case round =>
        obtain ⟨j, hj, rfl, hno, rfl⟩ := hrel
        have HNJ := Lib.hid hno
        clear hno
        by_cases hjl : j < x.text.length
        · obtain ⟨b2, off2, ea, hbl2, hc2⟩ := HBS.out (by omega)
          have hcj := hc2 j hjl
          rw [ea] at hck
          have hjl2 : (j : Int) < (x.text.length : Int) := by omega
          have HTJ := Lib.hid (List.take_succ_eq_append_getElem hjl)
          have HMJ := Lib.hid (List.getElem_mem hjl)
          clear hc2
          generalize x.text[j] = y at *
          by_cases he : y = c
          · subst he
            go_wp2
            go_ret
            have hs : stands (xs.map TxV.text) y = true := (stands_iff _ _).2 ⟨x.text, List.mem_map_of_mem HMEM.out, HMJ.out⟩
            exact ⟨by rw [hs]; rfl, rfl⟩
          · have hne : ((y.toNat : Int) == (c.toNat : Int)) = false := by
              rw [beq_eq_false_iff_ne]
              intro e
              exact he (UInt8.toNat_inj.1 (by omega))
            have HNE := Lib.hid he
            clear he
            go_wp2
            go_roundw
            case rel =>
              refine ⟨j + 1, by omega, by go_num, ?_, by trivial⟩
              rw [HTJ.out]
              intro hm
              rcases List.mem_append.1 hm with h | h
              · exact HNJ.out h
              · rw [List.mem_singleton] at h; exact HNE.out h.symm
            case measure => simp [intOf]; omega
        · obtain rfl : j = x.text.length := by omega
          have hjl2 : ¬ ((x.text.length : Int) < (x.text.length : Int)) := by omega
          rw [List.take_length] at HNJ
          go_wp2
          go_roundw
          case rel =>
            refine ⟨k + 1, by omega, by go_num, ?_, by trivial⟩
            rw [HTK.out]
            intro z hz
            rcases List.mem_append.1 hz with h | h
            · exact HNO.out z h
            · rw [List.mem_singleton] at h; rw [h]; exact HNJ.out
          case measure => simp [intOf]; omega
    · have hs : stands (xs.map TxV.text) c = false := by
        rw [← Bool.not_eq_true, stands_iff]
        rintro ⟨t, ht, hct⟩
        obtain ⟨x, hx, rfl⟩ := List.mem_map.1 ht
        refine HNO.out x ?_ hct
        rw [List.take_of_length_le (by omega)]; exact hx
      have HSS := Lib.hid hs
      clear hs
      go_wp2
      go_ret
      exact ⟨by rw [HSS.out]; rfl, rfl⟩
end Go.Proofs.Ytlepabeibniabaa.Cls
