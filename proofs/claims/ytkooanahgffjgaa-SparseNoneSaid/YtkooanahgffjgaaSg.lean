import Derived.Test.YtkooanahgffjgaaSf
/- The reference's Occ. -/
namespace Go.Proofs.Ytkooanahgffjgaa.Spa
open Go.RowKit Go.Maps
open Go.Proofs.Ytkooanahgffjgaa.Tri Go.Proofs.Ytkooanahgffjgaa.Lnk Go.Proofs.Ytkooanahgffjgaa.Prs
set_option maxRecDepth 100000
theorem str_mid (x : Tx) (i j : Nat) : (str x).extract i j = str ((x.take j).drop i) := by
  unfold str
  rw [ByteArray.extract_mk]
  simp [List.drop_take]
theorem run_mid (x : Tx) (i m : Nat) (h : i + m + 1 ≤ x.length) (w : World) : (Instr.slice 9 (.string (str x)) (some (.int .i64 (i : Int))) (some (.int .i64 ((i : Int) + (m : Int) + 1))) none).run Try.prog w = .ok (.string (str ((x.take (i + m + 1)).drop i))) w := by
  have hz := str_size x
  rw [run_slice_string (P := Try.prog) w 9 (str x) .i64 .i64 (i : Int) ((i : Int) + (m : Int) + 1) und9 (by omega) (by omega) (by rw [hz]; omega)]
  have e1 : (i : Int).toNat = i := by omega
  have e2 : ((i : Int) + (m : Int) + 1).toNat = i + m + 1 := by omega
  rw [e1, e2, str_mid]
theorem occRow_len (l : List Tx) (line : Tx) (i : Nat) : ∀ m, (occRow l line i m).length ≤ m
  | 0 => by simp [occRow]
  | m + 1 => by
    have := occRow_len l line i m
    rw [occRow, List.length_append]
    split <;> simp <;> omega
theorem occTo_len (l : List Tx) (line : Tx) : ∀ k, (occTo l line k).length ≤ k * line.length
  | 0 => by simp [occTo]
  | k + 1 => by
    have h1 := occTo_len l line k
    have h2 := occRow_len l line k (line.length - k)
    rw [occTo, List.length_append, Nat.succ_mul]; omega
set_option maxHeartbeats 8000000 in
theorem rocc_any (w : World) (line : Tx) (ws : List Tx) (a : Option Addr) (cap : Nat) (hs : Ss w a ws) (hw : ws.length ≤ 1000000) (hwl : ∀ x ∈ ws, x.length ≤ 1000000) (hl : line.length ≤ 1000) :
    Calls Try.prog 16 #[.string (str line), .slice a ws.length cap] w (Gives w (occTo ws line line.length)) := by
  have HS := Lib.hid hs
  have HWL := Lib.hid hwl
  have hz := str_size line
  clear hs hwl
  go_enter Try.func16, Try.ntmps16
  go_wp2
  go_loopw [5, 6] (fun v x wr => ∃ i : Nat, i ≤ line.length ∧ x = .int .i64 (i : Int) ∧ wr.ownsRow w.heap.size 52 2 v (occTo ws line i).length (cellsOf (occTo ws line i)) ∧ Below w.heap.size w wr) (fun _ x _ => line.length - (intOf x).toNat)
  case atStart => exact ⟨0, by omega, rfl, World.ownsRow_nil _ _ _ _, Below.refl _ _⟩
  case round =>
    obtain ⟨i, hi, rfl, ho, hb⟩ := hrel
    have HO := Lib.hid ho
    have HB := Lib.hid hb
    clear ho hb
    have hol := occTo_len ws line i
    have hol2 : i * line.length ≤ 1000 * 1000 := Nat.mul_le_mul (by omega) hl
    by_cases hlt : i < line.length
    · have hlt2 : (i : Int) < (line.length : Int) := by omega
      have HSU : Hid (occTo ws line (i + 1) = occTo ws line i ++ occRow ws line i (line.length - i)) := Lib.hid rfl
      go_wp2
      go_loopw [5, 7] (fun v x wm => ∃ m : Nat, i + m ≤ line.length ∧ x = .int .i64 ((i : Int) + (m : Int) + 1) ∧ wm.ownsRow w.heap.size 52 2 v (occTo ws line i ++ occRow ws line i m).length (cellsOf (occTo ws line i ++ occRow ws line i m)) ∧ Below w.heap.size w wm) (fun _ x _ => line.length + 1 - (intOf x).toNat)
      case atStart => exact ⟨0, by omega, by simp, by simpa [occRow] using HO.out, HB.out⟩
      case round =>
        obtain ⟨m, hm, rfl, ho, hb⟩ := hrel
        have HO1 := Lib.hid ho
        have HB1 := Lib.hid hb
        clear ho hb
        have hrl := occRow_len ws line i m
        by_cases hm2 : i + m + 1 ≤ line.length
        · have hm3 : (i : Int) + (m : Int) + 1 ≤ (line.length : Int) := by omega
          have HRS : Hid (occRow ws line i (m + 1) = occRow ws line i m ++ (if (line.take (i + m + 1)).drop i ∈ ws then [⟨(i : Int), (i : Int) + m + 1⟩] else [])) := Lib.hid rfl
          have hpl : ((line.take (i + m + 1)).drop i).length = m + 1 := by rw [List.length_drop, List.length_take]; omega
          have HPL := Lib.hid hpl
          have hrun := run_mid line i m hm2
          clear hpl
          generalize (line.take (i + m + 1)).drop i = y at *
          go_wp2
          go_loopw [8, 9] (fun v x wi => ∃ k : Nat, k ≤ ws.length ∧ x = .int .i64 (k : Int) ∧ v = .bool (decide (y ∈ ws.take k)) ∧ wi.ownsRow w.heap.size 52 2 u5 (occTo ws line i ++ occRow ws line i m).length (cellsOf (occTo ws line i ++ occRow ws line i m)) ∧ Below w.heap.size w wi) (fun v x _ => ws.length - (intOf x).toNat)
          case atStart => exact ⟨0, by omega, rfl, by simp, HO1.out, HB1.out⟩
          case round =>
            obtain ⟨k, hk, rfl, rfl, ho, hb⟩ := hrel
            have HO2 := Lib.hid ho
            have HB2 := Lib.hid hb
            have hsz2 := hb.size
            clear ho hb
            by_cases hk2 : k < ws.length
            · have hk3 : (k : Int) < (ws.length : Int) := by omega
              by_cases hin : y ∈ ws.take k
              · have hd := decide_eq_true hin
                rw [hd]
                have HIN : Hid (y ∈ ws) := Lib.hid (List.mem_of_mem_take hin)
                clear hin hd
                go_wp2_with (at_builtin; refine app_ps rfl _ _ rfl w.heap.size _ _ (occTo ws line i ++ occRow ws line i m) rfl (HO2.out.alloc _) (some ⟨wr.heap.size, 0, none⟩) [⟨(i : Int), (i : Int) + (m : Int) + 1⟩] 1 (wr.heap.size + 1) rfl (by have := ps_one wr ⟨(i : Int), (i : Int) + (m : Int) + 1⟩ (0, 0); rwa [World.size_alloc] at this) (fun e => by cases e) (by simp only [List.length_append, List.length_cons, List.length_nil]; omega) (by simp; omega) ?_; intro v7 w7 hown7 hg7)
                go_roundw
                case rel =>
                  refine ⟨m + 1, by omega, by go_num, ?_, (HB2.out.alloc hsz2 _).grown hg7 (by simp; omega) (fun j hj => own_ge HO2.out hj)⟩
                  rw [HRS.out, if_pos HIN.out, ← List.append_assoc, List.length_append (bs := [_])]
                  exact hown7
                case measure => simp [intOf]; omega
              · have hd := decide_eq_false hin
                rw [hd]
                have hne : ∀ x, x ∈ ws.take (k + 1) ↔ x ∈ ws.take k ∨ x = ws[k] := fun x => by rw [List.take_succ_eq_append_getElem hk2, List.mem_append, List.mem_singleton]
                have HNE := Lib.hid hne
                have HNI := Lib.hid hin
                obtain ⟨bs, os, es, hbs, hcs⟩ := (HS.out.keep HB2.out) (by omega)
                have hcell := hcs k hk2
                have hbd := HWL.out _ (List.getElem_mem hk2)
                have hzk := str_size ws[k]
                have hbq := str_beq y ws[k]
                clear hne hin hd hcs
                subst es
                generalize ws[k] = z at *
                by_cases hlen : z.length = m + 1
                · have hg1 : ((z.length : Int) == (i : Int) + (m : Int) + 1 - (i : Int)) = true := by simp; omega
                  clear hlen
                  go_wp2
                  go_quiet (fail)
                  go_wp2
                  go_roundw
                  case rel =>
                    refine ⟨k + 1, by omega, by go_num, ?_, own_keep HO2.out (below_drews (Below.refl _ _) nq), below_drews HB2.out nq⟩
                    congr 1
                    rw [Bool.eq_iff_iff, decide_eq_true_iff, decide_eq_true_iff, HNE.out]
                    exact ⟨fun h => .inr h, fun h => h.resolve_left HNI.out⟩
                  case measure => simp [intOf]; omega
                · have hg1 : ((z.length : Int) == (i : Int) + (m : Int) + 1 - (i : Int)) = false := by simp; omega
                  have HLN : Hid (y ≠ z) := Lib.hid (fun e => hlen (by rw [← e, HPL.out]))
                  clear hlen
                  go_wp2
                  go_quiet (fail)
                  go_wp2
                  go_roundw
                  case rel =>
                    refine ⟨k + 1, by omega, by go_num, ?_, own_keep HO2.out (below_drews (Below.refl _ _) nq), below_drews HB2.out nq⟩
                    congr 1
                    rw [eq_comm, decide_eq_false_iff_not, HNE.out]
                    exact fun h => h.elim HNI.out HLN.out
                  case measure => simp [intOf]; omega
            · have hke : k = ws.length := by omega
              have hk3 : ¬ (k : Int) < (ws.length : Int) := by omega
              have hall : ws.take k = ws := List.take_of_length_le (by omega)
              rw [hall]
              clear hke hall
              by_cases hin : y ∈ ws
              · have hd := decide_eq_true hin
                rw [hd]
                have HIN := Lib.hid hin
                clear hin hd
                go_wp2_with (at_builtin; refine app_ps rfl _ _ rfl w.heap.size _ _ (occTo ws line i ++ occRow ws line i m) rfl (HO2.out.alloc _) (some ⟨wr.heap.size, 0, none⟩) [⟨(i : Int), (i : Int) + (m : Int) + 1⟩] 1 (wr.heap.size + 1) rfl (by have := ps_one wr ⟨(i : Int), (i : Int) + (m : Int) + 1⟩ (0, 0); rwa [World.size_alloc] at this) (fun e => by cases e) (by simp only [List.length_append, List.length_cons, List.length_nil]; omega) (by simp; omega) ?_; intro v7 w7 hown7 hg7)
                go_roundw
                case rel =>
                  refine ⟨m + 1, by omega, by go_num, ?_, (HB2.out.alloc hsz2 _).grown hg7 (by simp; omega) (fun j hj => own_ge HO2.out hj)⟩
                  rw [HRS.out, if_pos HIN.out, ← List.append_assoc, List.length_append (bs := [_])]
                  exact hown7
                case measure => simp [intOf]; omega
              · have hd := decide_eq_false hin
                rw [hd]
                have HIN := Lib.hid hin
                clear hin hd
                go_wp2
                go_roundw
                case rel => exact ⟨m + 1, by omega, by go_num, by rw [HRS.out, if_neg HIN.out, List.append_nil]; exact HO2.out, HB2.out⟩
                case measure => simp [intOf]; omega
        · have hme : line.length - i = m := by omega
          have hm3 : ¬ (i : Int) + (m : Int) + 1 ≤ (line.length : Int) := by omega
          have HME : Hid (occTo ws line i ++ occRow ws line i m = occTo ws line (i + 1)) := Lib.hid (by rw [HSU.out, hme])
          clear hme
          go_wp2
          go_roundw
          case rel => exact ⟨i + 1, by omega, by go_num, by rw [← HME.out]; exact HO1.out, HB1.out⟩
          case measure => simp [intOf]; omega
    · have hie : i = line.length := by omega
      have hi3 : ¬ (i : Int) < (line.length : Int) := by omega
      have HIE : Hid (occTo ws line i = occTo ws line line.length) := Lib.hid (by rw [hie])
      clear hie
      obtain ⟨a8, c8, rfl, hc8, hn8, hp8⟩ := own_ps HO.out rfl
      have HP8 := Lib.hid hp8
      clear hp8
      go_wp2
      go_ret
      refine ⟨a8, c8, by rw [← HIE.out]; rfl, by rw [← HIE.out]; exact hc8, hn8, by rw [← HIE.out]; exact HP8.out, HB.out⟩
end Go.Proofs.Ytkooanahgffjgaa.Spa
