/- The contracts of Sparse, of how its table looks, of Look, and of the reference's Sparse. -/
import Derived.Test.YtkooanahgffjgaaMd
namespace Go.Proofs.Ytkooanahgffjgaa.Met
open Go.RowKit Go.Maps
set_option maxRecDepth 100000

theorem cell_lt0 {w : World} {b o : Nat} {v : Value} (h : w.cell? ⟨b, o, none⟩ = some v) : b < w.heap.size := by
  rcases Nat.lt_or_ge b w.heap.size with hlt | hge
  · exact hlt
  · unfold World.cell? at h
    simp only [Array.getElem?_eq_none hge] at h
    cases h
theorem cell_one {w : World} {v : Nat} {u : Value} {t : TypeId} (h : w.heap[v]? = some (.cells #[u] t (0, 0))) : w.cell? ⟨v, 0, none⟩ = some u := by
  rw [cell_of_row w v _ _ t (0, 0) h]; rfl
set_option maxHeartbeats 1000000 in
theorem sparse_look (w : World) (s : Int) (c : UInt8) (hs : (Lit.int .i64 s).wf = true) (v g n : Nat) (l : List Rw) (hv : w.cell? ⟨v, 0, none⟩ = some (.map (some g))) (hown : MapR w g n l) :
    Calls Try.prog 45 #[.int .i64 s, .int .u8 (c.toNat : Int), .pointer (some ⟨v, 0, none⟩)] w fun e w' => e = .returned (.int .i64 (spar l s c)) ∧ w = w' := by
  have HO := Lib.hid hown
  have HS := Lib.hid hs
  clear hown hs
  cases hb : hasr l s c
  · have HN := Lib.hid (spar_no l s c hb)
    go_enter Try.func45, Try.ntmps45
    go_wp2_with (at_lookup; (with_reducible refine look_map rfl _ _ rfl g n l rfl HO.out s c HS.out rfl ?_); intro x hx; clear hx; rw [hb])
    go_ret
    exact ⟨ret_int HN.out.symm, rfl⟩
  · go_enter Try.func45, Try.ntmps45
    go_wp2_with (at_lookup; (with_reducible refine look_map rfl _ _ rfl g n l rfl HO.out s c HS.out rfl ?_); intro x hx; have HX := Lib.hid (hx hb); clear hx; rw [hb])
    go_ret
    exact ⟨ret_int HX.out, rfl⟩
/-- A handle on rows. -/
def Tb (w : World) (s t : Nat) (p : Option Addr) (l : List Rw) : Prop :=
  s ≤ t ∧ ∃ v g n, Blk2 w t 100 (.pointer p) (.func (.func 45) #[] #[.pointer (some ⟨v, 0, none⟩)]) ∧ w.heap[v]? = some (.cells #[.map (some g)] 95 (0, 0)) ∧ MapR w g n l
def GivesTb (w : World) (p : Option Addr) (l : List Rw) (e : Ending) (w' : World) : Prop := ∃ t, e = .returned (.pointer (some ⟨t, 0, none⟩)) ∧ Tb w' w.heap.size t p l ∧ Below w.heap.size w w'
theorem make_map (n : Int) (w : World) : (Instr.makeMap 95 (some (.int .i64 n))).run Try.prog w = .ok (.map (some w.heap.size)) (w.alloc (.map #[] 0)) := by
  simp [Instr.makeMap, go_sem]
set_option maxHeartbeats 1000000 in
theorem sparse_any (w : World) (p : Option Addr) (l : List Rw) (a : Option Addr) (cap : Nat) (hl : l.length ≤ 1000000) (hR : Rs w w.heap.size a l) (hW : WfR l) :
    Calls Try.prog 30 #[.pointer p, .slice a l.length cap] w (GivesTb w p l) := by
  have hmm := make_map
  have hmf : ∀ (fn : Fn) (first cap : Array Value) (w : World), (Instr.makeFunc fn first cap).run Try.prog w = .ok (.func fn first cap) w := fun _ _ _ _ => rfl
  have HR := Lib.hid hR
  have HW := Lib.hid hW
  clear hR hW
  go_enter Try.func30, Try.ntmps30
  go_wp2
  generalize hb1 : w.heap.size = B
  have HB1 := Lib.hid hb1
  clear hb1
  go_loopw [13] (fun i wr => ∃ k : Nat, k ≤ l.length ∧ i = .int .i64 k ∧ MapR wr B k (l.take k) ∧ wr.heap[B + 1]? = some (.cells #[.map (some B)] 95 (0, 0)) ∧ Below B w wr) (fun i _ => l.length - (intOf i).toNat)
  case atStart =>
    have hb1 := HB1.out
    subst hb1
    refine ⟨0, Nat.zero_le _, rfl, (mapR_made w).alloc _, ?_, ((Below.refl _ _).alloc (Nat.le_refl _) _).alloc (by simp) _⟩
    have := heap_alloc_new (w.alloc (.map #[] 0)) (.cells #[.map (some w.heap.size)] 95)
    simpa using this
  case round =>
    obtain ⟨k, hk, rfl, hm, hv, hbel⟩ := hrel
    by_cases hlt : k < l.length
    · have HS : Hid (l.take (k + 1) = l.take k ++ [l[k]]) := Lib.hid (by rw [List.take_succ_eq_append_getElem hlt])
      obtain ⟨bb, off, rfl, hbb, hc⟩ := HR.out.keep (by rw [HB1.out]; exact hbel) (by omega)
      obtain ⟨c0, c1, c2⟩ := hc k hlt
      obtain ⟨w1, w2⟩ := HW.out l[k] (List.getElem_mem hlt)
      have W1 := Lib.hid w1
      have W2 := Lib.hid w2
      have hkl : (k : Int) < (l.length : Int) := by omega
      have hbr : bb < wr.heap.size := cell_lt0 c0
      clear hc w1 w2
      generalize l[k] = r at *
      have HM := Lib.hid hm
      have HV := Lib.hid hv
      have HB := Lib.hid hbel
      clear hm hv hbel
      have hvc : wr.cell? ⟨B + 1, 0, none⟩ = some (.map (some B)) := cell_one HV.out
      have hvr : B + 1 < wr.heap.size := cell_lt0 hvc
      have hbz : w.heap.size ≤ wr.heap.size := HB.out.size
      go_wp2_with (at_mapUpdate; (with_reducible refine put_map rfl _ _ _ rfl B k (l.take k) rfl (HM.out.alloc _) r W1.out W2.out rfl rfl (by unfold maxLen; omega) ?_); intro w1 hm1 hg1; have HM1 := Lib.hid hm1; have HG1 := Lib.hid hg1; clear hm1 hg1)
      go_roundw
      case rel =>
        have hbw := HB1.out
        refine ⟨k + 1, by omega, by go_num, by rw [HS.out]; exact HM1.out, ?_, (HB.out.alloc (by omega) _).grown HG1.out (by simp; omega) (fun j hj => by cases hj; exact Nat.le_refl _)⟩
        rw [HG1.out.block (B + 1) (by simp; omega) (by simp), Below.heap_alloc _ _ _ hvr]
        exact HV.out
      case measure => simp [intOf]; omega
    · obtain rfl : k = l.length := by omega
      rw [List.take_length] at hm
      have HM := Lib.hid hm
      have HV := Lib.hid hv
      have HB := Lib.hid hbel
      clear hm hv hbel
      go_wp2
      go_ret
      have hbw := HB1.out
      have hsz := HB.out.size
      refine ⟨wr.heap.size, rfl, ⟨hsz, B + 1, B, l.length, Blk2.new _ _ _ _, ?_, HM.out.alloc _⟩, ?_⟩
      · rw [Below.heap_alloc _ _ _ (txt_lt HV.out)]; exact HV.out
      · rw [hbw]; exact HB.out.alloc (by omega) _
end Go.Proofs.Ytkooanahgffjgaa.Met
