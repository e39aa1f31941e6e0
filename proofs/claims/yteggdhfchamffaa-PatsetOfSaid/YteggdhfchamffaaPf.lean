/- Contracts of the reference's Of, Load; of the statements' own 'texts'. -/
import Derived.Test.YteggdhfchamffaaPe
import Derived.Test.YteggdhfchamffaaPd
import Derived.Test.YteggdhfchamffaaWi
import Derived.Deep.RegionLaw
import Derived.Deep.AppendLies
namespace Go.Proofs.Yteggdhfchamffaa
open Go.RowKit

/-- A call that hands out the reference's set, and leaves what was there as it was. -/
def GivesRSet (w : World) (came : List (List UInt8)) (e : Ending) (w' : World) : Prop :=
  ∃ a cap, e = .returned (.agg #[.slice a (pats came).length cap, .bool (decide ([] ∈ came))]) ∧ Ss w' a (pats came) ∧ Below w.heap.size w w'

theorem block_app {W W' : World} {g base e size n : Nat} {v : Value} {xs : List Value} {O : Obj} (hg : (W.alloc O).drew.grownBy W' v.ownBlock) (hown : W.ownsRow base e size v n xs) (hlt : g < base) (hW : g < W.heap.size) : W'.heap[g]? = W.heap[g]? :=
  (hg.block g (by show g < (W.alloc O).heap.size; simp; omega) (own_far hown g hlt)).trans (Below.heap_alloc W O g hW)
theorem keep_app {W W' : World} {g o base e size n : Nat} {v u : Value} {xs : List Value} {O : Obj} (hc : W.cell? ⟨g, o, none⟩ = some u) (hg : (W.alloc O).drew.grownBy W' v.ownBlock) (hown : W.ownsRow base e size v n xs) (hlt : g < base) (hW : g < W.heap.size) : W'.cell? ⟨g, o, none⟩ = some u :=
  (cell_same (block_app hg hown hlt hW)).trans hc
set_option maxHeartbeats 4000000 in
theorem rof_any (xs : List (List UInt8)) (a : Option Addr) (cap : Nat) (w : World) (hs : Ss w a xs) (hl : xs.length ≤ 100000000) :
    Calls Try.prog 17 #[.slice a xs.length cap] w (GivesRSet w xs) := by
  have HS := Lib.hid hs
  clear hs
  go_enter Try.func17, Try.ntmps17
  go_wp2
  go_loopw [4] (fun i wr => ∃ k v, k ≤ xs.length ∧ i = .int .i64 k ∧ Blk2 wr (w.heap.size + 1) 32 v (.bool (decide ([] ∈ xs.take k))) ∧
      wr.ownsRow (w.heap.size + 2) 9 1 v (pats (xs.take k)).length (svals (pats (xs.take k))) ∧ Blk2 wr w.heap.size 32 (.slice none 0 0) (.bool false) ∧ Below w.heap.size w wr ∧ w.heap.size + 2 ≤ wr.heap.size)
    (fun i _ => xs.length - (intOf i).toNat)
  case atStart =>
    have h2 := Blk2.new (w.alloc (.cells #[.slice none 0 0, .bool false] 32)) 32 (.slice none 0 0) (.bool false)
    rw [World.size_alloc] at h2
    exact ⟨0, _, Nat.zero_le _, rfl, h2, World.ownsRow_nil _ _ _ _, (Blk2.new w 32 (.slice none 0 0) (.bool false)).alloc _,
      ((Below.refl _ _).alloc (Nat.le_refl _) _).alloc (by simp) _, by simp⟩
  case round =>
    obtain ⟨k, v, hk, rfl, hbk, hown, hb0, hbel, hsz⟩ := hrel
    have hpl : (pats (xs.take k)).length ≤ k := by
      have h1 := pats_len (xs.take k)
      have h2 : (xs.take k).length ≤ k := List.length_take_le _ _
      omega
    obtain ⟨c0, c1⟩ := hbk.cells
    obtain ⟨f0, f1⟩ := hbk.free
    by_cases hlt : k < xs.length
    · obtain ⟨b, off, rfl, hbl, hc⟩ := HS.out (by omega)
      have hck : wr.cell? ⟨b, off + k, none⟩ = some (.string (str xs[k])) := (hbel.cell (p := ⟨b, off + k, none⟩) hbl).trans (hc k hlt)
      have HP := Lib.hid (pats_take xs k hlt)
      have HT := Lib.hid (takes_snoc xs k hlt)
      clear hc
      by_cases hnil : xs[k] = []
      · have hdn : (str xs[k]).toList.isEmpty = true := by rw [str_none]; simp [hnil]
        have HN := Lib.hid hnil
        clear hnil
        go_wp2
        go_roundw
        case rel =>
          refine ⟨k + 1, v, by omega, by go_num, ?_, ?_, hb0.far (by omega) _, hbel.setCell (p := ⟨w.heap.size + 1, 1, none⟩) (by simp) _, by simpa using hsz⟩
          · have e : decide ([] ∈ xs.take (k + 1)) = true := by rw [HT.out, HN.out]; simp
            rw [e]; exact hbk.put1 _
          · rw [HP.out, HN.out, add_nil]
            exact hown.kept (grown_set wr _ _ _) (.inr (own_far hown _ (by omega)).symm)
        case measure => simp [intOf]; omega
      · have hdn : (str xs[k]).toList.isEmpty = false := by rw [str_none]; simp [hnil]
        have HN := Lib.hid hnil
        have HE : Hid (decide ([] ∈ xs.take (k + 1)) = decide ([] ∈ xs.take k)) := Lib.hid (decide_eq_decide.2 (by rw [HT.out, List.mem_append, List.mem_singleton]; exact ⟨fun h => h.elim id (fun e => absurd e.symm hnil), .inl⟩))
        clear hnil
        obtain ⟨av, cv, rfl, hss, _, _⟩ := own_ss hown
        have HSS := Lib.hid hss
        clear hss
        by_cases hin : xs[k] ∈ pats (xs.take k)
        · have hd : decide (xs[k] ∈ pats (xs.take k)) = true := by simpa using hin
          have HI := Lib.hid hin
          clear hin
          have IN : Hid (∀ q, Calls Try.prog 12 #[.slice av (pats (xs.take k)).length cv, .string (str xs[k])] (wr.drewN q) fun e w' => e = .returned (.bool true) ∧ ∃ m, w' = (wr.drewN q).drewN m) := Lib.hid fun q => (in_any (pats (xs.take k)) xs[k] av cv (wr.drewN q) HSS.out (by omega)).mono (fun _ _ ⟨e1, e2⟩ => ⟨by rw [e1, hd], 0, e2.symm⟩)
          go_wp2
          go_quiet ((go_at_call 12; exact Calls.quiet_of (IN.out _)))
          go_wp2
          go_roundw
          case rel =>
            refine ⟨k + 1, .slice av (pats (xs.take k)).length cv, by omega, by go_num, ?_, ?_, hb0, below_drews hbel _, hsz⟩
            · rw [HE.out]; exact hbk
            · rw [HP.out, add_old _ _ HI.out]; exact hown
          case measure => simp [intOf]; omega
        · have hd : decide (xs[k] ∈ pats (xs.take k)) = false := by simpa using hin
          have HI := Lib.hid hin
          clear hin
          have IN : Hid (∀ q, Calls Try.prog 12 #[.slice av (pats (xs.take k)).length cv, .string (str xs[k])] (wr.drewN q) fun e w' => e = .returned (.bool false) ∧ ∃ m, w' = (wr.drewN q).drewN m) := Lib.hid fun q => (in_any (pats (xs.take k)) xs[k] av cv (wr.drewN q) HSS.out (by omega)).mono (fun _ _ ⟨e1, e2⟩ => ⟨by rw [e1, hd], 0, e2.symm⟩)
          go_wp2
          go_quiet ((go_at_call 12; exact Calls.quiet_of (IN.out _)))
          have hbk' : Blk2 (wr.drewN nq) (w.heap.size + 1) 32 (.slice av (pats (xs.take k)).length cv) (.bool (decide ([] ∈ xs.take k))) := hbk
          have hown' : (wr.drewN nq).ownsRow (w.heap.size + 2) 9 1 (.slice av (pats (xs.take k)).length cv) (pats (xs.take k)).length (svals (pats (xs.take k))) := hown
          have hb0' : Blk2 (wr.drewN nq) w.heap.size 32 (.slice none 0 0) (.bool false) := hb0
          have hbel' : Below w.heap.size w (wr.drewN nq) := below_drews hbel nq
          have hsz' : w.heap.size + 2 ≤ (wr.drewN nq).heap.size := hsz
          have hck' : (wr.drewN nq).cell? ⟨b, off + k, none⟩ = some (.string (str xs[k])) := hck
          have c0' : (wr.drewN nq).cell? ⟨w.heap.size + 1, 0, none⟩ = some (.slice av (pats (xs.take k)).length cv) := c0
          generalize wr.drewN nq = w2 at *
          clear hck c0 c1 f0 f1 hbk hown hb0 hbel hsz HSS
          obtain ⟨c0', c1'⟩ := hbk'.cells
          obtain ⟨f0', f1'⟩ := hbk'.free
          obtain ⟨i0, hi, hz0, hz1, hz2⟩ := info_parts info9
          have L1 : w.heap.size + 1 < w.heap.size + 2 := by omega
          have L2 : w.heap.size + 1 < w2.heap.size := by omega
          have L3 : b < w.heap.size + 2 := by omega
          have L4 : b < w2.heap.size := by omega
          go_wp2
          go_region_law
            ((refine step_append_lies _ (by rfl) _ _ _ (by rfl) (w.heap.size + 2) 9 i0 (.string ByteArray.empty) 1 16 Try.underlying25 hi hz0 hz1 hz2 rfl (by decide) (.slice av (pats (xs.take k)).length cv) (pats (xs.take k)).length (svals (pats (xs.take k))) (by rfl) (hown'.alloc _) ⟨w2.heap.size, 0, none⟩ 1 1 [.string (str xs[k])] (by rfl) rfl (cell_new1 _ _ _) (by simp [Value.oneCell']) (by omega) (by unfold maxLen; omega) (by omega) (by simp; omega) (w2.heap.size + 1) (by simp) ?_; intro g4 cap4 w4 hown4 hg4 hat4 hlt4; have hbk4 := hbk'.same (block_app hg4 hown' L1 L2); obtain ⟨c40, c41⟩ := hbk4.cells; obtain ⟨f40, f41⟩ := hbk4.free))
          all_goals
            go_wp2
            go_roundw
            case rel =>
              have hz4 := hg4.size
              have hz5 : w2.heap.size + 1 ≤ w4.heap.size := by
                have : (w2.alloc (.cells #[.string (str xs[k])] 9)).heap.size ≤ w4.heap.size := hz4
                simpa using this
              have hb04 := hb0'.same (block_app (g := w.heap.size) hg4 hown' (by omega) (by omega))
              have hbel4 : Below w.heap.size w w4 := hbel'.trans ⟨hg4.os, hg4.tape, hg4.output, by omega, fun j hj => block_app hg4 hown' (by omega) (by omega)⟩
              refine ⟨k + 1, .slice (some ⟨g4, 0, none⟩) ((pats (xs.take k)).length + 1) cap4, by omega, by go_num, ?_, ?_, hb04.far (by omega) _, ?_, ?_⟩
              · rw [HE.out]; exact hbk4.put0 _
              · rw [HP.out, add_new' _ _ HI.out HN.out, List.length_append, svals_snoc]
                exact hown4.kept (grown_set w4 _ _ _) (.inr (own_far hown4 _ (by omega)).symm)
              · exact hbel4.setCell (p := ⟨w.heap.size + 1, 0, none⟩) (by simp) _
              · simp; omega
            case measure => simp [intOf]; omega
    · obtain ⟨z0, z1⟩ := hb0.cells
      obtain ⟨y0, y1⟩ := hb0.free
      have et : xs.take k = xs := List.take_of_length_le (by omega)
      rw [et] at hbk hown c1
      clear et hpl
      obtain ⟨av, cv, rfl, hss, _, _⟩ := own_ss hown
      have HSS := Lib.hid hss
      clear hss
      go_wp2
      have hk0 := hb0.put0 (.slice av (pats xs).length cv)
      obtain ⟨e0, e1⟩ := (hk0.put1 (.bool (decide ([] ∈ xs)))).cells
      refine bodyPost_ret (v := .agg #[.slice av (pats xs).length cv, .bool (decide ([] ∈ xs))]) ?_ rfl ?_
      · simp [results, Try.results17, go_sem, e0, e1]
      · exact ⟨av, cv, rfl, (HSS.out.far hb0 (fun _ e => by cases e) (fun _ e => by cases e) _).far hk0 (fun _ e => by cases e) (fun _ e => by cases e) _,
          (hbel.setCell (p := ⟨w.heap.size, 0, none⟩) (Nat.le_refl _) _).setCell (p := ⟨w.heap.size, 1, none⟩) (Nat.le_refl _) _⟩
end Go.Proofs.Yteggdhfchamffaa
