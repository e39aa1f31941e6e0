/- The contract of the statements' own 'texts'. -/
import Derived.Test.YtlepabeibniabaaTBase
namespace Go.Proofs.Ytlepabeibniabaa.Tri
open Go.RowKit Go.Maps
set_option maxRecDepth 100000

def GivesL (w : World) (xs : List TxV) (e : Ending) (w' : World) : Prop :=
  Below w.heap.size w w' ∧ ((¬ ∀ x ∈ xs, x.text.length ≤ 40) ∧ e = .returned (.tuple #[.slice none 0 0, .bool false]) ∨
    (∀ x ∈ xs, x.text.length ≤ 40) ∧ ∃ a' cap', e = .returned (.tuple #[.slice a' xs.length cap', .bool (decide (xs.length ≤ 12))]) ∧ Ss w' a' (xs.map TxV.text))
theorem takes_snoc {α : Type} (l : List α) (k : Nat) (h : k < l.length) : l.take (k + 1) = l.take k ++ [l[k]] := List.take_succ_eq_append_getElem h
theorem map_at (xs : List TxV) (k : Nat) (h : k < xs.length) : (xs.map TxV.text)[k]'(by simpa using h) = xs[k].text := by simp
set_option maxHeartbeats 4000000 in
theorem ltexts_any (xs : List TxV) (a : Option Addr) (cap : Nat) (w : World) (hts : Ts w a xs) (hl : xs.length ≤ 6000000000000) (hm : ∀ x ∈ xs, x.text.length ≤ maxLen) :
    Calls Try.prog 8 #[.slice a xs.length cap] w (GivesL w xs) := by
  unfold maxLen at hm
  have HT := Lib.hid hts
  have HM := Lib.hid hm
  clear hts hm
  go_enter Try.func8, Try.ntmps8
  go_wp2
  go_loopw [4, 5] (fun v i wr => ∃ k : Nat, k ≤ xs.length ∧ i = .int .i64 k ∧ wr.ownsRow w.heap.size 9 1 v k (svals ((xs.map TxV.text).take k)) ∧ (∀ x ∈ xs.take k, x.text.length ≤ 40) ∧ Below w.heap.size w wr)
    (fun _ i _ => xs.length - (intOf i).toNat)
  case atStart => exact ⟨0, Nat.zero_le _, rfl, World.ownsRow_nil _ _ _ _, (fun x hx => by cases hx), Below.refl _ _⟩
  case round =>
    obtain ⟨k, hk, rfl, hown, hall, hbel⟩ := hrel
    have HA := Lib.hid hall
    clear hall
    by_cases hlt : k < xs.length
    · obtain ⟨⟨b, off, rfl, hbl, hc⟩, hbs⟩ : (∃ b off, a = some ⟨b, off, none⟩ ∧ b < w.heap.size ∧ ∀ i (h : i < xs.length), w.cell? ⟨b, off + i, none⟩ = some (.slice xs[i].a xs[i].text.length xs[i].cap)) ∧ Bs w w.heap.size xs[k].a xs[k].text :=
        ⟨HT.out.1 (by omega), HT.out.2 _ (List.getElem_mem hlt)⟩
      have hck : wr.cell? ⟨b, off + k, none⟩ = some (.slice xs[k].a xs[k].text.length xs[k].cap) := (hbel.cell (p := ⟨b, off + k, none⟩) hbl).trans (hc k hlt)
      have hcv := str_of_bs xs[k].cap (hbs.keep hbel)
      have hxm : xs[k].text.length ≤ 9223372036854775807 := HM.out _ (List.getElem_mem hlt)
      have HS := Lib.hid (takes_snoc (xs.map TxV.text) k (by simpa using hlt))
      have HS2 := Lib.hid (takes_snoc xs k hlt)
      rw [map_at xs k hlt] at HS
      have hsr := hbel.size
      clear hc hbs
      by_cases h3 : 40 < xs[k].text.length
      · go_wp2
        refine bodyPost_ret (v := .tuple #[.slice none 0 0, .bool false]) (by simp [results, Try.results8, go_sem]) rfl ?_
        refine ⟨hbel, .inl ⟨fun h => ?_, rfl⟩⟩
        have := h _ (List.getElem_mem hlt)
        omega
      · go_wp2_with (at_builtin; refine app_ss rfl _ _ rfl w.heap.size _ _ _ xs[k].text rfl (hown.alloc _) ⟨wr.heap.size, 0, none⟩ rfl (cell_new1 _ _ _) (by omega) (by simp; omega) ?_; intro v2 w2 hown2 hg2)
        go_roundw
        case rel =>
          refine ⟨k + 1, by omega, by go_num, ?_, ?_, ?_⟩
          · rw [HS.out]; exact hown2
          · rw [HS2.out]
            intro x hx
            rcases List.mem_append.1 hx with hx | hx
            · exact HA.out x hx
            · rw [List.mem_singleton] at hx; subst hx; omega
          · exact (hbel.alloc hsr _).grown hg2 (by simp; omega) (fun q hq => own_ge hown hq)
        case measure => simp [intOf]; omega
    · have et : (xs.map TxV.text).take k = xs.map TxV.text := List.take_of_length_le (by simp; omega)
      have et2 : xs.take k = xs := List.take_of_length_le (by omega)
      rw [et] at hown
      rw [et2] at HA
      obtain ⟨a2, cap2, rfl, hss, _⟩ := own_ss hown
      have HSS := Lib.hid hss
      clear hss et et2
      have e : (xs.map TxV.text).length = xs.length := by simp
      rw [e] at hown ⊢
      clear e
      go_wp2
      have e2 : decide ((xs.length : Int) ≤ 12) = decide (xs.length ≤ 12) := decide_eq_decide.2 (by omega)
      refine bodyPost_ret (v := .tuple #[.slice a2 xs.length cap2, .bool (decide ((xs.length : Int) ≤ 12))]) (by simp [results, Try.results8, go_sem]) rfl ?_
      rw [e2]
      exact ⟨hbel, .inr ⟨HA.out, a2, cap2, rfl, HSS.out⟩⟩
end Go.Proofs.Ytlepabeibniabaa.Tri
