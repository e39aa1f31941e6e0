/- The contract of patset.Load. -/
import Derived.Test.YteggdhfchamffaaPb
import Derived.Test.YteggdhfchamffaaPc
namespace Go.Proofs.Yteggdhfchamffaa
open Go.RowKit

/-- The texts that come of a file. -/
def loaded (f : Bool) (t : List UInt8) : List (List UInt8) := if 1024 < t.length then [] else textsOf f t
/-- The error. -/
def code (t : List UInt8) : Nat := if 1024 < t.length then 12 else 0
theorem texts_len (f : Bool) (t : List UInt8) : (textsOf f t).length ≤ t.length := by unfold textsOf; rw [List.length_map]; exact lines_le t
theorem texts_mem (f : Bool) (t x : List UInt8) (h : x ∈ textsOf f t) : x.length ≤ t.length := by
  obtain ⟨y, hy, rfl⟩ := List.mem_map.1 h
  have := (lines_bound t y hy).1
  rw [cased_len]; omega
theorem loaded_mem (f : Bool) (t x : List UInt8) (h : x ∈ loaded f t) : x.length ≤ 1024 := by
  unfold loaded at h
  split at h
  · cases h
  · have := texts_mem f t x h; omega
theorem loaded_len (f : Bool) (t : List UInt8) : (loaded f t).length ≤ 1024 := by
  unfold loaded
  split
  · simp
  · have := texts_len f t; omega
def GivesLoad (w : World) (f : Bool) (t : List UInt8) (e : Ending) (w' : World) : Prop :=
  ∃ m a cap, e = .returned (.tuple #[.agg #[.map m, .slice a (pats (loaded f t)).length cap], .int .i64 (code t : Int)]) ∧ IsSet w' m a (loaded f t) ∧ Below w.heap.size w w'

/-- .. in new memory. -/
def GivesLoadF (w : World) (f : Bool) (t : List UInt8) (e : Ending) (w' : World) : Prop :=
  ∃ m a cap, e = .returned (.tuple #[.agg #[.map m, .slice a (pats (loaded f t)).length cap], .int .i64 (code t : Int)]) ∧ IsSet w' m a (loaded f t) ∧ Below w.heap.size w w' ∧ From w.heap.size m a

set_option maxHeartbeats 4000000 in
theorem load_from (f : Bool) (t : List UInt8) (a : Option Addr) (cap : Nat) (w : World) (ht : t.length ≤ 100000000) (hb : Bs w w.heap.size a t) :
    Calls Try.prog 10 #[.slice a t.length cap, .bool f] w (GivesLoadF w f t) := by
  have hb0 : Below w.heap.size w (w.alloc (.cells #[.map none, .slice none 0 0] 27)) := (Below.refl _ _).alloc (Nat.le_refl _) _
  have hbs : Bs (w.alloc (.cells #[.map none, .slice none 0 0] 27)) (w.alloc (.cells #[.map none, .slice none 0 0] 27)).heap.size a t := (hb.keep hb0).more hb0.size
  have hk := Blk2.new w 27 (.map none) (.slice none 0 0)
  by_cases hc : 1024 < t.length
  · obtain ⟨f0, f1⟩ := hk.free
    obtain ⟨d0, d1⟩ := hk.cells
    go_enter Try.func10, Try.ntmps10
    go_wp2
    have e1 : loaded f t = [] := by unfold loaded; rw [if_pos hc]
    have e2 : code t = 12 := by unfold code; rw [if_pos hc]
    refine bodyPost_ret (v := .tuple #[.agg #[.map none, .slice none 0 0], .int .i64 12]) ?_ rfl ?_
    · simp [results, Try.results10, go_sem, d0, d1]
    · refine ⟨none, none, 0, ?_, ?_, hb0, (fun _ e => by cases e), fun _ e => by cases e⟩
      · rw [e1, e2]; rfl
      · rw [e1]; exact isSet_zero _
  · have HB := Lib.hid hbs
    clear hbs
    go_enter Try.func10, Try.ntmps10
    go_wp2_with (first
      | (go_at_call 23; ((with_reducible refine (texts_any f t a cap _ ht HB.out).mono ?_)); rintro e w1 ⟨a1, cap1, xs, rfl, hx, hts, hb1⟩; have e1 : (textsOf f t).length = xs.length := (by rw [← hx]; simp); rw [e1])
      | (go_at_call 16; ((with_reducible refine (of_from xs a1 cap1 _ hts (by have := texts_len f t; omega) (fun y hy => (by have := texts_mem f t y.text (by rw [← hx]; exact List.mem_map_of_mem hy); omega))).mono ?_)); rintro e w2 ⟨m, a2, cap2, rfl, hset, hb2, hfr⟩; have hk2 := (hk.keep hb1 (by simp)).keep hb2 (by have := hb1.size; simp at this; omega); obtain ⟨d0, d1⟩ := hk2.cells; obtain ⟨f0, f1⟩ := hk2.free))
    have e1 : loaded f t = textsOf f t := by unfold loaded; rw [if_neg hc]
    have e2 : code t = 0 := by unfold code; rw [if_neg hc]
    rw [hx] at hset
    have hk3 := hk2.put0 (.map m)
    obtain ⟨z0, z1⟩ := (hk3.put1 (.slice a2 (pats (textsOf f t)).length cap2)).cells
    refine bodyPost_ret (v := .tuple #[.agg #[.map m, .slice a2 (pats (textsOf f t)).length cap2], .int .i64 0]) ?_ rfl ?_
    · simp [results, Try.results10, go_sem, z0, z1]
    · refine ⟨m, a2, cap2, ?_, ?_, ?_, hfr.less (by have := hb1.size; simp at this; omega)⟩
      · rw [e1, e2]; rfl
      · rw [e1]; exact (hset.far hk2 (fun _ e => by cases e) (fun _ e => by cases e) _).far hk3 (fun _ e => by cases e) (fun _ e => by cases e) _
      · have hs1 := hb1.size
        rw [World.size_alloc] at hs1
        exact (((hb0.trans (hb1.mono (by simp))).trans (hb2.mono (by omega))).setCell (p := ⟨w.heap.size, 0, none⟩) (Nat.le_refl _) _).setCell (p := ⟨w.heap.size, 1, none⟩) (Nat.le_refl _) _
theorem load_any (f : Bool) (t : List UInt8) (a : Option Addr) (cap : Nat) (w : World) (ht : t.length ≤ 100000000) (hb : Bs w w.heap.size a t) :
    Calls Try.prog 10 #[.slice a t.length cap, .bool f] w (GivesLoad w f t) :=
  (load_from f t a cap w ht hb).mono fun _ _ ⟨m, a', c, h1, h2, h3, _⟩ => ⟨m, a', c, h1, h2, h3⟩
end Go.Proofs.Yteggdhfchamffaa
