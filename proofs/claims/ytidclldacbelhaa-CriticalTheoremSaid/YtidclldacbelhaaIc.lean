/- slices.Concat of two texts. -/
import Derived.Test.YtidclldacbelhaaIa
namespace Go.Proofs.Ytidclldacbelhaa.Cut
open Go.RowKit Go.Maps Go.Proofs.Ytidclldacbelhaa.Crt Go.Proofs.Ytidclldacbelhaa.Suf
set_option maxRecDepth 100000
set_option linter.unusedVariables false

def GivesRoom (w : World) (e : Ending) (w' : World) : Prop := ∃ v, e = .returned v ∧ w'.ownsRow w.heap.size 5 1 v 0 [] ∧ Below w.heap.size w w'
theorem room_own (w : World) (n c : Nat) (hn : n ≤ c) (hc : c ≤ maxLen) :
    ((w.alloc (.cells (Builtin.zeroCells #[Value.int IntKind.u8 0] n ++ Builtin.zeroCells #[Value.int IntKind.u8 0] (c - n)) 5)).drew).ownsRow w.heap.size 5 1 (.slice (some ⟨w.heap.size, 0, none⟩) 0 c) 0 [] :=
  World.ownsRow_made w _ c (Nat.le_refl _) hc (by simp [Builtin.zeroCells]; omega)
set_option maxHeartbeats 4000000 in
theorem grow_any (w : World) (n : Nat) (hl : n ≤ 1000000) :
    Calls Try.prog 25 #[.slice none 0 0, .int .i64 (n : Int)] w (GivesRoom w) := by
  go_enter Try.func25, Try.ntmps25
  by_cases h0 : 0 < n
  · have h1 : (0 : Int) < (n : Int) := by omega
    have hz : n ≠ 0 := by omega
    have hz2 : ¬ n = 0 := by omega
    have hfit : ¬ 281474976710656 < Builtin.nextslicecap n 0 * Try.t5.bytes := by
      rw [nextslicecap_zero h0, show Try.t5.bytes = 1 from rfl]; omega
    have hfit2 : (n : Int) * (Try.t5.bytes : Int) ≤ 281474976710656 := by
      rw [show Try.t5.bytes = 1 from rfl]; omega
    go_wp2
    have hge := grownCap_ge w n 0 5
    have hle := grownCap_le_maxLen w n 0 5 (by unfold maxLen; omega)
    unfold grownCap at hge hle
    refine bodyPost_ret (by simp [results, Try.results25, go_sem]) rfl ⟨_, rfl, room_own w n _ hge hle, ?_⟩
    exact below_drews ((Below.refl _ _).alloc (Nat.le_refl _) _) 1
  · obtain rfl : n = 0 := by omega
    have h1 : ¬ (0 : Int) < ((0 : Nat) : Int) := by omega
    go_wp2
    exact bodyPost_ret (by simp [results, Try.results25, go_sem]) rfl ⟨_, rfl, ⟨rfl, .inl ⟨rfl, rfl⟩⟩, Below.refl _ _⟩
def GivesBytes (w : World) (l : Tx) (e : Ending) (w' : World) : Prop :=
  ∃ a c, e = .returned (.slice a l.length c) ∧ Bs w' w'.heap.size a l ∧ (a = none → c = 0) ∧ Below w.heap.size w w'
theorem concat_any (w : World) (g : Nat) (x y : Tx) (a b : Option Addr) (ca cb : Nat) (hg : w.heap[g]? = some (.cells #[.slice a x.length ca, .slice b y.length cb] 22 (0, 0)))
    (ha : Bs w w.heap.size a x) (hb : Bs w w.heap.size b y) (hna : a = none → ca = 0) (hnb : b = none → cb = 0) (hl : x.length + y.length ≤ 1000000) :
    Calls Try.prog 20 #[.slice (some ⟨g, 0, none⟩) 2 2] w (GivesBytes w (x ++ y)) := by
  have h0 : w.cell? ⟨g, 0, none⟩ = some (.slice a x.length ca) := by rw [cell_of_row w g _ _ 22 (0, 0) hg]; rfl
  have h1 : w.cell? ⟨g, 1, none⟩ = some (.slice b y.length cb) := by rw [cell_of_row w g _ _ 22 (0, 0) hg]; rfl
  have HA := Lib.hid ha
  have HB := Lib.hid hb
  clear ha hb
  go_enter Try.func20, Try.ntmps20
  go_wp2
  go_loopw [3, 11] (fun vs vi wr => ((vi = .int .i64 0 ∧ vs = .int .i64 0) ∨ (vi = .int .i64 1 ∧ vs = .int .i64 (x.length : Int)) ∨ (vi = .int .i64 2 ∧ vs = .int .i64 ((x.length + y.length : Nat) : Int))) ∧ w = wr) (fun _ vi _ => 2 - (intOf vi).toNat)
  case atStart => exact ⟨.inl ⟨rfl, rfl⟩, rfl⟩
  case round =>
    obtain ⟨hc, rfl⟩ := hrel
    rcases hc with ⟨rfl, rfl⟩ | ⟨rfl, rfl⟩ | ⟨rfl, rfl⟩
    · have hn0 : ¬ (x.length : Int) < 0 := by omega
      have hw0 : IntKind.i64.wrap (x.length : Int) = (x.length : Int) := by rw [IntWalk.i64_in _ (by omega)]
      go_wp2
      exact ⟨⟨.inr (.inl ⟨by go_num, rfl⟩), trivial⟩, by simp [intOf]⟩
    · obtain ⟨S, hS⟩ : ∃ S, S = x.length + y.length := ⟨_, rfl⟩
      have hw0 : IntKind.i64.wrap ((x.length : Int) + (y.length : Int)) = (S : Int) := by rw [IntWalk.i64_in _ (by omega)]; omega
      have hn0 : ¬ (S : Int) < 0 := by omega
      go_wp2
      exact ⟨⟨.inr (.inr ⟨by go_num, by go_num⟩), trivial⟩, by simp [intOf]⟩
    · have HG := Lib.hid (grow_any w (x.length + y.length) hl)
      go_wp2_with (go_at_call 25; refine HG.out.mono ?_; rintro e w1 ⟨v, rfl, hown, hbel⟩; have HO := Lib.hid hown; have HW := Lib.hid hbel; clear hown hbel)
      go_loopw [6, 27] (fun vn vi wq => ∃ l : Tx, ((vi = .int .i64 0 ∧ l = []) ∨ (vi = .int .i64 1 ∧ l = x) ∨ (vi = .int .i64 2 ∧ l = x ++ y)) ∧ wq.ownsRow w.heap.size 5 1 vn l.length (vals l) ∧ Below w.heap.size w wq) (fun _ vi _ => 2 - (intOf vi).toNat)
      case atStart => exact ⟨[], .inl ⟨rfl, rfl⟩, HO.out, HW.out⟩
      case round =>
        obtain ⟨l, hc, hown, hX⟩ := hrel
        have HV := Lib.hid hown
        have HB2 := Lib.hid hX
        clear hown
        rcases hc with ⟨rfl, rfl⟩ | ⟨rfl, rfl⟩ | ⟨rfl, rfl⟩
        · have hcell := (hX.cell (p := ⟨g, 0, none⟩) (txt_lt hg)).trans h0
          have HBS := Lib.hid ((HA.out.keep hX).more (hX.size))
          clear hX
          go_wp2_with (at_builtin; (refine app_bs rfl _ _ rfl w.heap.size _ _ _ rfl HV.out a x _ _ rfl HBS.out hna (by first | omega | (simp; omega)) HB2.out.size ?_; intro v2 w2 ho2 hg2; have HO2 := Lib.hid ho2; have HX2 := Lib.hid (app_below HB2.out HV.out hg2 HB2.out.size (Nat.le_refl _)); clear ho2 hg2))
          exact ⟨⟨_, .inr (.inl ⟨by go_num, rfl⟩), by have := HO2.out; simpa [vals] using this, HX2.out⟩, by simp [intOf]⟩
        · have hcell := (hX.cell (p := ⟨g, 1, none⟩) (txt_lt hg)).trans h1
          have HBS := Lib.hid ((HB.out.keep hX).more (hX.size))
          clear hX
          go_wp2_with (at_builtin; (refine app_bs rfl _ _ rfl w.heap.size _ _ _ rfl HV.out b y _ _ rfl HBS.out hnb (by first | omega | (simp; omega)) HB2.out.size ?_; intro v2 w2 ho2 hg2; have HO2 := Lib.hid ho2; have HX2 := Lib.hid (app_below HB2.out HV.out hg2 HB2.out.size (Nat.le_refl _)); clear ho2 hg2))
          exact ⟨⟨_, .inr (.inr ⟨by go_num, rfl⟩), by have := HO2.out; simpa [vals] using this, HX2.out⟩, by simp [intOf]⟩
        · clear hX
          obtain ⟨a', c', rfl, ht, hcl, hcn⟩ := own_txt HV.out
          have HT := Lib.hid ht.bs
          clear ht hcl
          go_wp2
          refine bodyPost_ret (by simp [results, Try.results20, go_sem]) rfl ⟨a', c', rfl, HT.out, hcn, HB2.out⟩
end Go.Proofs.Ytidclldacbelhaa.Cut
