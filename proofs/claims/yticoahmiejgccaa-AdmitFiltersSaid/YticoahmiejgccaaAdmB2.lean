/- Which pieces may be: the reference's Filter. -/
import Derived.Test.YticoahmiejgccaaAdmB
namespace Go.Proofs.Yticoahmiejgccaa.Adm
open Go.RowKit Go.Proofs.Yticoahmiejgccaa.Prs
set_option maxRecDepth 100000

theorem filt_len (wd : UInt8 → Bool) (line : Tx) (l : List Pr) (w x : Bool) : (filt wd line l w x).length ≤ l.length := List.length_filter_le _ _
theorem filt_snoc (wd : UInt8 → Bool) (line : Tx) (l : List Pr) (w x : Bool) (k : Nat) (p : Pr) (h : l[k]? = some p) : filt wd line (l.take (k + 1)) w x = filt wd line (l.take k) w x ++ if may wd line w x p then [p] else [] := by
  unfold filt
  rw [List.take_add_one, h, List.filter_append]
  cases hm : may wd line w x p <;> simp [hm]
set_option maxHeartbeats 1000000 in
theorem rfilter_any (line : Tx) (l : List Pr) (al : Option Addr) (cl : Nat) (w x : Bool) (v : World) (hl : line.length ≤ 1000000000) (hll : l.length ≤ 1000000) (hx : Ps v v.heap.size al l) :
    Calls Try.prog 9 #[.string (str line), .slice al l.length cl, .bool w, .bool x] v (Gives v (filt isWd line l w x)) := by
  have CM := Lib.hid (fun p X => rmay_any line p w x X hl)
  go_enter Try.func9, Try.ntmps9
  go_wp2
  go_loopg [9, 10] l.length (fun gf s9 s10 wr => ∃ k : Nat, k + gf = l.length ∧ s10 = .int .i64 k ∧ wr.ownsRow v.heap.size 31 2 s9 (filt isWd line (l.take k) w x).length (cellsOf (filt isWd line (l.take k) w x)) ∧ Below v.heap.size v wr)
  case atStart => exact ⟨0, by simp, rfl, by simpa [filt, cellsOf] using World.ownsRow_nil v v.heap.size 31 2, Below.refl _ _⟩
  case round =>
    obtain ⟨k, hk, rfl, hown, hbel⟩ := hrel
    cases gk with
    | succ gf =>
      have hlt : k < l.length := by omega
      have hli : (k : Int) < (l.length : Int) := by omega
      obtain ⟨p, hp⟩ : ∃ p, l[k]? = some p := ⟨_, List.getElem?_eq_getElem hlt⟩
      obtain ⟨b, o, rfl, hbl, hc⟩ := hx (by omega)
      have hpk : l[k] = p := by rw [List.getElem?_eq_getElem hlt] at hp; exact Option.some.inj hp
      have HCC : Hid (∀ X, Below v.heap.size v X → X.cell? ⟨b, o + k * 2, none⟩ = some (.int .i64 p.s) ∧ X.cell? ⟨b, o + k * 2 + 1, none⟩ = some (.int .i64 p.e)) := Lib.hid fun X h => by
        have h2 := hc k hlt
        rw [hpk] at h2
        exact ⟨(h.cell (p := ⟨b, o + k * 2, none⟩) hbl).trans h2.1, (h.cell (p := ⟨b, o + k * 2 + 1, none⟩) hbl).trans h2.2⟩
      obtain ⟨d0, d1⟩ := HCC.out wr hbel
      have HS := Lib.hid (filt_snoc isWd line l w x k p hp)
      have HFL := Lib.hid (filt_len isWd line (l.take k) w x)
      have htk : (l.take k).length ≤ 1000000 := by rw [List.length_take]; omega
      have HOW := Lib.hid hown
      clear hp hpk hc hown
      cases hm : may isWd line w x p
      · rw [hm] at HS
        go_wp2_with (go_at_call 16; (with_reducible refine (CM.out p _).mono ?_); rintro e w1 ⟨rfl, hb1⟩; rw [hm])
        go_roundg gf
        case rel => exact ⟨k + 1, by omega, by go_num, by rw [HS.out]; simpa using own_keep HOW.out hb1, hbel.trans (hb1.mono hbel.size)⟩
        case measure => omega
      · rw [hm] at HS
        go_wp2_with (first
          | (go_at_call 16; (with_reducible refine (CM.out p _).mono ?_); rintro e w1 ⟨rfl, hb1⟩; rw [hm]; have hbe1 := hbel.trans (hb1.mono hbel.size); obtain ⟨e0, e1⟩ := HCC.out w1 hbe1; have hown1 := Lib.hid (own_keep HOW.out hb1))
          | (at_builtin; refine app_ps rfl _ _ rfl v.heap.size _ (filt isWd line (l.take k) w x).length (filt isWd line (l.take k) w x) rfl (hown1.out.alloc _) (some ⟨w1.heap.size, 0, none⟩) [p] 1 _ rfl (ps_one w1 p (0, 0)) (fun e => by cases e) (by have := HFL.out; simp; omega) (by have := hbe1.size; simp; omega) ?_; intro v2 w2 hown2 hg2))
        go_roundg gf
        case rel => exact ⟨k + 1, by omega, by go_num, by rw [HS.out]; simpa using hown2, Prs.app_below (hbe1.alloc hbe1.size _) (hown1.out.alloc _) hg2 (by have := hbe1.size; simp; omega) (Nat.le_refl _)⟩
        case measure => omega
    | zero =>
      obtain rfl : k = l.length := by omega
      have hni : ¬ ((l.length : Int) < (l.length : Int)) := by omega
      rw [List.take_length] at hown
      have HOW := Lib.hid hown
      clear hown
      go_wp2
      obtain ⟨a, cap, rfl, hlc, hnc, hps⟩ := own_ps HOW.out rfl
      go_ret
      exact ⟨a, cap, rfl, hlc, hnc, hps, hbel⟩
end Go.Proofs.Yticoahmiejgccaa.Adm
