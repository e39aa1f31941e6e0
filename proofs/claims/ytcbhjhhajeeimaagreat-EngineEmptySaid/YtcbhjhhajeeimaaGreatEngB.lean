/- The reference: Wrong, Find, Counts. -/
import Derived.Test.YtcbhjhhajeeimaaGreatEngA
namespace Go.Proofs.YtcbhjhhajeeimaaGreat.Eng
open Go.Proofs.YtcbhjhhajeeimaaGreat.Tri Go.Proofs.YtcbhjhhajeeimaaGreat.Lnk Go.Proofs.YtcbhjhhajeeimaaGreat.Prs Go.Proofs.YtcbhjhhajeeimaaGreat.Spa Go.Proofs.YtcbhjhhajeeimaaGreat.Reg Go.RowKit Go.Maps
set_option maxRecDepth 100000
set_option linter.unusedVariables false

/-- The reference's set, as a value. -/
abbrev rset (l : List Tx) (a : Option Addr) (c : Nat) : Value := .agg #[.slice a (Pat.pats l).length c, .bool (decide (([] : Tx) ∈ l))]
/-- .. and laid in a block of its own. -/
theorem rbox (w : World) (ws : List Tx) (a : Option Addr) (c : Nat) (em : Bool) : Below w.heap.size w (w.alloc (.cells #[.slice a ws.length c, .bool em] 30)) ∧ (w.alloc (.cells #[.slice a ws.length c, .bool em] 30)).cell? ⟨w.heap.size, 0, none⟩ = some (.slice a ws.length c) ∧ (w.alloc (.cells #[.slice a ws.length c, .bool em] 30)).cell? ⟨w.heap.size, 1, none⟩ = some (.bool em) :=
  ⟨(Below.refl _ _).alloc (Nat.le_refl _) _, (Pat.Blk2.new w 30 _ _).cells.1, (Pat.Blk2.new w 30 _ _).cells.2⟩
def wrongE (tag : Int) (ws : List Tx) (em : Bool) : Int := if tag < 0 ∨ 3 < tag then 11 else if tag = 2 ∧ (ws.length ≠ 1 ∨ em = true) then 13 else if tag = 1 ∧ 160 < (paths ws).length then 14 else 0
theorem wrong_e (tag : Int) (l : List Tx) : wrongE tag (Pat.pats l) (decide (([] : Tx) ∈ l)) = wrongI tag l := by
  unfold wrongE wrongI; simp only [decide_eq_true_eq]
set_option maxHeartbeats 2000000 in
theorem rwrong_em (w : World) (tag : Int) (ht : (Lit.int .i64 tag).wf = true) (ws : List Tx) (em : Bool) (a : Option Addr) (c : Nat) (hs : Ss w a ws) (hl : ws.length ≤ 1000) (hz : tot ws ≤ 100000) :
    Calls Tryz.prog 14 #[.int .i64 tag, .agg #[.slice a ws.length c, .bool em]] w fun e w' => e = .returned (.int .i64 (wrongE tag ws em)) ∧ Below w.heap.size w w' := by
  obtain ⟨hb, c0, c1⟩ := rbox w ws a c em
  have HP := Lib.hid (paths_any _ ws a c (hs.keep hb) (by omega) (by omega))
  have HB := Lib.hid hb
  have hpl := paths_len ws
  have HW : Hid (wrongE tag ws em = if tag < 0 ∨ 3 < tag then 11 else if tag = 2 ∧ (ws.length ≠ 1 ∨ em = true) then 13 else if tag = 1 ∧ 160 < (paths ws).length then 14 else 0) := Lib.hid rfl
  clear hs hb
  by_cases h1 : tag < 0
  · have HW2 := 0; have HW3 := 0
    have HR : Hid (wrongE tag ws em = 11) := Lib.hid (by rw [HW.out, if_pos (.inl h1)])
    clear HW HW2 HW3
    generalize wrongE tag ws em = z at *
    go_enter Tryz.func14, Tryz.ntmps14
    go_wp2
    go_ret
    exact ⟨by rw [HR.out]; rfl, HB.out⟩
  by_cases h2 : 3 < tag
  · have HW2 := 0; have HW3 := 0
    have HR : Hid (wrongE tag ws em = 11) := Lib.hid (by rw [HW.out, if_pos (.inr h2)])
    clear HW HW2 HW3
    generalize wrongE tag ws em = z at *
    go_enter Tryz.func14, Tryz.ntmps14
    go_wp2
    go_ret
    exact ⟨by rw [HR.out]; rfl, HB.out⟩
  have HW2 : Hid (wrongE tag ws em = if tag = 2 ∧ (ws.length ≠ 1 ∨ em = true) then 13 else if tag = 1 ∧ 160 < (paths ws).length then 14 else 0) := Lib.hid (by rw [HW.out, if_neg (by omega)])
  by_cases h3 : tag = 2
  · subst h3
    have HW3 := 0
    by_cases hn : ws.length = 1
    · have hn2 : (((ws.length : Nat) : Int) != 1) = false := by rw [bne_eq_false_iff_eq]; omega
      have hn3 : ((ws.length : Nat) : Int) = 1 := by omega
      cases em
      · have HR : Hid (wrongE 2 ws false = 0) := Lib.hid (by rw [HW2.out, if_neg (by simp [hn]), if_neg (by omega)])
        clear HW HW2 HW3 hn
        generalize wrongE 2 ws false = z at *
        go_enter Tryz.func14, Tryz.ntmps14
        go_wp2
        go_ret
        exact ⟨by rw [HR.out]; rfl, HB.out⟩
      · have HR : Hid (wrongE 2 ws true = 13) := Lib.hid (by rw [HW2.out, if_pos ⟨rfl, .inr rfl⟩])
        clear HW HW2 HW3 hn
        generalize wrongE 2 ws true = z at *
        go_enter Tryz.func14, Tryz.ntmps14
        go_wp2
        go_ret
        exact ⟨by rw [HR.out]; rfl, HB.out⟩
    · have hn2 : (((ws.length : Nat) : Int) != 1) = true := by rw [bne_iff_ne]; omega
      have HR : Hid (wrongE 2 ws em = 13) := Lib.hid (by rw [HW2.out, if_pos ⟨rfl, .inl hn⟩])
      clear HW HW2 HW3 hn
      generalize wrongE 2 ws em = z at *
      go_enter Tryz.func14, Tryz.ntmps14
      go_wp2
      go_ret
      exact ⟨by rw [HR.out]; rfl, HB.out⟩
  have HW3 : Hid (wrongE tag ws em = if tag = 1 ∧ 160 < (paths ws).length then 14 else 0) := Lib.hid (by rw [HW2.out, if_neg (fun h => h3 h.1)])
  have h3b : (tag == 2) = false := by rw [beq_eq_false_iff_ne]; exact h3
  by_cases h4 : tag = 1
  · subst h4
    by_cases hp : 160 < (paths ws).length
    · have HR : Hid (wrongE 1 ws em = 14) := Lib.hid (by rw [HW3.out, if_pos ⟨rfl, hp⟩])
      have hp2 : (160 : Int) < ((paths ws).length : Int) := by omega
      clear HW HW2 HW3
      generalize wrongE 1 ws em = z at *
      go_enter Tryz.func14, Tryz.ntmps14
      go_wp2_with (go_at_call 28; (with_reducible refine HP.out.mono ?_); rintro e w1 ⟨a1, c1, rfl, hs1, hb1⟩; have HB1 := Lib.hid hb1; clear hs1 hb1)
      go_ret
      exact ⟨by rw [HR.out]; rfl, HB.out.trans (HB1.out.mono HB.out.size)⟩
    · have HR : Hid (wrongE 1 ws em = 0) := Lib.hid (by rw [HW3.out, if_neg (fun h => hp h.2)])
      have hp2 : ¬ (160 : Int) < ((paths ws).length : Int) := by omega
      clear HW HW2 HW3
      generalize wrongE 1 ws em = z at *
      go_enter Tryz.func14, Tryz.ntmps14
      go_wp2_with (go_at_call 28; (with_reducible refine HP.out.mono ?_); rintro e w1 ⟨a1, c1, rfl, hs1, hb1⟩; have HB1 := Lib.hid hb1; clear hs1 hb1)
      go_ret
      exact ⟨by rw [HR.out]; rfl, HB.out.trans (HB1.out.mono HB.out.size)⟩
  · have h4b : (tag == 1) = false := by rw [beq_eq_false_iff_ne]; exact h4
    have HR : Hid (wrongE tag ws em = 0) := Lib.hid (by rw [HW3.out, if_neg (fun h => h4 h.1)])
    clear HW HW2 HW3
    generalize wrongE tag ws em = z at *
    go_enter Tryz.func14, Tryz.ntmps14
    go_wp2
    go_ret
    exact ⟨by rw [HR.out]; rfl, HB.out⟩
theorem rwrong_any (w : World) (tag : Int) (ht : (Lit.int .i64 tag).wf = true) (l : List Tx) (a : Option Addr) (c : Nat) (hs : Ss w a (Pat.pats l)) (hl : (Pat.pats l).length ≤ 1000) (hz : tot (Pat.pats l) ≤ 100000) :
    Calls Tryz.prog 14 #[.int .i64 tag, rset l a c] w fun e w' => e = .returned (.int .i64 (wrongI tag l)) ∧ Below w.heap.size w w' := by
  have := rwrong_em w tag ht (Pat.pats l) (decide (([] : Tx) ∈ l)) a c hs hl hz
  rwa [wrong_e] at this
set_option maxHeartbeats 2000000 in
theorem rfind_any (w : World) (l : List Tx) (a : Option Addr) (c : Nat) (hs : Ss w a (Pat.pats l)) (hl : (Pat.pats l).length ≤ 1000) (hx : ∀ x ∈ Pat.pats l, x.length ≤ 1000000) (line : Tx) (hll : line.length ≤ 500) :
    Calls Tryz.prog 22 #[rset l a c, .string (str line)] w (Gives w (findOf l line)) := by
  obtain ⟨hb, c0, c1⟩ := rbox w (Pat.pats l) a c (decide (([] : Tx) ∈ l))
  have hO := rocc_any _ line (Pat.pats l) a c (hs.keep hb) (by omega) hx (by omega)
  rw [occ_scan, scan_pats] at hO
  have hz := str_size line
  have hsl := scan_length l line (by omega)
  have HB := Lib.hid hb
  have hlt : w.heap.size < (w.alloc (.cells #[.slice a (Pat.pats l).length c, .bool (decide (([] : Tx) ∈ l))] 30)).heap.size := by simp
  have HP0 := Lib.hid (putTo_zero l line)
  have HPS := Lib.hid (fun k (h : k < line.length + 1) => putTo_succ l line h)
  have HPL := Lib.hid (putTo_len l line)
  have HPA := Lib.hid (fun h => putTo_all (l := l) h line)
  have HPN := Lib.hid (fun h => find_plain (l := l) h line)
  have HO := Lib.hid hO
  clear hs hb hO
  go_enter Tryz.func22, Tryz.ntmps22
  go_wp2_with fail
  generalize hw1 : w.alloc (.cells #[.slice a (Pat.pats l).length c, .bool (decide (([] : Tx) ∈ l))] 30) = w1 at *
  have HC1 := Lib.hid c1
  have HLT := Lib.hid hlt
  clear hw1 c0 c1 hlt
  refine HO.out.mono ?_
  rintro e w2 ⟨A, cA, rfl, hcA, hnA, hpA, hb2⟩
  have HPA2 := Lib.hid hpA
  have HB2 := Lib.hid hb2
  clear hpA hb2 HO
  go_wp2
  go_loopw [5, 6] (fun v i wr => ∃ (k : Nat) (A : Option Addr) (cA : Nat), k ≤ line.length + 1 ∧ i = .int .i64 (k : Int) ∧ v = .slice A (putTo l line k).length cA ∧ (putTo l line k).length ≤ cA ∧ (A = none → cA = 0) ∧ Ps wr wr.heap.size A (putTo l line k) ∧ Below w1.heap.size w1 wr ∧ (k = 0 ∨ [] ∈ l)) (fun _ i _ => line.length + 1 - (intOf i).toNat)
  case atStart => exact ⟨0, A, cA, Nat.zero_le _, rfl, by rw [HP0.out], by rw [HP0.out]; exact hcA, hnA, by rw [HP0.out]; exact HPA2.out, HB2.out, .inl rfl⟩
  case round =>
    obtain ⟨k, A', cA', hk, rfl, rfl, hcA', hnA', hp', hbl, hor⟩ := hrel
    have HP' := Lib.hid hp'
    have HBL := Lib.hid hbl
    have c1 := (hbl.cell (p := ⟨w.heap.size, 1, none⟩) HLT.out).trans HC1.out
    have hpl := HPL.out k hk
    clear hp' hbl hcA hnA
    by_cases hkl : k ≤ line.length
    · have hkl2 : (k : Int) ≤ (line.length : Int) := by omega
      by_cases he : ([] : Tx) ∈ l
      · rw [decide_eq_true he] at c1
        have HPU := Lib.hid (put_any (putTo l line k) ⟨(k : Int), (k : Int)⟩ A' cA' wr (by omega) HP'.out)
        have HSU := Lib.hid (HPS.out k (by omega))
        have HE := Lib.hid he
        clear he hor
        go_wp2_with (go_at_call 33; (with_reducible refine HPU.out.mono ?_); rintro e w3 ⟨A3, cA3, rfl, hcA3, hnA3, hp3, hb3⟩; have HP3 := Lib.hid hp3; have HB3 := Lib.hid hb3; clear hp3 hb3)
        go_roundw
        case rel => exact ⟨k + 1, A3, cA3, by omega, by go_num, by rw [HSU.out], by rw [HSU.out]; exact hcA3, hnA3, by rw [HSU.out]; exact HP3.out, HBL.out.trans (HB3.out.mono HBL.out.size), .inr HE.out⟩
        case measure => simp [intOf]; omega
      · rw [decide_eq_false he] at c1
        have hk0 : k = 0 := by rcases hor with h | h; exact h; exact absurd h he
        subst hk0
        have HFF := Lib.hid (HPN.out he)
        rw [HP0.out] at HP'
        rw [HP0.out] at hcA'
        rw [HP0.out]
        clear he hor
        go_wp2
        go_ret
        exact ⟨A', cA', by rw [HFF.out]; rfl, by rw [HFF.out]; exact hcA', hnA', by rw [HFF.out]; exact HP'.out, HB.out.trans (HBL.out.mono HB.out.size)⟩
    · have hke : k = line.length + 1 := by omega
      have hkl2 : ¬ (k : Int) ≤ (line.length : Int) := by omega
      have he : ([] : Tx) ∈ l := by rcases hor with h | h; omega; exact h
      have HFF : Hid (putTo l line k = findOf l line) := Lib.hid (by rw [hke]; exact HPA.out he)
      clear he hor hke
      go_wp2
      go_ret
      exact ⟨A', cA', by rw [← HFF.out]; rfl, by rw [← HFF.out]; exact hcA', hnA', by rw [← HFF.out]; exact HP'.out, HB.out.trans (HBL.out.mono HB.out.size)⟩
def lookE (tag : Int) (ws : List Tx) (line : Tx) : Nat := if ws = [] ∨ 1 < tag then 0 else if tag = 1 then line.length else looksTo (paths ws) line line.length
def scanE (tag : Int) (ws : List Tx) (line : Tx) : Nat := if ws = [] ∨ 1 < tag then 0 else line.length
set_option maxHeartbeats 2000000 in
theorem rcounts_em (w : World) (tag : Int) (ht : (Lit.int .i64 tag).wf = true) (ws : List Tx) (em : Bool) (a : Option Addr) (c : Nat) (hs : Ss w a ws) (hl : ws.length ≤ 1000) (hz : tot ws ≤ 100000) (line : Tx) (hll : line.length ≤ 1000) :
    Calls Tryz.prog 20 #[.int .i64 tag, .agg #[.slice a ws.length c, .bool em], .string (str line)] w fun e w' => e = .returned (.tuple #[.int .i64 (scanE tag ws line : Int), .int .i64 (lookE tag ws line : Int)]) ∧ Below w.heap.size w w' := by
  obtain ⟨hb, c0, _⟩ := rbox w ws a c em
  have hz1 := str_size line
  have hP := paths_any _ ws a c (hs.keep hb) (by omega) (by omega)
  have HB := Lib.hid hb
  have HS : Hid (scanE tag ws line = if ws = [] ∨ 1 < tag then 0 else line.length) := Lib.hid rfl
  have HL : Hid (lookE tag ws line = if ws = [] ∨ 1 < tag then 0 else if tag = 1 then line.length else looksTo (paths ws) line line.length) := Lib.hid rfl
  have hpl := paths_len ws
  have hwf := paths_wf ws
  generalize paths ws = P at *
  have HP := Lib.hid hP
  have HWF := Lib.hid hwf
  generalize scanE tag ws line = sn at *
  generalize lookE tag ws line = ln at *
  clear hs hb hP hwf
  by_cases h1 : ws = []
  · have HS2 : Hid (sn = 0) := Lib.hid (by rw [HS.out, if_pos (.inl h1)])
    have HL2 : Hid (ln = 0) := Lib.hid (by rw [HL.out, if_pos (.inl h1)])
    clear HS HL HP
    subst h1
    rw [List.length_nil] at *
    go_enter Tryz.func20, Tryz.ntmps20
    go_wp2
    go_ret2
    exact ⟨by rw [HS2.out, HL2.out]; rfl, HB.out⟩
  · have hn : ((ws.length : Int) == 0) = false := by
      have := List.length_pos_iff.2 h1
      rw [beq_eq_false_iff_ne]; omega
    by_cases h2 : 1 < tag
    · have HS2 : Hid (sn = 0) := Lib.hid (by rw [HS.out, if_pos (.inr h2)])
      have HL2 : Hid (ln = 0) := Lib.hid (by rw [HL.out, if_pos (.inr h2)])
      clear h1 HS HL
      go_enter Tryz.func20, Tryz.ntmps20
      go_wp2
      go_ret2
      exact ⟨by rw [HS2.out, HL2.out]; rfl, HB.out⟩
    · have HS2 : Hid (sn = line.length) := Lib.hid (by rw [HS.out, if_neg (by rintro (h | h); exact h1 h; exact h2 h)])
      have HL1 : Hid (ln = if tag = 1 then line.length else looksTo P line line.length) := Lib.hid (by rw [HL.out, if_neg (by rintro (h | h); exact h1 h; exact h2 h)])
      by_cases h3 : tag = 1
      · have HL2 : Hid (ln = line.length) := Lib.hid (by rw [HL1.out, if_pos h3])
        subst h3
        clear h1 HS HL HL1
        go_enter Tryz.func20, Tryz.ntmps20
        go_wp2
        go_ret2
        exact ⟨by rw [HS2.out, HL2.out]; rfl, HB.out⟩
      · have HL2 : Hid (ln = looksTo P line line.length) := Lib.hid (by rw [HL1.out, if_neg h3])
        have h3b : (tag == 1) = false := by rw [beq_eq_false_iff_ne]; exact h3
        clear h1 HS HL HL1 h3
        go_enter Tryz.func20, Tryz.ntmps20
        go_wp2_with (first
          | (go_at_call 28; (with_reducible refine HP.out.mono ?_); rintro e w1 ⟨a1, c1, rfl, hs1, hb1⟩; have HB1 := Lib.hid hb1; have HLK := Lib.hid (rlooks_any w1 P HWF.out a1 c1 hs1 (by omega) line (by omega)); clear hs1 hb1)
          | (go_at_call 31; (with_reducible refine HLK.out.mono ?_); rintro e w2 ⟨rfl, hb2⟩; have HB2 := Lib.hid hb2; clear hb2))
        go_ret2
        have h5 := HB.out.trans (HB1.out.mono HB.out.size)
        exact ⟨by rw [HS2.out, HL2.out]; rfl, h5.trans (HB2.out.mono h5.size)⟩
theorem rcounts_any (w : World) (tag : Int) (ht : (Lit.int .i64 tag).wf = true) (l : List Tx) (a : Option Addr) (c : Nat) (hs : Ss w a (Pat.pats l)) (hl : (Pat.pats l).length ≤ 1000) (hz : tot (Pat.pats l) ≤ 100000) (line : Tx) (hll : line.length ≤ 1000) :
    Calls Tryz.prog 20 #[.int .i64 tag, rset l a c, .string (str line)] w fun e w' => e = .returned (.tuple #[.int .i64 (scanN tag l line : Int), .int .i64 (lookN tag l line : Int)]) ∧ Below w.heap.size w w' :=
  rcounts_em w tag ht (Pat.pats l) _ a c hs hl hz line hll
end Go.Proofs.YtcbhjhhajeeimaaGreat.Eng
