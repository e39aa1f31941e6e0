/- A line of three texts with two bytes between: the closure of AdmitSides. -/
import Derived.Test.YticoahmiejgccaaAdmC
namespace Go.Proofs.Yticoahmiejgccaa.Adm
open Go.RowKit Go.Proofs.Yticoahmiejgccaa.Prs
set_option maxRecDepth 100000
set_option linter.unusedVariables false
set_option maxHeartbeats 2000000 in
theorem join_any (a b c : Tx) (aa ab ac : Option Addr) (ca cb cc pa pb pc : Nat) (s o : UInt8) (W : World) (hpa : pa < W.heap.size) (hpb : pb < W.heap.size) (hpc : pc < W.heap.size)
    (h1 : W.cell? ⟨pa, 0, none⟩ = some (.slice aa a.length ca)) (h2 : W.cell? ⟨pb, 0, none⟩ = some (.slice ab b.length cb)) (h3 : W.cell? ⟨pc, 0, none⟩ = some (.slice ac c.length cc))
    (hta : Bs W W.heap.size aa a) (htb : Bs W W.heap.size ab b) (htc : Bs W W.heap.size ac c) (hna : aa = none → ca = 0) (hnb : ab = none → cb = 0) (hnc : ac = none → cc = 0)
    (hla : a.length ≤ 100) (hlb : b.length ≤ 100) (hlc : c.length ≤ 100) :
    Calls Try.prog 19 #[.int .u8 (s.toNat : Int), .int .u8 (o.toNat : Int), .pointer (some ⟨pa, 0, none⟩), .pointer (some ⟨pb, 0, none⟩), .pointer (some ⟨pc, 0, none⟩)] W (GivesText W (a ++ [s] ++ b ++ [o] ++ c)) := by
  have HA := Lib.hid hta
  have HB := Lib.hid htb
  have HC := Lib.hid htc
  clear hta htb htc
  go_enter Try.func19, Try.ntmps19
  go_wp2_with (first
    | (at_builtin; refine app_bs rfl _ _ rfl W.heap.size _ 0 [] rfl (World.ownsRow_nil W W.heap.size 5 1) aa a ca W.heap.size rfl ((HA.out.keep (Below.refl W.heap.size W)).more (Nat.le_refl _)) hna (by simp; omega) (Nat.le_refl _) ?_; intro v1 w1 ho1 hg1; have hb1 := app_below (Below.refl W.heap.size W) (World.ownsRow_nil W W.heap.size 5 1) hg1 (Nat.le_refl _) (Nat.le_refl _); have hs1 := hb1.size)
    | (at_builtin; refine app_bs rfl _ _ rfl W.heap.size _ _ _ rfl (ho1.alloc _) (some ⟨w1.heap.size, 0, none⟩) [s] 1 _ rfl (bs_lit w1 [s] (0, 0) _ rfl) (fun e => by cases e) (by simp; omega) (by simp; omega) ?_; intro v2 w2 ho2 hg2; have hb2 := app_below (hb1.alloc hs1 _) (ho1.alloc _) hg2 (by simp; omega) (Nat.le_refl _); have hs2 := hb2.size; have k2 := (hb2.cell (p := ⟨pb, 0, none⟩) hpb).trans h2)
    | (at_builtin; refine app_bs rfl _ _ rfl W.heap.size _ _ _ rfl ho2 ab b cb w2.heap.size rfl ((HB.out.keep hb2).more hs2) hnb (by simp; omega) hs2 ?_; intro v3 w3 ho3 hg3; have hb3 := app_below hb2 ho2 hg3 hs2 (Nat.le_refl _); have hs3 := hb3.size)
    | (at_builtin; refine app_bs rfl _ _ rfl W.heap.size _ _ _ rfl (ho3.alloc _) (some ⟨w3.heap.size, 0, none⟩) [o] 1 _ rfl (bs_lit w3 [o] (0, 0) _ rfl) (fun e => by cases e) (by simp; omega) (by simp; omega) ?_; intro v4 w4 ho4 hg4; have hb4 := app_below (hb3.alloc hs3 _) (ho3.alloc _) hg4 (by simp; omega) (Nat.le_refl _); have hs4 := hb4.size; have k4 := (hb4.cell (p := ⟨pc, 0, none⟩) hpc).trans h3)
    | (at_builtin; refine app_bs rfl _ _ rfl W.heap.size _ _ _ rfl ho4 ac c cc w4.heap.size rfl ((HC.out.keep hb4).more hs4) hnc (by simp; omega) hs4 ?_; intro v5 w5 ho5 hg5; have hb5 := app_below hb4 ho4 hg5 hs4 (Nat.le_refl _); have hs5 := hb5.size))
  obtain ⟨hr5, a6, c6, rfl, ht6, hn6⟩ := own_text (l := a ++ [s] ++ b ++ [o] ++ c) ho5 (by simp [vals])
  have hl6 : (a ++ [s] ++ b ++ [o] ++ c).length ≤ c6 := by
    obtain ⟨a7, c7, e7, _, hl7, _⟩ := own_txt hr5
    cases e7
    exact hl7
  go_ret
  exact ⟨a6, c6, by simp, ht6, hl6, hn6, hb5⟩
end Go.Proofs.Yticoahmiejgccaa.Adm
