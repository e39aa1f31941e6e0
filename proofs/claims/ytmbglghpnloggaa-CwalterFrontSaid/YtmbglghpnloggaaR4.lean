/- New, and what a Walter answers. -/
import Derived.Test.YtmbglghpnloggaaR3
namespace Go.Proofs.Ytmbglghpnloggaa.Wal
open Go.Proofs.Ytmbglghpnloggaa.Tri Go.Proofs.Ytmbglghpnloggaa.Lnk Go.Proofs.Ytmbglghpnloggaa.Prs Go.Proofs.Ytmbglghpnloggaa.Spa Go.Proofs.Ytmbglghpnloggaa.Cwl Go.Proofs.Ytmbglghpnloggaa.Bck Go.Proofs.Ytmbglghpnloggaa.Shf Go.Proofs.Ytmbglghpnloggaa.Reg Go.RowKit Go.Maps
set_option maxRecDepth 100000
set_option linter.unusedVariables false

/-- Where the windows of a line end. -/
def windsOf (l : List Tx) (line : Tx) : List Int := if turned l = [] then [] else List.map (fun e : Nat => (e : Int)) (windows l line (line.length + 1) (Cwl.leastOf (turned l)))
theorem ints_winds (l : List Tx) (line : Tx) : ints (windsN l line) = windsOf l line := by
  unfold ints windsN windsOf
  split <;> simp
theorem wnew_any (w : World) (xs : List TxV) (a : Option Addr) (cap : Nat) (hts : Ts w a xs) (hl : xs.length ≤ 1000) (hx : ∀ x ∈ xs, x.text.length ≤ 1000) (hz : tot (xs.map TxV.text) ≤ 2000) :
    Calls Try.prog 13 #[.slice a xs.length cap] w (GivesCw w (xs.map TxV.text)) := by
  have HBD := Lib.hid (bbuild_any w xs a cap hts hl hx)
  clear hts hl hx
  generalize xs.map TxV.text = l at *
  go_enter Try.func13, Try.ntmps13
  go_wp2_with (go_at_call 23; (with_reducible refine HBD.out.mono ?_); rintro e w1 ⟨x, rfl, hbk, hb1⟩; have HBK := Lib.hid hbk; have HB1 := Lib.hid hb1; have HSB := Lib.hid (sbuild_any w1 x l hbk hz); clear hbk hb1)
  go_wp2_with (first
    | (go_at_call 24; (with_reducible refine HSB.out.mono ?_); rintro e w2 ⟨p, rfl, hsh, hb2⟩; have HSH := Lib.hid hsh; have HB2 := Lib.hid hb2; have HBK2 := Lib.hid (HBK.out.keep hb2); have HLE := Lib.hid (bleast_any w2 x l HBK2.out); clear hsh hb2)
    | (go_at_call 25; (with_reducible refine HLE.out.mono ?_); rintro e w3 ⟨rfl, hb3⟩; have HB3 := Lib.hid hb3; clear hb3))
  go_ret
  have hb12 := HB1.out.trans (HB2.out.mono HB1.out.size)
  have hb13 := hb12.trans (HB3.out.mono hb12.size)
  refine ⟨some ⟨w3.heap.size, 0, none⟩, rfl, ⟨(fun h => by cases h), fun a h => ?_⟩, hb13.alloc hb13.size _⟩
  obtain rfl := Option.some.inj h
  have hba : Below w3.heap.size w3 (w3.alloc (.cells #[.pointer (some ⟨x, 0, none⟩), .pointer p, .int .i64 (Cwl.leastOf (turned l) : Int)] 57)) := (Below.refl _ _).alloc (Nat.le_refl _) _
  exact ⟨_, x, p, rfl, heap_alloc_new w3 _, ⟨_, (HBK2.out.keep HB3.out).keep hba⟩, (HSH.out.keep HB3.out).keep hba⟩
theorem wscan_any (w : World) (p : Option Addr) (l : List Tx) (h : Cw w p l) (line : Tx) (al : Option Addr) (cl : Nat) (hb : Ln w al line cl) (hl : line.length ≤ 1000) :
    Calls Try.prog 14 #[.pointer p, .slice al line.length cl] w (GivesPrs w (scanOf l line)) := wscan_in w p l h line al cl hb hl
theorem wends_any (w : World) (p : Option Addr) (l : List Tx) (h : Cw w p l) (line : Tx) (al : Option Addr) (cl : Nat) (hb : Ln w al line cl) (hl : line.length ≤ 1000) :
    Calls Try.prog 17 #[.pointer p, .slice al line.length cl] w (GivesIs w (windsOf l line)) := by
  have := wends_in w p l h line al cl hb hl
  rwa [ints_winds] at this
theorem scanOf_nil (line : Tx) : scanOf [] line = [] := by
  refine List.eq_nil_iff_forall_not_mem.2 fun r hr => ?_
  rw [← occ_scan] at hr
  obtain ⟨a, b, _, _, _, h, _⟩ := (mem_occ [] line r line.length (Nat.le_refl _)).1 hr
  cases h
theorem windsOf_nil (line : Tx) : windsOf [] line = [] := if_pos rfl
theorem scan_len (l : List Tx) (line : Tx) (hl : line.length ≤ 1000) : (scanOf l line).length ≤ 1000000 := by
  rw [← occ_scan]
  have h1 := occTo_len l line line.length
  have h2 := Nat.mul_le_mul hl hl
  omega
theorem windsOf_len (l : List Tx) (line : Tx) : (windsOf l line).length ≤ line.length + 1 := by
  unfold windsOf
  split
  · simp
  · rw [List.length_map]; exact winds_len _ _ _ _
end Go.Proofs.Ytmbglghpnloggaa.Wal
