/- The reference's Pieces; are pieces the same? -/
import Derived.Test.YtlpjghhmacobdaaCutB
namespace Go.Proofs.Ytlpjghhmacobdaa.Cts
open Go.Proofs.Ytlpjghhmacobdaa.Tri Go.Proofs.Ytlpjghhmacobdaa.Lnk Go.Proofs.Ytlpjghhmacobdaa.Reg Go.RowKit Go.Maps
set_option maxRecDepth 100000
set_option linter.unusedVariables false

theorem str_mid (x : Tx) (p q : Nat) (h : p ≤ q) : (str x).extract p q = str ((x.drop p).take (q - p)) := by
  unfold str
  rw [ByteArray.extract_mk]
theorem run_mid (x : Tx) (p q : Nat) (h : p ≤ q) (hq : q ≤ x.length) (w : World) : (Instr.slice 9 (.string (str x)) (some (.int .i64 (p : Int))) (some (.int .i64 (q : Int))) none).run Try.prog w = .ok (.string (str ((x.drop p).take (q - p)))) w := by
  have hz := str_size x
  rw [run_slice_string (P := Try.prog) w 9 (str x) .i64 .i64 (p : Int) (q : Int) und9 (by omega) (by omega) (by rw [hz]; omega)]
  have e1 : (p : Int).toNat = p := by omega
  have e2 : (q : Int).toNat = q := by omega
  rw [e1, e2, str_mid x p q h]
def GivesStrs (w : World) (l : List Tx) (e : Ending) (w' : World) : Prop := ∃ (a : Option Addr) (c : Nat), e = .returned (.slice a l.length c) ∧ Ss w' a l ∧ Below w.heap.size w w'
set_option maxHeartbeats 4000000 in
theorem rpieces_any (w : World) (t : Tx) (htl : t.length ≤ 1000000) (l : List Int) (hw : ∀ i ∈ l, (Lit.int .i64 i).wf = true) (a : Option Addr) (c : Nat) (h : Is w w.heap.size a l) (hl : l.length ≤ 1000000) :
    Calls Try.prog 10 #[.string (str t), .slice a l.length c] w (GivesStrs w (pieces t l)) := by
  have hz := str_size t
  have HR := Lib.hid (rplaces_any w (t.length : Int) (by simp [Lit.wf, IntKind.min, IntKind.max, IntKind.bits, IntKind.signed]; omega) l hw a c h hl)
  clear h hw
  rw [Int.toNat_natCast] at HR
  have hpl := places_len t.length l
  go_enter Try.func10, Try.ntmps10
  go_wp2_with fail
  refine HR.out.mono ?_
  rintro e w1 ⟨a1, c1, rfl, hi1, _, hb1⟩
  rw [ints_len, hpl]
  have HI := Lib.hid hi1
  have HB1 := Lib.hid hb1
  have hsz1 := hb1.size
  clear HR hi1 hb1
  go_wp2_with fail
  go_loopw [6, 7, 8] (fun v la i wr => ∃ k : Nat, k ≤ l.length ∧ i = .int .i64 (k : Int) ∧ la = .int .i64 ((lastOf t.length 0 (l.take k) : Nat) : Int) ∧ wr.ownsRow w1.heap.size 9 1 v k (svals (mids t 0 (places t.length (l.take k)))) ∧ Below w1.heap.size w1 wr) (fun _ _ i _ => l.length - (intOf i).toNat)
  case atStart => exact ⟨0, Nat.zero_le _, rfl, rfl, World.ownsRow_nil _ _ _ _, Below.refl _ _⟩
  case round =>
    obtain ⟨k, hk, rfl, rfl, hown, hbel⟩ := hrel
    have HO := Lib.hid hown
    have HB := Lib.hid hbel
    have hsz := hbel.size
    clear hown hbel
    have hle := lastOf_le (l.take k) 0 (Nat.zero_le t.length)
    by_cases hlt : k < l.length
    · have hkl : (k : Int) < (l.length : Int) := by omega
      obtain ⟨b, off, rfl, hbl, hc⟩ := HI.out (by rw [ints_len, hpl]; omega)
      have hat : (ints (places t.length l))[k]'(by rw [ints_len, hpl]; exact hlt) = ((place1 t.length (lastOf t.length 0 (l.take k)) l[k] : Nat) : Int) := by
        unfold ints
        rw [List.getElem_map]
        exact congrArg _ (places_at t.length l 0 k hlt)
      have c2 := (HB.out.cell (p := ⟨b, off + k, none⟩) hbl).trans (hc k (by rw [ints_len, hpl]; exact hlt))
      rw [hat] at c2
      have HT := Lib.hid (places_take t.length l k hlt)
      have HL := Lib.hid (lastOf_take t.length l k hlt)
      have hge := place1_ge hle l[k]
      have hp2 := place1_le t.length (lastOf t.length 0 (l.take k)) l[k]
      have hms := mids_snoc t (place1 t.length (lastOf t.length 0 (l.take k)) l[k]) (places t.length (l.take k)) 0
      have hlp : lastP 0 (places t.length (l.take k)) = lastOf t.length 0 (l.take k) := lastP_places t.length (l.take k) 0
      rw [hlp] at hms
      clear hc hat hlp
      generalize place1 t.length (lastOf t.length 0 (l.take k)) l[k] = p at *
      generalize lastOf t.length 0 (l.take k) = la at *
      have hrm := run_mid t la p hge hp2
      have HMS := Lib.hid hms
      have SN : ∀ (v2 : Value) (w2 : World), w2.ownsRow w1.heap.size 9 1 v2 (k + 1) (svals (mids t 0 (places t.length (l.take k)) ++ [(t.drop la).take (p - la)])) → w2.ownsRow w1.heap.size 9 1 v2 (k + 1) (svals (mids t 0 (places t.length (l.take (k + 1))))) := fun v2 w2 h => by rw [HT.out, HMS.out]; exact h
      clear hms
      generalize (t.drop la).take (p - la) = y at *
      go_wp2_with (at_builtin; refine app_ss rfl _ _ rfl w1.heap.size _ _ (mids t 0 (places t.length (l.take k))) y rfl (HO.out.alloc _) ⟨wr.heap.size, 0, none⟩ rfl (cell_new1 _ _ _) (by omega) (by simp; omega) ?_; intro v2 w2 hown2 hg2; have HO2 := Lib.hid (SN _ _ hown2); have HB2 := Lib.hid ((HB.out.alloc hsz _).grown hg2 (by simp; omega) (fun q hq => own_ge HO.out hq)); have c3 := (HB2.out.cell (p := ⟨b, off + k, none⟩) hbl).trans (((HB.out.cell (p := ⟨b, off + k, none⟩) hbl).symm).trans c2); clear hown2 hg2)
      go_roundw
      case rel => exact ⟨k + 1, by omega, by go_num, by rw [HL.out], HO2.out, HB2.out⟩
      case measure => simp [intOf]; omega
    · obtain rfl : k = l.length := by omega
      rw [List.take_length] at HO hle ⊢
      have hex := Lnk.str_drop t (lastOf t.length 0 l)
      have HPC : Hid (pieces t l = mids t 0 (places t.length l) ++ [t.drop (lastOf t.length 0 l)]) := Lib.hid rfl
      have hlen := pieces_len t l
      generalize lastOf t.length 0 l = la at *
      generalize t.drop la = y at *
      go_wp2_with (at_builtin; refine app_ss rfl _ _ rfl w1.heap.size _ _ (mids t 0 (places t.length l)) y rfl (HO.out.alloc _) ⟨wr.heap.size, 0, none⟩ rfl (cell_new1 _ _ _) (by omega) (by simp; omega) ?_; intro v2 w2 hown2 hg2; have HO2 : Hid (w2.ownsRow w1.heap.size 9 1 v2 (pieces t l).length (svals (pieces t l))) := Lib.hid (by rw [hlen, HPC.out]; exact hown2); have HB2 := Lib.hid ((HB.out.alloc hsz _).grown hg2 (by simp; omega) (fun q hq => own_ge HO.out hq)); clear hown2 hg2)
      go_ret
      obtain ⟨a2, cap, e, hi, _⟩ := own_ss HO2.out
      exact ⟨a2, cap, by rw [← e]; rfl, hi, HB1.out.trans (HB2.out.mono HB1.out.size)⟩
end Go.Proofs.Ytlpjghhmacobdaa.Cts
