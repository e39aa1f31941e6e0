/- The contracts of Table, Len and Bytes. -/
import Derived.Test.YtlepabeibniabaaCa
import Derived.Test.YtlepabeibniabaaWalkh
namespace Go.Proofs.Ytlepabeibniabaa.Cls
open Go.RowKit Go.Maps
set_option maxRecDepth 100000

theorem zeros : cc (fun _ => false) = Array.replicate 256 (.int .i64 0) := by
  simp only [cc, tab_none, icells, ivals, List.map_replicate, List.toArray_replicate]
theorem zero27 (w : World) : (zeroValue 27).run Try.prog w = .ok (.agg (cc (fun _ => false))) w := by
  rw [zeros]; exact (zero_of_info info27).1 w
theorem zero29 (w : World) : (zeroValue 29).run Try.prog w = .ok (.agg (cc (fun _ => false))) w := by
  rw [zeros]; exact (zero_of_info info29).1 w
set_option maxHeartbeats 1000000 in
theorem table_any (f : UInt8 → Bool) (w : World) :
    Calls Try.prog 10 #[.agg (cc f)] w fun e w' => e = .returned (.agg (cc f)) ∧ Below w.heap.size w w' := by
  have hz := zero27
  have HS := Lib.hid (cc_size f)
  have HO := Lib.hid (cc_one f)
  have hz0 := cc_size (fun _ => false)
  generalize cc (fun _ => false) = z at *
  generalize cc f = cs at *
  have HG1 := Lib.hid (heap_alloc2_old w (.cells cs 29) (.cells z 27))
  have HG2 := Lib.hid (heap_alloc2_new w (.cells cs 29) (.cells z 27))
  have HB : Hid (Below w.heap.size w ((w.alloc (.cells cs 29)).alloc (.cells z 27))) := Lib.hid (((Below.refl _ _).alloc (Nat.le_refl _) _).alloc (by simp) _)
  have HZ := Lib.hid hz0
  clear hz0
  go_enter Try.func10, Try.ntmps10
  go_wp2_with (first
    | (with_reducible refine wpList_load_row rfl 27 (.tmp 3) rfl w.heap.size rfl 29 cs (0, 0) _ HG1.out und27 rfl (by rw [HS.out]; exact size27) ?_)
    | (with_reducible refine wpList_store_row rfl 27 (.tmp 2) (.tmp 4) rfl (w.heap.size + 1) cs rfl rfl 27 z HG2.out (by rw [HS.out]; exact size27) (by rw [HS.out, HZ.out]) HO.out ?_))
  have es : ((w.alloc (.cells cs 29)).alloc (.cells z 27)).setRow (w.heap.size + 1) cs = (w.alloc (.cells cs 29)).alloc (.cells cs 27) := by
    have h := World.setRow_alloc_new (w.alloc (.cells cs 29)) z cs 27
    rw [World.size_alloc] at h
    exact h
  rw [es]
  refine bodyPost_ret (v := .agg cs) ?_ rfl ⟨rfl, ((Below.refl _ _).alloc (Nat.le_refl _) _).alloc (by simp) _⟩
  exact results_cell_row (p := 2) (ty := 27) Try.results10 _ _ (w.heap.size + 1) 27 cs (0, 0) _ rfl (heap_alloc2_new w _ _) und27 rfl (by rw [HS.out]; exact size27)
set_option maxHeartbeats 1000000 in
theorem len_any (f : UInt8 → Bool) (w : World) :
    Calls Try.prog 13 #[.agg (cc f)] w fun e w' => e = .returned (.int .i64 ((cnt f : Int) + 1)) ∧ Below w.heap.size w w' := by
  have hb : Below w.heap.size w (w.alloc (.cells (cc f) 29)) := (Below.refl _ _).alloc (Nat.le_refl _) _
  have HC : Hid (∀ c : UInt8, (w.alloc (.cells (cc f) 29)).cell? ⟨w.heap.size, c.toNat, none⟩ = some (.int .i64 (cls f c : Int))) := Lib.hid (fun c => Blkc.cell (heap_alloc_new w _) c)
  have HB := Lib.hid hb
  clear hb
  have hcn : cnt f = lastTo f 256 := rfl
  rw [hcn]
  clear hcn
  generalize cc f = cs at *
  go_enter Try.func13, Try.ntmps13
  go_wp2
  generalize w.alloc (.cells cs 29) = w1 at *
  go_loopw [3, 5] (fun v i wr => ∃ k : Nat, k ≤ 256 ∧ i = .int .i64 (k : Int) ∧ v = .int .i64 (lastTo f k : Int) ∧ wr = w1) (fun _ i _ => 256 - (intOf i).toNat)
  case atStart => exact ⟨0, by omega, rfl, rfl, rfl⟩
  case round =>
    obtain ⟨k, hk, rfl, rfl, rfl⟩ := hrel
    have hle := upTo_len f k
    by_cases hlt : k < 256
    · have hc := HC.out (UInt8.ofNat k)
      rw [ofNat_u8 k hlt] at hc
      have hk2 : (k : Int) < 256 := by omega
      have HS := Lib.hid (last_succ f k hlt)
      have HN := Lib.hid (last_next f k hlt)
      have HP := Lib.hid (cls_pos f (UInt8.ofNat k))
      have HX : Hid (max (lastTo f k) (cls f (UInt8.ofNat k)) = lastTo f (k + 1)) := Lib.hid (by
        rw [HS.out]
        by_cases q : f (UInt8.ofNat k) = true
        · rw [if_pos q, HN.out q]; omega
        · rw [if_neg q]
          have := mt HP.out.1 q
          omega)
      clear HS HN HP
      generalize cls f (UInt8.ofNat k) = x at *
      go_wp2
      refine ⟨⟨k + 1, by omega, by go_num, ?_, trivial⟩, by simp [intOf]; omega⟩
      rw [← HX.out]
      congr 1
      omega
    · obtain rfl : k = 256 := by omega
      obtain ⟨y, hy⟩ : ∃ y, y = lastTo f 256 := ⟨_, rfl⟩
      have hy2 : y ≤ 256 := by rw [hy]; exact hle
      rw [← hy]
      have HY := Lib.hid hy
      clear hy hle
      go_wp2
      go_ret
      rw [← HY.out]
      exact ⟨rfl, HB.out⟩
set_option maxHeartbeats 1000000 in
theorem bytes_any (f : UInt8 → Bool) (k : Int) (w : World) :
    Calls Try.prog 15 #[.agg (cc f), .int .i64 k] w (GivesBytes w (upTo (fun c => decide ((cls f c : Int) = k)) 256)) := by
  have HC : Hid (Blkc (w.alloc (.cells (cc f) 29)) w.heap.size 29 f) := Lib.hid (heap_alloc_new w _)
  have HB : Hid (Below w.heap.size w (w.alloc (.cells (cc f) 29))) := Lib.hid ((Below.refl _ _).alloc (Nat.le_refl _) _)
  have hs1 : (w.alloc (.cells (cc f) 29)).heap.size = w.heap.size + 1 := by simp
  generalize cc f = cs at *
  obtain ⟨p, hp⟩ : ∃ p : UInt8 → Bool, p = fun c => decide ((cls f c : Int) = k) := ⟨_, rfl⟩
  rw [← hp]
  have HP : Hid (∀ c, p c = decide ((cls f c : Int) = k)) := Lib.hid (fun c => by rw [hp])
  clear hp
  go_enter Try.func15, Try.ntmps15
  go_wp2
  generalize w.alloc (.cells cs 29) = w1 at *
  go_loopw [5, 7] (fun v i wr => ∃ j : Nat, j ≤ 256 ∧ i = .int .i64 (j : Int) ∧ wr.ownsRow w1.heap.size 5 1 v (upTo p j).length (vals (upTo p j)) ∧ Below w1.heap.size w1 wr) (fun _ i _ => 256 - (intOf i).toNat)
  case atStart => exact ⟨0, by omega, rfl, World.ownsRow_nil _ _ _ _, Below.refl _ _⟩
  case round =>
    obtain ⟨j, hj, rfl, hown, hbel⟩ := hrel
    have hle := upTo_len p j
    by_cases hlt : j < 256
    · have hk2 : (j : Int) < 256 := by omega
      have hc := (HC.out.keep hbel).cell (UInt8.ofNat j)
      rw [ofNat_u8 j hlt] at hc
      have HE := Lib.hid (HP.out (UInt8.ofNat j))
      have HU := Lib.hid (upTo_succ p j)
      have hq : IntKind.u8.wrap (j : Int) = (j : Int) := by simp [IntKind.wrap, IntKind.bits, IntKind.signed]; omega
      have HBL := Lib.hid hbel
      have HO := Lib.hid hown
      clear hbel hown
      generalize cls f (UInt8.ofNat j) = x at *
      by_cases hx : (x : Int) = k
      · have e0 : p (UInt8.ofNat j) = true := by rw [HE.out]; exact decide_eq_true hx
        have HU2 : Hid (upTo p (j + 1) = upTo p j ++ [UInt8.ofNat j]) := Lib.hid (by rw [HU.out, if_pos e0])
        have hbx : ((x : Int) == k) = true := by simp [hx]
        have HBS := Lib.hid (bs_lit wr [UInt8.ofNat j] (0, 0) #[.int .u8 (j : Int)] (by simp [ofNat_u8 j hlt]))
        have hsz := HBL.out.size
        clear e0 HE HU hx
        go_wp2_with (at_builtin; refine app_bs rfl _ _ rfl w1.heap.size _ _ _ rfl (HO.out.alloc _) (some ⟨wr.heap.size, 0, none⟩) [UInt8.ofNat j] 1 _ rfl HBS.out (fun e => by cases e) (by simp; omega) (by simp; omega) ?_; intro v2 w2 ho2 hg2; have HO2 := Lib.hid ho2; have HG2 := Lib.hid hg2; clear ho2 hg2)
        go_roundw
        case rel =>
          refine ⟨j + 1, by omega, by go_num, ?_, ?_⟩
          · rw [HU2.out]
            have e : vals (upTo p j ++ [UInt8.ofNat j]) = vals (upTo p j) ++ vals [UInt8.ofNat j] := by simp [vals]
            rw [e, List.length_append]
            exact HO2.out
          · exact (HBL.out.alloc hsz _).grown HG2.out (by simp; omega) (fun q hq => own_ge HO.out hq)
        case measure => simp [intOf]; omega
      · have e0 : p (UInt8.ofNat j) = false := by rw [HE.out]; exact decide_eq_false hx
        have HU2 : Hid (upTo p (j + 1) = upTo p j) := Lib.hid (by rw [HU.out, if_neg (by rw [e0]; decide)])
        have hbx : ((x : Int) == k) = false := by simp [hx]
        clear e0 HE HU
        go_wp2
        go_roundw
        case rel => exact ⟨j + 1, by omega, by go_num, by rw [HU2.out]; exact HO.out, HBL.out⟩
        case measure => simp [intOf]; omega
    · obtain rfl : j = 256 := by omega
      obtain ⟨y, hy⟩ : ∃ y, y = upTo p 256 := ⟨_, rfl⟩
      rw [← hy] at hown ⊢
      obtain ⟨a, cap, rfl, hbs⟩ := own_bs hown
      have HBS := Lib.hid hbs
      have HBL := Lib.hid hbel
      have HY := Lib.hid hy
      clear hbs hown hy hle hbel
      go_wp2
      go_ret
      unfold GivesBytes
      rw [← HY.out]
      exact ⟨a, cap, rfl, HBS.out, HB.out.trans (HBL.out.mono (by omega))⟩
end Go.Proofs.Ytlepabeibniabaa.Cls
