/- What is picked: is it a list of which the document's words are so? -/
import Derived.Test.YtlmncljnnpnjmaaPickC
import Derived.BigQuiet
namespace Go.Proofs.Ytlmncljnnpnjmaa.Pck
open Go Go.RowKit Go.Proofs.Ytlmncljnnpnjmaa.Prs Adm Reg
set_option maxRecDepth 100000
attribute [local go_sem ↓] eql_pairs neq_pairs
/-- What is asked of the k-th piece. -/
def OkP (l q : List Pr) (k : Nat) : Prop := ∀ p, q[k]? = some p → p ∈ l ∧ (∀ x ∈ l, x.s = p.s → x.e ≤ p.e) ∧ p.s < p.e ∧ (∀ j, k = j + 1 → ∀ r, q[j]? = some r → r.e ≤ p.s)
/-- What is asked of a pair of the list. -/
def InP (q : List Pr) (x : Pr) : Prop := x.s < x.e → ∃ p ∈ q, p.s ≤ x.s ∧ x.s < p.e
def GoodP (l q : List Pr) : Prop := (∀ k, k < q.length → OkP l q k) ∧ ∀ x ∈ l, InP q x
theorem not_good1 {l q : List Pr} {k : Nat} (hk : k < q.length) (h : ¬ OkP l q k) : ¬ GoodP l q := fun g => h (g.1 k hk)
theorem not_good2 {l q : List Pr} {x : Pr} (hx : x ∈ l) (h : ¬ InP q x) : ¬ GoodP l q := fun g => h (g.2 x hx)
theorem take_snoc {l : List Pr} {k : Nat} {p : Pr} (h : l[k]? = some p) : l.take (k + 1) = l.take k ++ [p] := by
  rw [List.take_add_one, h]; rfl
def inB (x p : Pr) : Bool := decide (p.s ≤ x.s) && decide (x.s < p.e)
theorem inb_iff (q : List Pr) (x : Pr) : (decide (x.e ≤ x.s) || q.any (inB x)) = true ↔ InP q x := by
  unfold InP inB
  rw [Bool.or_eq_true, decide_eq_true_eq, List.any_eq_true]
  constructor
  · rintro (h | ⟨p, hp, h⟩) hx
    · omega
    · rw [Bool.and_eq_true, decide_eq_true_eq, decide_eq_true_eq] at h
      exact ⟨p, hp, h⟩
  · intro h
    by_cases hx : x.s < x.e
    · obtain ⟨p, hp, h1, h2⟩ := h hx
      exact .inr ⟨p, hp, by rw [Bool.and_eq_true, decide_eq_true_eq, decide_eq_true_eq]; exact ⟨h1, h2⟩⟩
    · exact .inl (by omega)
def Tells (w : World) (P : Prop) (e : Ending) (w' : World) : Prop := ∃ z : Bool, e = .returned (.bool z) ∧ (z = true ↔ P) ∧ ∃ n, w' = w.drewN n
set_option maxHeartbeats 8000000 in
theorem good_any (l q : List Pr) (al aq : Option Addr) (cl cq : Nat) (w : World) (hl : l.length ≤ 1000000) (hql : q.length ≤ 1000000) (hx : Ps w w.heap.size al l) (hy : Ps w w.heap.size aq q) :
    Calls Try.prog 17 #[.slice al l.length cl, .slice aq q.length cq] w (Tells w (GoodP l q)) := by
  have HX := Lib.hid hx
  have HY := Lib.hid hy
  clear hx hy
  go_enter Try.func17, Try.ntmps17
  go_wp2
  go_loopg [5] q.length (fun gf s5 wr => ∃ k n : Nat, k + gf = q.length ∧ s5 = .int .i64 k ∧ wr = w.drewN n ∧ ∀ j, j < k → OkP l q j)
  case atStart => exact ⟨0, 0, by omega, rfl, rfl, fun j hj => absurd hj (by omega)⟩
  case round =>
    obtain ⟨k, n, hk, rfl, rfl, hok⟩ := hrel
    have HOK := Lib.hid hok
    clear hok
    cases gk with
    | zero =>
      obtain rfl : k = q.length := by omega
      have hni : ¬ ((q.length : Int) < (q.length : Int)) := by omega
      have HG1 : Hid (∀ j, j < q.length → OkP l q j) := HOK
      clear HOK hk
      go_wp2
      go_loopg [8] l.length (fun gf s8 wr => ∃ i n : Nat, i + gf = l.length ∧ s8 = .int .i64 i ∧ wr = w.drewN n ∧ ∀ x ∈ l.take i, InP q x)
      case atStart => exact ⟨0, n, by omega, rfl, rfl, by simp⟩
      case round =>
        obtain ⟨i, n, hi, rfl, rfl, hin⟩ := hrel
        have HIN := Lib.hid hin
        clear hin
        cases gk with
        | zero =>
          obtain rfl : i = l.length := by omega
          have hni : ¬ ((l.length : Int) < (l.length : Int)) := by omega
          have HG : Hid (GoodP l q) := Lib.hid ⟨HG1.out, by have h := HIN.out; rwa [List.take_length] at h⟩
          go_wp2
          go_ret
          exact ⟨true, rfl, ⟨fun _ => HG.out, fun _ => rfl⟩, _, rfl⟩
        | succ gf =>
          have hlt2 : i < l.length := by omega
          have hli2 : (i : Int) < (l.length : Int) := by omega
          obtain ⟨b1, o1, rfl, _, hc1⟩ := HX.out (by omega)
          obtain ⟨x, hx⟩ : ∃ x, l[i]? = some x := ⟨_, List.getElem?_eq_getElem hlt2⟩
          have hxk : l[i] = x := (List.getElem?_eq_some_iff.1 hx).2
          have hd := hc1 i hlt2
          rw [hxk] at hd
          obtain ⟨d0, d1⟩ := hd
          have HT : Hid (l.take (i + 1) = l.take i ++ [x]) := Lib.hid (take_snoc hx)
          have HXM : Hid (x ∈ l) := Lib.hid (List.mem_of_getElem? hx)
          clear hx hxk hc1
          obtain ⟨e, he⟩ : ∃ e, decide (x.e ≤ x.s) = e := ⟨_, rfl⟩
          have HE := Lib.hid he
          go_wp2
          go_region
          go_wp2
          clear he
          go_loopg [9, 10] q.length (fun gf s9 s10 wr => ∃ j n : Nat, j + gf = q.length ∧ s10 = .int .i64 j ∧ s9 = .bool (e || (q.take j).any (inB x)) ∧ wr = w.drewN n)
          case atStart => exact ⟨0, _, by omega, rfl, by simp, rfl⟩
          case round =>
            obtain ⟨j, n, hj, rfl, rfl, rfl⟩ := hrel
            obtain ⟨z, hz⟩ : ∃ z, (e || (q.take j).any (inB x)) = z := ⟨_, rfl⟩
            rw [hz]
            cases gk with
            | zero =>
              obtain rfl : j = q.length := by omega
              have hni : ¬ ((q.length : Int) < (q.length : Int)) := by omega
              rw [List.take_length] at hz
              have HI : Hid (z = true ↔ InP q x) := Lib.hid (by rw [← hz, ← HE.out]; exact inb_iff q x)
              clear hz
              cases z
              · have HN : Hid (¬ GoodP l q) := Lib.hid (not_good2 HXM.out fun h => by cases HI.out.2 h)
                go_wp2
                go_ret
                exact ⟨false, rfl, ⟨(fun h => by cases h), fun h => absurd h HN.out⟩, by first | exact ⟨_, rfl⟩ | (simp only [World.drewN_drewN]; exact ⟨_, rfl⟩)⟩
              · have HY2 : Hid (InP q x) := Lib.hid (HI.out.1 rfl)
                go_wp2
                go_roundg gf
                case rel =>
                  refine ⟨i + 1, _, by omega, by go_num, rfl, fun r hr => ?_⟩
                  rw [HT.out, List.mem_append] at hr
                  rcases hr with hr | hr
                  · exact HIN.out r hr
                  · obtain rfl : r = x := by simpa using hr
                    exact HY2.out
                case measure => omega
            | succ gj =>
              have hlt3 : j < q.length := by omega
              have hli3 : (j : Int) < (q.length : Int) := by omega
              obtain ⟨b2, o2, rfl, _, hc2⟩ := HY.out (by omega)
              obtain ⟨p, hp⟩ : ∃ p, q[j]? = some p := ⟨_, List.getElem?_eq_getElem hlt3⟩
              have hd := hc2 j hlt3
              rw [(List.getElem?_eq_some_iff.1 hp).2] at hd
              obtain ⟨c0, c1⟩ := hd
              obtain ⟨u, hu⟩ : ∃ u, decide (p.s ≤ x.s) = u := ⟨_, rfl⟩
              obtain ⟨v, hv⟩ : ∃ v, decide (x.s < p.e) = v := ⟨_, rfl⟩
              have HZ : Hid ((e || (q.take (j + 1)).any (inB x)) = (z || (u && v))) := Lib.hid (by
                rw [take_snoc hp, List.any_append, ← Bool.or_assoc, hz]
                simp only [List.any_cons, List.any_nil, Bool.or_false]
                unfold inB; rw [hu, hv])
              clear hz hp hc2
              cases z <;> cases u <;> cases v
              all_goals
                go_wp2
                go_quiet (fail)
                go_wp2
                go_roundg gj
                case rel => exact ⟨j + 1, _, by omega, by go_num, by rw [HZ.out]; rfl, rfl⟩
                case measure => omega
    | succ gf =>
      have hlt : k < q.length := by omega
      have hli : (k : Int) < (q.length : Int) := by omega
      obtain ⟨b2, o2, rfl, hbl, hc⟩ := HY.out (by omega)
      obtain ⟨p, hp⟩ : ∃ p, q[k]? = some p := ⟨_, List.getElem?_eq_getElem hlt⟩
      have hpk : q[k] = p := (List.getElem?_eq_some_iff.1 hp).2
      have hd := hc k hlt
      rw [hpk] at hd
      obtain ⟨c0, c1⟩ := hd
      have HC := Lib.hid hc
      have HP := Lib.hid hp
      clear hp hpk hc
      go_wp2
      go_loopg [6, 7] l.length (fun gf s6 s7 wr => ∃ i n : Nat, i + gf = l.length ∧ s7 = .int .i64 i ∧ s6 = .bool (decide (p ∈ l.take i)) ∧ wr = w.drewN n ∧ ∀ x ∈ l.take i, x.s = p.s → x.e ≤ p.e)
      case atStart => exact ⟨0, n, by omega, rfl, by simp, rfl, by simp⟩
      case round =>
        obtain ⟨i, n, hi, rfl, rfl, rfl, hmo⟩ := hrel
        have HMO := Lib.hid hmo
        clear hmo
        cases gk with
        | zero =>
          obtain rfl : i = l.length := by omega
          have hni : ¬ ((l.length : Int) < (l.length : Int)) := by omega
          obtain ⟨z, hz⟩ : ∃ z, decide (p ∈ l.take l.length) = z := ⟨_, rfl⟩
          rw [hz]
          have HM : Hid (∀ x ∈ l, x.s = p.s → x.e ≤ p.e) := Lib.hid (by have h := HMO.out; rwa [List.take_length] at h)
          rw [List.take_length] at hz
          clear HMO
          cases z
          · have HN : Hid (¬ GoodP l q) := Lib.hid (not_good1 hlt fun ho => of_decide_eq_false hz (ho p HP.out).1)
            clear hz
            go_wp2
            go_quiet (fail)
            go_wp2
            go_ret
            exact ⟨false, rfl, ⟨(fun h => by cases h), fun h => absurd h HN.out⟩, by first | exact ⟨_, rfl⟩ | (simp only [World.drewN_drewN]; exact ⟨_, rfl⟩)⟩
          · have HPL : Hid (p ∈ l) := Lib.hid (of_decide_eq_true hz)
            obtain ⟨y, hy⟩ : ∃ y, decide (p.e ≤ p.s) = y := ⟨_, rfl⟩
            clear hz
            cases y
            · have HPE : Hid (p.s < p.e) := Lib.hid (by have := of_decide_eq_false hy; omega)
              obtain ⟨u, hu⟩ : ∃ u, decide (0 < k) = u := ⟨_, rfl⟩
              cases u
              · have HK : Hid (k = 0) := Lib.hid (by have := of_decide_eq_false hu; omega)
                go_wp2
                go_quiet (fail)
                go_wp2
                go_roundg gf
                case rel =>
                  refine ⟨k + 1, _, by omega, by go_num, rfl, fun j hj => ?_⟩
                  rcases Nat.lt_or_eq_of_le (Nat.le_of_lt_succ hj) with h | rfl
                  · exact HOK.out j h
                  · intro r hr
                    obtain rfl : p = r := Option.some.inj (HP.out.symm.trans hr)
                    exact ⟨HPL.out, HM.out, HPE.out, fun i hi => absurd HK.out (by omega)⟩
                case measure => omega
              · have hk0 : 0 < k := of_decide_eq_true hu
                obtain ⟨j, hj⟩ : ∃ j, k = j + 1 := ⟨k - 1, by omega⟩
                have hkj : (k : Int) - 1 = (j : Int) := by omega
                have hjl : j < q.length := by omega
                have hji : (j : Int) < (q.length : Int) := by omega
                obtain ⟨r, hr⟩ : ∃ r, q[j]? = some r := ⟨_, List.getElem?_eq_getElem hjl⟩
                have hd := HC.out j hjl
                rw [(List.getElem?_eq_some_iff.1 hr).2] at hd
                obtain ⟨r0, r1⟩ := hd
                have HR := Lib.hid hr
                have HJ := Lib.hid hj
                clear hr hj hk0
                obtain ⟨v, hv⟩ : ∃ v, decide (p.s < r.e) = v := ⟨_, rfl⟩
                cases v
                · go_wp2
                  go_quiet (fail)
                  go_wp2
                  go_roundg gf
                  case rel =>
                    refine ⟨k + 1, _, by omega, by go_num, rfl, fun i hi => ?_⟩
                    rcases Nat.lt_or_eq_of_le (Nat.le_of_lt_succ hi) with h | rfl
                    · exact HOK.out i h
                    · intro p2 hp2
                      obtain rfl : p = p2 := Option.some.inj (HP.out.symm.trans hp2)
                      refine ⟨HPL.out, HM.out, HPE.out, fun m hm r2 hr2 => ?_⟩
                      obtain rfl : j = m := by have := HJ.out; omega
                      obtain rfl : r = r2 := Option.some.inj (HR.out.symm.trans hr2)
                      have := of_decide_eq_false hv
                      omega
                  case measure => omega
                · have HN : Hid (¬ GoodP l q) := Lib.hid (not_good1 hlt fun ho => by
                    have h1 := (ho p HP.out).2.2.2 j HJ.out r HR.out
                    have := of_decide_eq_true hv
                    omega)
                  go_wp2
                  go_quiet (fail)
                  go_wp2
                  go_ret
                  exact ⟨false, rfl, ⟨(fun h => by cases h), fun h => absurd h HN.out⟩, by first | exact ⟨_, rfl⟩ | (simp only [World.drewN_drewN]; exact ⟨_, rfl⟩)⟩
            · have HN : Hid (¬ GoodP l q) := Lib.hid (not_good1 hlt fun ho => by
                have h1 := (ho p HP.out).2.2.1
                have := of_decide_eq_true hy
                omega)
              go_wp2
              go_quiet (fail)
              go_wp2
              go_ret
              exact ⟨false, rfl, ⟨(fun h => by cases h), fun h => absurd h HN.out⟩, by first | exact ⟨_, rfl⟩ | (simp only [World.drewN_drewN]; exact ⟨_, rfl⟩)⟩
        | succ gi =>
          have hlt2 : i < l.length := by omega
          have hli2 : (i : Int) < (l.length : Int) := by omega
          obtain ⟨b1, o1, rfl, _, hc1⟩ := HX.out (by omega)
          obtain ⟨x, hx⟩ : ∃ x, l[i]? = some x := ⟨_, List.getElem?_eq_getElem hlt2⟩
          have hxk : l[i] = x := (List.getElem?_eq_some_iff.1 hx).2
          have hd := hc1 i hlt2
          rw [hxk] at hd
          obtain ⟨d0, d1⟩ := hd
          have HT : Hid (l.take (i + 1) = l.take i ++ [x]) := Lib.hid (take_snoc hx)
          have HXM : Hid (x ∈ l) := Lib.hid (List.mem_of_getElem? hx)
          clear hx hxk hc1
          obtain ⟨z, hz⟩ : ∃ z, decide (p ∈ l.take i) = z := ⟨_, rfl⟩
          obtain ⟨y, hy⟩ : ∃ y, prEq x.s x.e p.s p.e = y := ⟨_, rfl⟩
          obtain ⟨u, hu⟩ : ∃ u, (x.s == p.s) = u := ⟨_, rfl⟩
          obtain ⟨v, hv⟩ : ∃ v, decide (p.e < x.e) = v := ⟨_, rfl⟩
          rw [hz]
          have HZ : Hid (decide (p ∈ l.take (i + 1)) = (z || y)) := Lib.hid (by
            rw [← hz, ← hy, prEq_eq, HT.out, Bool.eq_iff_iff, decide_eq_true_eq, List.mem_append, Bool.or_eq_true, decide_eq_true_eq, decide_eq_true_eq, List.mem_singleton]
            exact or_congr Iff.rfl eq_comm)
          have HM : Hid ((u && v) = false → ∀ r ∈ l.take (i + 1), r.s = p.s → r.e ≤ p.e) := Lib.hid (by
            intro h r hr he
            rw [HT.out, List.mem_append] at hr
            rcases hr with hr | hr
            · exact HMO.out r hr he
            · obtain rfl : r = x := by simpa using hr
              rw [← hu, ← hv] at h
              simp [he] at h
              exact h)
          have HN : Hid ((u && v) = true → ¬ GoodP l q) := Lib.hid (by
            intro h
            rw [← hu, ← hv] at h
            simp at h
            refine not_good1 hlt fun ho => ?_
            have := (ho p HP.out).2.1 x HXM.out h.1
            omega)
          clear hz
          cases z <;> cases y <;> cases u <;> cases v
          all_goals
            go_wp2
            go_quiet (fail)
            go_wp2
            go_quiet (fail)
            go_wp2
          all_goals first
            | (go_roundg gi
               case rel => exact ⟨i + 1, _, by omega, by go_num, by rw [HZ.out]; rfl, rfl, HM.out rfl⟩
               case measure => omega)
            | (go_ret
               exact ⟨false, rfl, ⟨(fun h => by cases h), fun h => absurd h (HN.out rfl)⟩, by first | exact ⟨_, rfl⟩ | (simp only [World.drewN_drewN]; exact ⟨_, rfl⟩)⟩)
end Go.Proofs.Ytlmncljnnpnjmaa.Pck
