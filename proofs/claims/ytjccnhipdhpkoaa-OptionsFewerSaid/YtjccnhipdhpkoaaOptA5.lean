/- Options: a word's letters. -/
import Derived.Test.YtjccnhipdhpkoaaOptA3
namespace Go.Proofs.Ytjccnhipdhpkoaa.Opt
open Go.RowKit
set_option maxRecDepth 100000

def cutW : Tx → Tx × Bool
  | [] => ([], false)
  | c :: r => if c = 45 then (r, true) else (c :: r, false)
theorem str_extract (s : Tx) (i j : Nat) : (str s).extract i j = str ((s.take j).drop i) := by
  apply ByteArray.ext
  rw [ByteArray.data_extract]
  simp [str, List.drop_take]
theorem str_list (l : Tx) : (str l).toList = l := by rw [ByteArray.toList_eq]; rfl
theorem cutp_any (s : Tx) (hs : s.length ≤ 1000000000) (w : World) :
    Calls Try.prog 23 #[.string (str s), .string ⟨#[45]⟩] w fun e w' => e = .returned (.tuple #[.string (str (cutW s).1), .bool (cutW s).2]) ∧ w = w' := by
  have hz := str_size s
  cases s with
  | nil =>
    go_enter Try.func23, Try.ntmps23
    go_wp2
    exact bodyPost_ret (v := .tuple #[.string (str []), .bool false]) (by simp [results, Try.results23, go_sem]) rfl ⟨rfl, rfl⟩
  | cons c r =>
    have hge : (1 : Int) ≤ (r.length : Int) + 1 := by omega
    have h1 : (str (c :: r)).extract 0 1 = str [c] := by rw [str_extract]; simp
    have h2 : (str (c :: r)).extract 1 (r.length + 1) = str r := by rw [str_extract]; simp
    have h3 := str_list [c]
    by_cases hc : c = 45
    · subst hc
      have hb : (([45] : Tx) == [45]) = true := by decide
      go_enter Try.func23, Try.ntmps23
      go_wp2
      exact bodyPost_ret (v := .tuple #[.string (str r), .bool true]) (by simp [results, Try.results23, go_sem]) rfl ⟨rfl, rfl⟩
    · have hb : (([c] : Tx) == [45]) = false := by simp [hc]
      have hcw : cutW (c :: r) = (c :: r, false) := by simp [cutW, hc]
      rw [hcw]
      go_enter Try.func23, Try.ntmps23
      go_wp2
      exact bodyPost_ret (v := .tuple #[.string (str (c :: r)), .bool false]) (by simp [results, Try.results23, go_sem]) rfl ⟨rfl, rfl⟩
end Go.Proofs.Ytjccnhipdhpkoaa.Opt
