/- Loads of whole rows in drawn regions. -/
import Derived.Test.YtlepabeibniabaaCf
namespace Go.Proofs.Ytlepabeibniabaa.Cls
open Go.RowKit
set_option maxRecDepth 100000
theorem exec_load {P : Program} {o : Oper} {a : Act} {ty : TypeId} {x : Operand} {p : Addr} {v : Value} {w : World} (ho : o.op = .load ty x) (hx : a.eval x = .pointer (some p)) (h : (loadVar ty p).run P w = .ok v w) :
    (execOp a.eval o).run P w = .ok (.value v) w := by
  unfold execOp
  simp only [ho, hx, Instr.loadAt, Instr.sureAddr, Sem.run_bind, Sem.run_pure, Result.andThen_ok, h]
theorem load29 {X Y : World} {g : Nat} {cs : Array Value} (hs : cs.size = 256) (h : X.heap[g]? = some (.cells cs 29 (0, 0))) (hb : Below X.heap.size X Y) : (loadVar 29 ⟨g, 0, none⟩).run Try.prog Y = .ok (.agg cs) Y := by
  obtain ⟨fs, hd⟩ := Cls.some29
  exact run_loadVar_row Y g 29 29 cs (0, 0) _ ((hb.block _ (txt_lt h)).trans h) hd rfl (by rw [hs]; exact size29)
theorem load27 {X Y : World} {g : Nat} {cs : Array Value} (hs : cs.size = 256) (h : X.heap[g]? = some (.cells cs 27 (0, 0))) (hb : Below X.heap.size X Y) : (loadVar 27 ⟨g, 0, none⟩).run Try.prog Y = .ok (.agg cs) Y := by
  exact run_loadVar_row Y g 27 27 cs (0, 0) _ ((hb.block _ (txt_lt h)).trans h) und27 rfl (by rw [hs]; exact size27)
end Go.Proofs.Ytlepabeibniabaa.Cls
