/- More operations: for regions that draw their order. -/
import Derived.Test.YtogcfaijphpgfaaDoorOrdT
import Derived.Test.YtogcfaijphpgfaaDoorOrdOps
import Derived.Test.YtogcfaijphpgfaaDoorRef05B
namespace Go.Proofs.YtogcfaijphpgfaaDoor
open Go.RowKit
namespace ord
section
variable {P : Program} {ops : Array Oper} {o : Oper} {a : Act} {w : World} {N : Value → World → Prop}
theorem makes_indexAddr {t : TypeId} {x i : Operand} {vx vi u : Value} (ho : o.op = .indexAddr t x i) (hx : a.eval x = vx) (hi : a.eval i = vi) (hrun : (Instr.indexAt t vx vi).run P w = .ok u w) (hN : N u w) : makes P o a w N := by
  unfold makes
  have : (execOp a.eval o).run P w = .ok (.value u) w := by
    simp only [execOp, ho, hx, hi, Sem.run_bind]
    rw [hrun]; rfl
  rw [this]; exact hN
theorem makes_load {t : TypeId} {x : Operand} {vx u : Value} (ho : o.op = .load t x) (hx : a.eval x = vx) (hrun : (Instr.loadAt t vx).run P w = .ok u w) (hN : N u w) : makes P o a w N := by
  unfold makes
  have : (execOp a.eval o).run P w = .ok (.value u) w := by
    simp only [execOp, ho, hx, Sem.run_bind]
    rw [hrun]; rfl
  rw [this]; exact hN
end
end ord
theorem run_idx8 (B o n c q : Nat) (hq : q < n) (w : World) : (Instr.indexAt 22 (.slice (some ⟨B, o, none⟩) n c) (.int .i64 (q : Nat))).run Tryd.prog w = .ok (.pointer (some ⟨B, o + q, none⟩)) w := by
  have hq2 : (q : Int) < n := by omega
  go_simp
theorem run_load8 (p : Addr) (x : Nat) (w : World) (h : w.cell? p = some (.int .u8 (x : Nat))) : (Instr.loadAt 5 (.pointer (some p))).run Tryd.prog w = .ok (.int .u8 (x : Nat)) w := by
  go_simp
theorem run_conv8 (x : Nat) (hx : x < 256) (w : World) : (convert 5 3 (.int .u8 (x : Nat))).run Tryd.prog w = .ok (.int .i64 (x : Nat)) w := by
  have h2 : IntKind.i64.wrap (x : Int) = (x : Nat) := IntWalk.i64_in _ (by omega)
  go_simp
end Go.Proofs.YtogcfaijphpgfaaDoor
