/- More operations: for regions that draw their order. -/
import Derived.Test.YtlglkfgephilnaaOrdOps
namespace Go.Proofs.Ytlglkfgephilnaa.ord
open Go Go.RowKit
theorem makes_nilCheck {P : Program} {o : Oper} {a : Act} {w : World} {N : Value → World → Prop} {x : Operand} {ad : Addr} (ho : o.op = .nilCheck x) (hx : a.eval x = .pointer (some ad)) (hN : N (.pointer (some ad)) w) : makes P o a w N := by
  unfold makes
  have : (execOp a.eval o).run P w = .ok (.value (.pointer (some ad))) w := by
    simp only [execOp, ho, hx]; rfl
  rw [this]; exact hN
theorem makes_fieldAddr {P : Program} {o : Oper} {a : Act} {w : World} {N : Value → World → Prop} {t : TypeId} {f : Nat} {x : Operand} {vx u : Value} (ho : o.op = .fieldAddr t x f) (hx : a.eval x = vx) (hrun : (Instr.fieldAt t vx f).run P w = .ok u w) (hN : N u w) : makes P o a w N := by
  unfold makes
  have : (execOp a.eval o).run P w = .ok (.value u) w := by
    simp only [execOp, ho, hx, Sem.run_bind]
    rw [hrun]; rfl
  rw [this]; exact hN
end Go.Proofs.Ytlglkfgephilnaa.ord
