/- More operations, for regions that draw their order; nothing here hangs on the program. -/
import Derived.Test.YtlglkfgephilnaaOrdOps
namespace Go.Proofs.Ytlglkfgephilnaa.ord
open Go Go.RowKit
theorem makes_ixAddr {P : Program} {o : Oper} {a : Act} {w : World} {N : Value → World → Prop} {t : TypeId} {x i : Operand} {vx vi u : Value} (ho : o.op = .indexAddr t x i) (hx : a.eval x = vx) (hi : a.eval i = vi) (hrun : (Instr.indexAt t vx vi).run P w = .ok u w) (hN : N u w) : makes P o a w N := by
  unfold makes
  have : (execOp a.eval o).run P w = .ok (.value u) w := by
    simp only [execOp, ho, hx, hi, Sem.run_bind]
    rw [hrun]; rfl
  rw [this]; exact hN
theorem makes_callX5 {P : Program} {o : Oper} {a : Act} {w : World} {N : Value → World → Prop} {F : FuncId} {fn : Func} {o1 o2 o3 o4 o5 : Operand} {ts : Array TypeId} {v1 v2 v3 v4 v5 : Value} {post : Ending → World → Prop} (hf : P.funcs[F]? = some fn) (hname : (fn.name == "runtime.NumGoroutine") = false) (hb : fn.body.isNone = false)
    (ho : o.op = .call { callee := .value (.func F), args := #[o1, o2, o3, o4, o5], argTypes := ts }) (h1 : a.eval o1 = v1) (h2 : a.eval o2 = v2) (h3 : a.eval o3 = v3) (h4 : a.eval o4 = v4) (h5 : a.eval o5 = v5) (hc : Calls P F #[v1, v2, v3, v4, v5] w post) (hN : ∀ e w', post e w' → ∃ v, e = .returned v ∧ N v w') : makes P o a w N :=
  makes_call hf hname hb ho (by simp [h1, h2, h3, h4, h5]) hc hN
theorem makes_unOp {P : Program} {o : Oper} {a : Act} {w : World} {N : Value → World → Prop} {op : UnOp} {t : TypeId} {x : Operand} {vx u : Value} (ho : o.op = .unOp op t x) (hx : a.eval x = vx) (hrun : (Go.Op.unary op vx).run P w = .ok u w) (hN : N u w) : makes P o a w N := by
  unfold makes
  have : (execOp a.eval o).run P w = .ok (.value u) w := by
    simp only [execOp, ho, hx, Sem.run_bind]
    rw [hrun]; rfl
  rw [this]; exact hN
end Go.Proofs.Ytlglkfgephilnaa.ord
