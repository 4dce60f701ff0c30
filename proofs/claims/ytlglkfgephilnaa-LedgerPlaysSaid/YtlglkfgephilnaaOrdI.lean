/- Operations on structs, for regions that draw their order. Nothing here hangs on the program. -/
import Derived.Test.YtlglkfgephilnaaOrdOps
import Derived.Test.YtlglkfgephilnaaOrdF
import Derived.Test.YtlglkfgephilnaaOrdT
namespace Go.Proofs.Ytlglkfgephilnaa.ord
open Go Go.RowKit
theorem makes_ld {P : Program} {o : Oper} {a : Act} {w : World} {N : Value → World → Prop} {t : TypeId} {x : Operand} {vx u : Value} (ho : o.op = .load t x) (hx : a.eval x = vx) (hrun : (Instr.loadAt t vx).run P w = .ok u w) (hN : N u w) : makes P o a w N := by
  unfold makes
  have : (execOp a.eval o).run P w = .ok (.value u) w := by
    simp only [execOp, ho, hx, Sem.run_bind]
    rw [hrun]; rfl
  rw [this]; exact hN
theorem makes_bld2 {P : Program} {o : Oper} {a : Act} {w : World} {N : Value → World → Prop} {t : TypeId} {i1 i2 : Nat} {o1 o2 : Operand} {v1 v2 u : Value} (ho : o.op = .build t #[(i1, o1), (i2, o2)]) (h1 : a.eval o1 = v1) (h2 : a.eval o2 = v2)
    (hrun : (Instr.build t #[(i1, v1), (i2, v2)]).run P w = .ok u w) (hN : N u w) : makes P o a w N := by
  unfold makes
  have : (execOp a.eval o).run P w = .ok (.value u) w := by
    have e : (#[(i1, o1), (i2, o2)] : Array (Nat × Operand)).map (fun (i, x) => (i, a.eval x)) = #[(i1, v1), (i2, v2)] := by simp [h1, h2]
    simp only [execOp, ho, Sem.run_bind]
    rw [e, hrun]; rfl
  rw [this]; exact hN
end Go.Proofs.Ytlglkfgephilnaa.ord
