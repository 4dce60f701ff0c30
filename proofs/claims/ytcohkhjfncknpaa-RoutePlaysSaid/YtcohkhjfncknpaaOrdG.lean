/- More operations, for regions that draw their order; a cell of a block that was just made. -/
import Derived.Test.YtcohkhjfncknpaaOrdOps
import Derived.Test.YtcohkhjfncknpaaArr
namespace Go.Proofs.Ytcohkhjfncknpaa
open Go.RowKit
theorem cell_made (w : World) (c : Array Value) (t : TypeId) (j b : Nat) {v : Value} (hb : w.heap.size = b) (h : c[j]? = some v) : (w.alloc (.cells c t)).cell? ⟨b, j, none⟩ = some v := by
  subst hb; exact (World.cell?_alloc_at _ _ _ _ rfl).trans h
theorem of_drewC {K : Nat} {w w' : World} (h : Chg K w.drew w') : Chg K w w' := ⟨h.os, h.tape, h.output, h.size, h.block⟩
theorem ord.makes_call3 {P : Program} {o : Oper} {a : Act} {w : World} {N : Value → World → Prop} {F : FuncId} {fn : Func} {o1 o2 o3 : Operand} {ts : Array TypeId} {v1 v2 v3 : Value} {post : Ending → World → Prop} (hf : P.funcs[F]? = some fn) (hname : (fn.name == "runtime.NumGoroutine") = false) (hb : fn.body.isNone = false)
    (ho : o.op = .call { callee := .value (.func F), args := #[o1, o2, o3], argTypes := ts }) (h1 : a.eval o1 = v1) (h2 : a.eval o2 = v2) (h3 : a.eval o3 = v3) (hc : Calls P F #[v1, v2, v3] w post) (hN : ∀ e w', post e w' → ∃ v, e = .returned v ∧ N v w') : makes P o a w N :=
  makes_call hf hname hb ho (by simp [h1, h2, h3]) hc hN
theorem ord.makes_loadV {P : Program} {o : Oper} {a : Act} {w : World} {N : Value → World → Prop} {t : TypeId} {x : Operand} {vx u : Value} (ho : o.op = .load t x) (hx : a.eval x = vx) (hrun : (Instr.loadAt t vx).run P w = .ok u w) (hN : N u w) : makes P o a w N := by
  unfold makes
  have : (execOp a.eval o).run P w = .ok (.value u) w := by
    simp only [execOp, ho, hx, Sem.run_bind]
    rw [hrun]; rfl
  rw [this]; exact hN
theorem ord.makes_extract {P : Program} {o : Oper} {a : Act} {w : World} {N : Value → World → Prop} {x : Operand} {i : Nat} {vs : Array Value} {u : Value} (ho : o.op = .extract x i) (hx : a.eval x = .tuple vs) (hv : vs[i]? = some u) (hN : N u w) : makes P o a w N := by
  unfold makes
  have : (execOp a.eval o).run P w = .ok (.value u) w := by
    simp [execOp, ho, hx, Instr.extract, hv]
  rw [this]; exact hN
theorem ord.makes_call5 {P : Program} {o : Oper} {a : Act} {w : World} {N : Value → World → Prop} {F : FuncId} {fn : Func} {o1 o2 o3 o4 o5 : Operand} {ts : Array TypeId} {v1 v2 v3 v4 v5 : Value} {post : Ending → World → Prop} (hf : P.funcs[F]? = some fn) (hname : (fn.name == "runtime.NumGoroutine") = false) (hb : fn.body.isNone = false)
    (ho : o.op = .call { callee := .value (.func F), args := #[o1, o2, o3, o4, o5], argTypes := ts }) (h1 : a.eval o1 = v1) (h2 : a.eval o2 = v2) (h3 : a.eval o3 = v3) (h4 : a.eval o4 = v4) (h5 : a.eval o5 = v5) (hc : Calls P F #[v1, v2, v3, v4, v5] w post) (hN : ∀ e w', post e w' → ∃ v, e = .returned v ∧ N v w') : makes P o a w N :=
  makes_call hf hname hb ho (by simp [h1, h2, h3, h4, h5]) hc hN
end Go.Proofs.Ytcohkhjfncknpaa
