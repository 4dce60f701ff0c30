/- What single operations yield: for regions that draw their order (beside Ord). Nothing here hangs on the program. -/
import Derived.Test.YtlglkfgephilnaaOrd
import Derived.WalkSpells
namespace Go.Proofs.Ytlglkfgephilnaa.ord
open Go Go.RowKit
section
variable {P : Program} {ops : Array Oper} {o : Oper} {a : Act} {w : World} {N : Value → World → Prop}
theorem want0 (h : o.guard = none) : Region.wanted o (yielded ops a.tmps) = true := by unfold Region.wanted; rw [h]
theorem wantG {g d : Nat} {b : Bool} (h : o.guard = some (g, b)) (hd : (ops[g]?).bind (·.dst) = some d) (ht : a.eval (.tmp d) = .bool b) : Region.wanted o (yielded ops a.tmps) = true := by
  unfold Region.wanted
  rw [h]
  have : yielded ops a.tmps g = some b := by
    unfold yielded
    rw [hd]
    have h2 : a.tmps.getD d undef = .bool b := ht
    rw [Array.getD_eq_getD_getElem?] at h2
    show (match a.tmps[d]? with | some (.bool b) => some b | _ => none) = some b
    cases h3 : a.tmps[d]? with
    | none => rw [h3] at h2; cases h2
    | some v =>
      rw [h3] at h2
      have h4 : v = .bool b := h2
      subst h4; rfl
  simp [this]
theorem makes_move {s : Operand} (ho : o.op = .move s) (hN : N (a.eval s) w) : makes P o a w N := by
  unfold makes; simp [execOp, ho]; exact hN
theorem makes_assign {s : Operand} (ho : o.op = .assign s) (hN : N (a.eval s) w) : makes P o a w N := by
  unfold makes; simp [execOp, ho]; exact hN
theorem makes_pick {c y n : Operand} {b : Bool} (ho : o.op = .pick c y n) (hc : a.eval c = .bool b) (hN : N (if b then a.eval y else a.eval n) w) : makes P o a w N := by
  unfold makes
  cases b <;> simp [execOp, ho, hc, asBool] <;> exact hN
theorem makes_bin {op : BinOp} {t t' : TypeId} {x y : Operand} {vx vy u : Value} (ho : o.op = .binOp op t x y t') (hx : a.eval x = vx) (hy : a.eval y = vy)
    (hrun : (do eqGuard op t x y vx vy; binOp op t vx vy : Sem Value).run P w = .ok u w) (hN : N u w) : makes P o a w N := by
  unfold makes
  have : (execOp a.eval o).run P w = .ok (.value u) w := by
    show ((execOp a.eval o).run P w) = _
    simp only [execOp, ho, hx, hy, Sem.run_bind] at hrun ⊢
    rw [hrun]; rfl
  rw [this]; exact hN
theorem makes_conv {src dst : TypeId} {x : Operand} {vx u : Value} {w' : World} (ho : o.op = .convert src dst x) (hx : a.eval x = vx) (hrun : (convert src dst vx).run P w = .ok u w') (hN : N u w') : makes P o a w N := by
  unfold makes
  have : (execOp a.eval o).run P w = .ok (.value u) w' := by
    simp only [execOp, ho, hx, Sem.run_bind]
    rw [hrun]; rfl
  rw [this]; exact hN
theorem makes_slice {t : TypeId} {x : Operand} {lo hi mx : Option Operand} {vx u : Value} {vl vh vm : Option Value} (ho : o.op = .slice t x lo hi mx) (hx : a.eval x = vx) (hl : lo.map a.eval = vl) (hh : hi.map a.eval = vh) (hm : mx.map a.eval = vm)
    (hrun : (Instr.sliceAt t vx vl vh vm).run P w = .ok u w) (hN : N u w) : makes P o a w N := by
  unfold makes
  have : (execOp a.eval o).run P w = .ok (.value u) w := by
    simp only [execOp, ho, hx, hl, hh, hm, Sem.run_bind]
    rw [hrun]; rfl
  rw [this]; exact hN
theorem makes_build {t : TypeId} {len : Nat} {parts : Array (Nat × Operand)} {vs : Array (Nat × Value)} {u : Value} {w' : World} (ho : o.op = .buildSlice t len parts) (hp : (parts.map fun (i, x) => (i, a.eval x)) = vs)
    (hrun : (Instr.buildSlice t len vs).run P w = .ok u w') (hN : N u w') : makes P o a w N := by
  unfold makes
  have : (execOp a.eval o).run P w = .ok (.value u) w' := by
    simp only [execOp, ho, hp, Sem.run_bind]
    rw [hrun]; rfl
  rw [this]; exact hN
theorem makes_call {F : FuncId} {fn : Func} {args : Array Operand} {ts : Array TypeId} {vs : Array Value} {post : Ending → World → Prop} (hf : P.funcs[F]? = some fn) (hname : (fn.name == "runtime.NumGoroutine") = false) (hb : fn.body.isNone = false)
    (ho : o.op = .call { callee := .value (.func F), args := args, argTypes := ts }) (hp : args.map a.eval = vs)
    (hc : Calls P F vs w post) (hN : ∀ e w', post e w' → ∃ v, e = .returned v ∧ N v w') : makes P o a w N := by
  unfold makes
  have : (execOp a.eval o).run P w = .ok (.enter F vs) w := by
    have hname' : ¬ fn.name = "runtime.NumGoroutine" := by simpa using hname
    have hb' : ¬ fn.body = none := by intro h; rw [h] at hb; cases hb
    simp [execOp, ho, resolve, invoke, hp, Act.eval, Deferred.ofValue, callFunc, hf, hname', hb']
  rw [this]
  exact hc.mono hN
theorem makes_build1 {t : TypeId} {len i1 : Nat} {o1 : Operand} {v1 u : Value} {w' : World} (ho : o.op = .buildSlice t len #[(i1, o1)]) (h1 : a.eval o1 = v1)
    (hrun : (Instr.buildSlice t len #[(i1, v1)]).run P w = .ok u w') (hN : N u w') : makes P o a w N := makes_build ho (by simp [h1]) hrun hN
theorem makes_build2 {t : TypeId} {len i1 i2 : Nat} {o1 o2 : Operand} {v1 v2 u : Value} {w' : World} (ho : o.op = .buildSlice t len #[(i1, o1), (i2, o2)]) (h1 : a.eval o1 = v1) (h2 : a.eval o2 = v2)
    (hrun : (Instr.buildSlice t len #[(i1, v1), (i2, v2)]).run P w = .ok u w') (hN : N u w') : makes P o a w N := makes_build ho (by simp [h1, h2]) hrun hN
theorem makes_build3 {t : TypeId} {len i1 i2 i3 : Nat} {o1 o2 o3 : Operand} {v1 v2 v3 u : Value} {w' : World} (ho : o.op = .buildSlice t len #[(i1, o1), (i2, o2), (i3, o3)]) (h1 : a.eval o1 = v1) (h2 : a.eval o2 = v2) (h3 : a.eval o3 = v3)
    (hrun : (Instr.buildSlice t len #[(i1, v1), (i2, v2), (i3, v3)]).run P w = .ok u w') (hN : N u w') : makes P o a w N := makes_build ho (by simp [h1, h2, h3]) hrun hN
theorem makes_call1 {F : FuncId} {fn : Func} {o1 : Operand} {ts : Array TypeId} {v1 : Value} {post : Ending → World → Prop} (hf : P.funcs[F]? = some fn) (hname : (fn.name == "runtime.NumGoroutine") = false) (hb : fn.body.isNone = false)
    (ho : o.op = .call { callee := .value (.func F), args := #[o1], argTypes := ts }) (h1 : a.eval o1 = v1)
    (hc : Calls P F #[v1] w post) (hN : ∀ e w', post e w' → ∃ v, e = .returned v ∧ N v w') : makes P o a w N := makes_call hf hname hb ho (by simp [h1]) hc hN
theorem makes_call2 {F : FuncId} {fn : Func} {o1 o2 : Operand} {ts : Array TypeId} {v1 v2 : Value} {post : Ending → World → Prop} (hf : P.funcs[F]? = some fn) (hname : (fn.name == "runtime.NumGoroutine") = false) (hb : fn.body.isNone = false)
    (ho : o.op = .call { callee := .value (.func F), args := #[o1, o2], argTypes := ts }) (h1 : a.eval o1 = v1) (h2 : a.eval o2 = v2)
    (hc : Calls P F #[v1, v2] w post) (hN : ∀ e w', post e w' → ∃ v, e = .returned v ∧ N v w') : makes P o a w N := makes_call hf hname hb ho (by simp [h1, h2]) hc hN
end
theorem makes_len {P : Program} {o : Oper} {a : Act} {w : World} {N : Value → World → Prop} {s : Operand} {t ty : TypeId} {vs u : Value} (ho : o.op = .call { callee := .builtin .len, args := #[s], argTypes := #[t] }) (ht : o.type = ty) (hs : a.eval s = vs)
    (hrun : (Builtin.len_ #[t] ty #[vs]).run P w = .ok u w) (hN : N u w) : makes P o a w N := by
  unfold makes
  have : (execOp a.eval o).run P w = .ok (.value u) w := by
    simp [execOp, ho, ht, resolve, invoke, builtin, hs, hrun, Result.andThen]
  rw [this]; exact hN
end Go.Proofs.Ytlglkfgephilnaa.ord
