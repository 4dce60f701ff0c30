/- Runs of single operations on ints; append of one int. -/
import Derived.Test.YtogcfaijphpgfaaDoorOrdU
namespace Go.Proofs.YtogcfaijphpgfaaDoor
open Go.RowKit
theorem run_addI (x y : Operand) (a b : Int) (c : Nat) (h : a + b = (c : Nat)) (hc : c < 9223372036854775808) (w : World) :
    (do eqGuard .add 3 x y (.int .i64 a) (.int .i64 b); binOp .add 3 (.int .i64 a) (.int .i64 b) : Sem Value).run Tryd.prog w = .ok (.int .i64 (c : Nat)) w := by
  have h2 : IntKind.i64.wrap (c : Int) = (c : Nat) := IntWalk.i64_in _ (by omega)
  go_simp
theorem run_mulI (x y : Operand) (a b : Int) (c : Nat) (h : a * b = (c : Nat)) (hc : c < 9223372036854775808) (w : World) :
    (do eqGuard .mul 3 x y (.int .i64 a) (.int .i64 b); binOp .mul 3 (.int .i64 a) (.int .i64 b) : Sem Value).run Tryd.prog w = .ok (.int .i64 (c : Nat)) w := by
  have h2 : IntKind.i64.wrap (c : Int) = (c : Nat) := IntWalk.i64_in _ (by omega)
  go_simp
theorem run_subI (x y : Operand) (a b : Int) (c : Nat) (h : a - b = (c : Nat)) (hc : c < 9223372036854775808) (w : World) :
    (do eqGuard .sub 3 x y (.int .i64 a) (.int .i64 b); binOp .sub 3 (.int .i64 a) (.int .i64 b) : Sem Value).run Tryd.prog w = .ok (.int .i64 (c : Nat)) w := by
  have h2 : IntKind.i64.wrap (c : Int) = (c : Nat) := IntWalk.i64_in _ (by omega)
  go_simp
theorem run_remI (x y : Operand) (a b c : Nat) (h : a % b = c) (hb : 0 < b) (ha : a < 9223372036854775808) (w : World) :
    (do eqGuard .rem 3 x y (.int .i64 (a : Nat)) (.int .i64 (b : Nat)); binOp .rem 3 (.int .i64 (a : Nat)) (.int .i64 (b : Nat)) : Sem Value).run Tryd.prog w = .ok (.int .i64 (c : Nat)) w := by
  have h3 : ¬ b = 0 := by omega
  have h4 : ((a : Int).tmod b) = (c : Nat) := by rw [Int.tmod_eq_emod_of_nonneg (by omega)]; omega
  have h2 : IntKind.i64.wrap (c : Int) = (c : Nat) := IntWalk.i64_in _ (by have := Nat.mod_le a b; omega)
  go_simp
theorem run_quoI (x y : Operand) (a b c : Nat) (h : a / b = c) (hb : 0 < b) (ha : a < 9223372036854775808) (w : World) :
    (do eqGuard .quo 3 x y (.int .i64 (a : Nat)) (.int .i64 (b : Nat)); binOp .quo 3 (.int .i64 (a : Nat)) (.int .i64 (b : Nat)) : Sem Value).run Tryd.prog w = .ok (.int .i64 (c : Nat)) w := by
  have h3 : ¬ b = 0 := by omega
  have h4 : ((a : Int).tdiv b) = (c : Nat) := by rw [Int.tdiv_eq_ediv_of_nonneg (by omega), ← h]; simp
  have h2 : IntKind.i64.wrap (c : Int) = (c : Nat) := IntWalk.i64_in _ (by have := Nat.div_le_self a b; omega)
  go_simp
theorem run_int1 (w : World) (z : Nat) : (Instr.buildSlice 68 1 #[(0, .int .i64 (z : Nat))]).run Tryd.prog w = .ok (.slice (some ⟨w.heap.size, 0, none⟩) 1 1) (w.alloc (.cells #[.int .i64 (z : Nat)] 3)) := by go_simp
/-- append of one int -/
theorem wpList_app1I {ops : Array Oper} {rest : List Oper} {o : Oper} {a : Act} {Q : Exit → Act → World → Prop} {w : World} (hgd : o.guard = none) (s x : Operand)
    (ho : o.op = .call { callee := .builtin .append, args := #[s, x], argTypes := #[68, 68] })
    (base : Nat) (v : Value) (n : Nat) (f : Nat → Nat) (hs : a.eval s = v) (hown : OwnI w base v n f)
    (g y : Nat) (hx : a.eval x = .slice (some ⟨g, 0, none⟩) 1 1) (hc : w.cell? ⟨g, 0, none⟩ = some (.int .i64 (y : Nat))) (hn : n ≤ 1000000000000) (hbase : base ≤ w.heap.size) (hy : y = f n)
    (h : ∀ v' w', OwnI w' base v' (n + 1) f → Below base w w' → wpList Tryd.prog ops Q rest (a.put o.dst v') w') : wpList Tryd.prog ops Q (o :: rest) a w := by
  obtain ⟨i, hi, hz, hsz, hb⟩ := info_parts infoI
  refine wpList_append_own w hgd s x 68 ho base 3 i (.int .i64 0) 1 8 Tryd.underlying68 hi hz hsz hb rfl (by decide) v n _ hs hown ⟨g, 0, none⟩ 1 1 [.int .i64 (y : Nat)] hx rfl ?_ ?_ (by unfold maxLen; omega) (by omega) hbase ?_
  · intro j u hj
    match j, hj with
    | 0, hj => simp at hj; subst hj; exact hc
  · intro u hu; simp at hu; subst hu; rfl
  · intro v' w' h1 h2 _
    rw [ints_snoc n f y hy] at h1
    exact h v' w' h1 ((Below.refl base w).grown h2 hbase fun k hk => (hown.lt k hk).1)
end Go.Proofs.YtogcfaijphpgfaaDoor
