/- Layer 16: a use stored into a variable of its own. -/
import Derived.Test.YtbcanfhjdllaoaaLimE
import Derived.Lib.BufferMore
namespace Go.Proofs.Ytbcanfhjdllaoaa
set_option maxRecDepth 100000
open Go.RowKit
/-- the world with the use z in block b -/
def stU (w : World) (b : Nat) (z : Us) : World := (((w.setCell ⟨b, 0, none⟩ (.string z.c)).setCell ⟨b, 1, none⟩ (.int .i64 z.w)).setCell ⟨b, 2, none⟩ (.int .i64 z.n)).setCell ⟨b, 3, none⟩ (.int .i64 z.s)
variable {w : World} {b : Nat} {y z : Us}
theorem st_heap (h : w.heap[b]? = some (.cells #[.string y.c, .int .i64 y.w, .int .i64 y.n, .int .i64 y.s] 31)) : (stU w b z).heap[b]? = some (.cells #[.string z.c, .int .i64 z.w, .int .i64 z.n, .int .i64 z.s] 31) :=
  Lib.heap_setCell_same (Lib.heap_setCell_same (Lib.heap_setCell_same (Lib.heap_setCell_same h _) _) _) _
theorem st_below {B : Nat} {a : World} (h : Below B a w) (hb : B ≤ b) : Below B a (stU w b z) := (((h.setCell hb _).setCell hb _).setCell hb _).setCell hb _
theorem fz_of {cs : Array Value} {T : TypeId} (h : w.heap[b]? = some (.cells cs T)) (i : Nat) : w.frozen? ⟨b, i, none⟩ = false := by
  simp [World.frozen?, h]
/-- what a walk through such a store asks -/
theorem st_facts (h : w.heap[b]? = some (.cells #[.string y.c, .int .i64 y.w, .int .i64 y.n, .int .i64 y.s] 31)) (s : Value) (i j : Value) :
    (w.cell? ⟨b, 0, none⟩ = some (.string y.c) ∧ w.frozen? ⟨b, 0, none⟩ = false) ∧
    ((w.setCell ⟨b, 0, none⟩ s).cell? ⟨b, 1, none⟩ = some (.int .i64 y.w) ∧ (w.setCell ⟨b, 0, none⟩ s).frozen? ⟨b, 1, none⟩ = false) ∧
    (((w.setCell ⟨b, 0, none⟩ s).setCell ⟨b, 1, none⟩ i).cell? ⟨b, 2, none⟩ = some (.int .i64 y.n) ∧ ((w.setCell ⟨b, 0, none⟩ s).setCell ⟨b, 1, none⟩ i).frozen? ⟨b, 2, none⟩ = false) ∧
    ((((w.setCell ⟨b, 0, none⟩ s).setCell ⟨b, 1, none⟩ i).setCell ⟨b, 2, none⟩ j).cell? ⟨b, 3, none⟩ = some (.int .i64 y.s) ∧ (((w.setCell ⟨b, 0, none⟩ s).setCell ⟨b, 1, none⟩ i).setCell ⟨b, 2, none⟩ j).frozen? ⟨b, 3, none⟩ = false) := by
  have h1 := Lib.heap_setCell_same (i := 0) h s
  have h2 := Lib.heap_setCell_same (i := 1) h1 i
  have h3 := Lib.heap_setCell_same (i := 2) h2 j
  exact ⟨⟨(Lib.cell_of_heap h 0).trans rfl, fz_of h 0⟩, ⟨(Lib.cell_of_heap h1 1).trans rfl, fz_of h1 1⟩, ⟨(Lib.cell_of_heap h2 2).trans rfl, fz_of h2 2⟩, ⟨(Lib.cell_of_heap h3 3).trans rfl, fz_of h3 3⟩⟩
end Go.Proofs.Ytbcanfhjdllaoaa
