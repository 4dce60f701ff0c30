/- Layer 17: a post stored into a variable of its own. -/
import Derived.Test.YtlglkfgephilnaaLedE
import Derived.Lib.BufferMore
namespace Go.Proofs.Ytlglkfgephilnaa
set_option maxRecDepth 100000
open Go.RowKit
/-- the world with the post z in block b -/
def stP (w : World) (b : Nat) (z : Po) : World := (((w.setCell ⟨b, 0, none⟩ (.string z.k)).setCell ⟨b, 1, none⟩ (.int .i64 z.a)).setCell ⟨b, 2, none⟩ (.int .i64 z.s)).setCell ⟨b, 3, none⟩ (.string z.t)
variable {w : World} {b : Nat} {y z : Po}
theorem stp_heap (h : w.heap[b]? = some (.cells #[.string y.k, .int .i64 y.a, .int .i64 y.s, .string y.t] 31)) : (stP w b z).heap[b]? = some (.cells #[.string z.k, .int .i64 z.a, .int .i64 z.s, .string z.t] 31) :=
  Lib.heap_setCell_same (Lib.heap_setCell_same (Lib.heap_setCell_same (Lib.heap_setCell_same h _) _) _) _
theorem stp_below {B : Nat} {a : World} (h : Below B a w) (hb : B ≤ b) : Below B a (stP w b z) := (((h.setCell hb _).setCell hb _).setCell hb _).setCell hb _
theorem fzp_of {cs : Array Value} {T : TypeId} (h : w.heap[b]? = some (.cells cs T)) (i : Nat) : w.frozen? ⟨b, i, none⟩ = false := by
  simp [World.frozen?, h]
/-- what a walk through such a store asks -/
theorem stp_facts (h : w.heap[b]? = some (.cells #[.string y.k, .int .i64 y.a, .int .i64 y.s, .string y.t] 31)) (s : Value) (i j : Value) :
    (w.cell? ⟨b, 0, none⟩ = some (.string y.k) ∧ w.frozen? ⟨b, 0, none⟩ = false) ∧
    ((w.setCell ⟨b, 0, none⟩ s).cell? ⟨b, 1, none⟩ = some (.int .i64 y.a) ∧ (w.setCell ⟨b, 0, none⟩ s).frozen? ⟨b, 1, none⟩ = false) ∧
    (((w.setCell ⟨b, 0, none⟩ s).setCell ⟨b, 1, none⟩ i).cell? ⟨b, 2, none⟩ = some (.int .i64 y.s) ∧ ((w.setCell ⟨b, 0, none⟩ s).setCell ⟨b, 1, none⟩ i).frozen? ⟨b, 2, none⟩ = false) ∧
    ((((w.setCell ⟨b, 0, none⟩ s).setCell ⟨b, 1, none⟩ i).setCell ⟨b, 2, none⟩ j).cell? ⟨b, 3, none⟩ = some (.string y.t) ∧ (((w.setCell ⟨b, 0, none⟩ s).setCell ⟨b, 1, none⟩ i).setCell ⟨b, 2, none⟩ j).frozen? ⟨b, 3, none⟩ = false) := by
  have h1 := Lib.heap_setCell_same (i := 0) h s
  have h2 := Lib.heap_setCell_same (i := 1) h1 i
  have h3 := Lib.heap_setCell_same (i := 2) h2 j
  exact ⟨⟨(Lib.cell_of_heap h 0).trans rfl, fzp_of h 0⟩, ⟨(Lib.cell_of_heap h1 1).trans rfl, fzp_of h1 1⟩, ⟨(Lib.cell_of_heap h2 2).trans rfl, fzp_of h2 2⟩, ⟨(Lib.cell_of_heap h3 3).trans rfl, fzp_of h3 3⟩⟩
end Go.Proofs.Ytlglkfgephilnaa
