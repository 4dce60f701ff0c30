/- Worlds that are alike but for some blocks. -/
import Derived.Test.YtcohkhjfncknpaaArr
namespace Go.Proofs.Ytcohkhjfncknpaa
open Go.RowKit
/-- w' is w but for the blocks of S and what is new -/
structure ChgS (S : Nat → Prop) (w w' : World) : Prop where
  os : w'.os = w.os
  tape : w'.tape = w.tape
  output : w'.output = w.output
  size : w.heap.size ≤ w'.heap.size
  block : ∀ k, k < w.heap.size → ¬ S k → w'.heap[k]? = w.heap[k]?
namespace ChgS
variable {S : Nat → Prop} {w w' : World}
theorem refl (S : Nat → Prop) (w : World) : ChgS S w w := ⟨rfl, rfl, rfl, Nat.le_refl _, fun _ _ _ => rfl⟩
theorem drewN (h : ChgS S w w') (n : Nat) : ChgS S w (w'.drewN n) := ⟨h.os, h.tape, h.output, h.size, h.block⟩
theorem setCell (h : ChgS S w w') {a : Addr} (ha : S a.block) (v : Value) : ChgS S w (w'.setCell a v) := by
  refine ⟨h.os, h.tape, h.output, ?_, fun k hk hn => (Below.heap_setCell w' a v k (fun e => hn (e ▸ ha))).trans (h.block k hk hn)⟩
  have := h.size
  simpa [World.setCell] using this
theorem below {B : Nat} (h : ChgS S w w') (hB : B ≤ w.heap.size) (hS : ∀ k, S k → B ≤ k) : Below B w w' := ⟨h.os, h.tape, h.output, h.size, fun k hk => h.block k (by omega) (fun e => by have := hS k e; omega)⟩
end ChgS
end Go.Proofs.Ytcohkhjfncknpaa
