/- The table of weights stays. -/
import Derived.Test.YtgpgleojkldndaaDoorDigA
namespace Go.Proofs.YtgpgleojkldndaaDoor
open Go.RowKit

theorem Wts.below {w w' : World} {B : Nat} (h : Wts w) (hb : Below B w w') (hB : 0 < B) : Wts w' := fun i hi => (hb.cell (p := ⟨_, i, none⟩) hB).trans (h i hi)

theorem Wts.lt {w : World} (h : Wts w) : 0 < w.heap.size := block_lt (h 0 (by omega))

theorem Wts.drewN {w : World} (h : Wts w) (n : Nat) : Wts (w.drewN n) := h

theorem Wts.keep {w w' : World} (h : Wts w) (hb : Below w.heap.size w w') : Wts w' := h.below hb h.lt
end Go.Proofs.YtgpgleojkldndaaDoor
