/- Contracts of package sha: its tables. -/
import Derived.Test.YtogcfaijphpgfaaDoorShaP
namespace Go.Proofs.YtogcfaijphpgfaaDoor
open Go.RowKit
/-- the two tables, in memory -/
structure GT (w : World) : Prop where
  k : ∀ i, i < 64 → w.cell? ⟨1, i, none⟩ = some (.int .u32 (kc i : Nat))
  h : ∀ i, i < 8 → w.cell? ⟨0, i, none⟩ = some (.int .u32 (at8 st0 i : Nat))
namespace GT
variable {w w' : World}
theorem ltk (h : GT w) : 1 < w.heap.size := block_lt (h.k 0 (by decide))
theorem lth (h : GT w) : 0 < w.heap.size := block_lt (h.h 0 (by decide))
theorem keep (h : GT w) (hb : Below w.heap.size w w') : GT w' := ⟨fun i hi => (hb.cell (p := ⟨_, i, none⟩) h.ltk).trans (h.k i hi), fun i hi => (hb.cell (p := ⟨_, i, none⟩) h.lth).trans (h.h i hi)⟩
theorem chg {K : Nat} (h : GT w) (hc : Chg K w w') (hK : 1 ≠ K ∧ 0 ≠ K) : GT w' := ⟨fun i hi => (hc.cell h.ltk hK.1).trans (h.k i hi), fun i hi => (hc.cell h.lth hK.2).trans (h.h i hi)⟩
theorem drewN (h : GT w) (n : Nat) : GT (w.drewN n) := ⟨h.k, h.h⟩
theorem alloc (h : GT w) (o : Obj) : GT (w.alloc o) := h.keep ((Below.refl _ _).alloc (Nat.le_refl _) o)
end GT
end Go.Proofs.YtogcfaijphpgfaaDoor
