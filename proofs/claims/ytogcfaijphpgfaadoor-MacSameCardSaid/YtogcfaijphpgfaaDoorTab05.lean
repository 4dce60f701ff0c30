/- The two tables: out of the row's list to the walk's fact; a world that holds them. -/
import Derived.Test.YtogcfaijphpgfaaDoorKit
import Derived.Test.YtogcfaijphpgfaaDoorShaW
import Derived.Lib.LaidTab
namespace Go.Proofs.YtogcfaijphpgfaaDoor
open Go.ChangeShapes Go.WideShapes Go.ChangeAt Go.RowKit
theorem own : ownKnob Tryd.prog.godebug = none := by kernel_rfl
theorem laidOut : laidOutB Tryd.prog = true := by kernel_rfl
theorem gK : Tryd.prog.globalNamed "moneyer/sha.roundWords" = some 1 := by kernel_rfl
theorem gKType : (Tryd.prog.globals[1]?).map (·.type) = some 76 := by kernel_rfl
theorem gS : Tryd.prog.globalNamed "moneyer/sha.startWords" = some 0 := by kernel_rfl
theorem gSType : (Tryd.prog.globals[0]?).map (·.type) = some 64 := by kernel_rfl
theorem cellsK : Tryd.prog.cellsOf 76 = 64 := by kernel_rfl
theorem cellsS : Tryd.prog.cellsOf 64 = 8 := by kernel_rfl
theorem cellsInt : Tryd.prog.cellsOf 44 = 1 := by kernel_rfl
theorem laidK_eq {H : Type} : (Rows.laid_moneyer_sha_roundWords : DataW H) = Lib.tabData .u32 (kcL.map fun x => (x : Nat)) := rfl
theorem laidS_eq {H : Type} : (Rows.laid_moneyer_sha_startWords : DataW H) = Lib.tabData .u32 ((List.range 8).map fun i => ((at8 st0 i : Nat) : Int)) := rfl
theorem gt_of {W : World} (h : laidMetH Tryd.prog [("moneyer/sha.roundWords", Rows.laid_moneyer_sha_roundWords), ("moneyer/sha.startWords", Rows.laid_moneyer_sha_startWords)] W) : GT W := by
  have h' : laidMet Tryd.prog [("moneyer/sha.roundWords", Rows.laid_moneyer_sha_roundWords), ("moneyer/sha.startWords", Rows.laid_moneyer_sha_startWords)] W := h
  obtain ⟨ps, ⟨g, t, cs, fuel, p, q, hg, ht, hvar, hd, hrest, _⟩, _⟩ := h'
  obtain ⟨g2, t2, cs2, fuel2, p2, q2, hg2, ht2, hvar2, hd2, _, _⟩ := hrest
  obtain rfl := Option.some.inj (gK.symm.trans hg)
  obtain rfl := Option.some.inj (gKType.symm.trans ht)
  obtain rfl := Option.some.inj (gS.symm.trans hg2)
  obtain rfl := Option.some.inj (gSType.symm.trans ht2)
  rw [laidK_eq] at hd
  rw [laidS_eq] at hd2
  have e := Lib.cells_of_tab Tryd.underlying76 Tryd.underlying44 cellsInt cellsK hd
  have e2 := Lib.cells_of_tab Tryd.underlying64 Tryd.underlying44 cellsInt cellsS hd2
  constructor
  · intro i hi
    rw [World.var?_cell gK hvar i, ← Array.getElem?_toList, e, List.getElem?_map, List.getElem?_map]
    have hl : i < kcL.length := hi
    unfold kc
    rw [List.getD_eq_getElem?_getD, List.getElem?_eq_getElem hl]; rfl
  · intro i hi
    rw [World.var?_cell gS hvar2 i, ← Array.getElem?_toList, e2]
    rw [List.getElem?_map, List.getElem?_map, List.getElem?_range hi]; rfl
/-- the block's cells replaced -/
def withCells (l : List Value) : Obj → Obj
  | .cells _ t frozen => .cells l.toArray t frozen
  | o => o
/-- a world for the witness: the settled one, the tables in their places -/
noncomputable def laidWorld (os : Os) : World :=
  { World.holding Tryd.prog os ⟨#[], #[], []⟩ with heap := ((World.holding Tryd.prog os ⟨#[], #[], []⟩).heap.modify 1 (withCells (kcL.map fun (x : Nat) => Value.int .u32 (x : Int)))).modify 0 (withCells ((List.range 8).map fun i => Value.int .u32 ((at8 st0 i : Nat) : Int))) }
end Go.Proofs.YtogcfaijphpgfaaDoor
