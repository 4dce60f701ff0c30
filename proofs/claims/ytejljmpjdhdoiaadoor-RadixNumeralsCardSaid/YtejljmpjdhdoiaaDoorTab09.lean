/- The table of powers: out of the row's list to the walk's fact; a world that holds it. -/
import Derived.Test.YtejljmpjdhdoiaaDoorKit
import Derived.Test.YtejljmpjdhdoiaaDoorRadA
import Derived.Lib.LaidTab
namespace Go.Proofs.YtejljmpjdhdoiaaDoor
open Go.ChangeShapes Go.WideShapes Go.ChangeAt Go.RowKit
theorem own : ownKnob Tryd.prog.godebug = none := by kernel_rfl
theorem laidOut : laidOutB Tryd.prog = true := by kernel_rfl
theorem gPow : Tryd.prog.globalNamed "moneyer/radix.powers" = some 0 := by kernel_rfl
theorem gPowType : (Tryd.prog.globals[0]?).map (·.type) = some 43 := by kernel_rfl
theorem cellsPow : Tryd.prog.cellsOf 43 = 16 := by kernel_rfl
theorem cellsPowInt : Tryd.prog.cellsOf 3 = 1 := by kernel_rfl
def powL : List Int := (List.range 16).map fun i => ((10 ^ (i + 1) : Nat) : Int)
theorem laidPow_eq {H : Type} : (Rows.laid_moneyer_radix_powers : DataW H) = Lib.tabData .i64 powL := rfl
theorem pws_of {W : World} (h : laidMetH Tryd.prog [("moneyer/radix.powers", Rows.laid_moneyer_radix_powers)] W) : Pws W := by
  have h' : laidMet Tryd.prog [("moneyer/radix.powers", Rows.laid_moneyer_radix_powers)] W := h
  obtain ⟨ps, ⟨g, t, cs, fuel, p, q, hg, ht, hvar, hd, _, _⟩, _⟩ := h'
  obtain rfl := Option.some.inj (gPow.symm.trans hg)
  obtain rfl := Option.some.inj (gPowType.symm.trans ht)
  rw [laidPow_eq] at hd
  have e := Lib.cells_of_tab Tryd.underlying43 Tryd.underlying3 cellsPowInt cellsPow hd
  intro i hi
  rw [World.var?_cell gPow hvar i, ← Array.getElem?_toList, e]
  unfold powL
  rw [List.getElem?_map, List.getElem?_map, List.getElem?_range hi]; rfl
/-- a world for the witness: the settled one, the table in its place -/
noncomputable def laidWorld (os : Os) : World :=
  { World.holding Tryd.prog os ⟨#[], #[], []⟩ with heap := (World.holding Tryd.prog os ⟨#[], #[], []⟩).heap.modify 0 fun
      | .cells _ t frozen => .cells (powL.map fun z => Value.int .i64 z).toArray t frozen
      | o => o }
end Go.Proofs.YtejljmpjdhdoiaaDoor
