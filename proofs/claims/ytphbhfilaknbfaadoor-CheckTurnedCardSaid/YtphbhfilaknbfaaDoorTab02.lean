/- The table of sixteen: out of the row's list to the walk's fact; a world that holds it. -/
import Derived.Test.YtphbhfilaknbfaaDoorKit
import Derived.Test.YtphbhfilaknbfaaDoorChkA
namespace Go.Proofs.YtphbhfilaknbfaaDoor
open Go.ChangeShapes Go.WideShapes Go.ChangeAt Go.RowKit
theorem own : ownKnob Tryd.prog.godebug = none := by kernel_rfl
theorem laidOut : laidOutB Tryd.prog = true := by kernel_rfl
theorem gTab : Tryd.prog.globalNamed "moneyer/check.table" = some 0 := by kernel_rfl
theorem gTabType : (Tryd.prog.globals[0]?).map (·.type) = some 44 := by kernel_rfl
theorem cellsRow : Tryd.prog.cellsOf 44 = 16 := by kernel_rfl
theorem cellsInt : Tryd.prog.cellsOf 38 = 1 := by kernel_rfl
def row16 : List Int := (List.range 16).map fun t => (tab16 t : Nat)
theorem laid_eq {H : Type} : (Rows.laid_moneyer_check_table : DataW H) = Lib.tabData .u32 [0, 498536548, 997073096, 651767980, 1994146192, 1802195444, 1303535960, 1342533948, 3988292384, 4027552580, 3604390888, 3412177804, 2607071920, 2262029012, 2685067896, 3183342108] := rfl
theorem row_eq : [0, 498536548, 997073096, 651767980, 1994146192, 1802195444, 1303535960, 1342533948, 3988292384, 4027552580, 3604390888, 3412177804, 2607071920, 2262029012, 2685067896, 3183342108] = row16 := by decide +kernel
theorem tab_of {W : World} (h : laidMetH Tryd.prog [("moneyer/check.table", Rows.laid_moneyer_check_table)] W) : Tab W := by
  have h' : laidMet Tryd.prog [("moneyer/check.table", Rows.laid_moneyer_check_table)] W := h
  obtain ⟨ps, ⟨g, t, cs, fuel, p, q, hg, ht, hvar, hd, _, _⟩, _⟩ := h'
  obtain rfl := Option.some.inj (gTab.symm.trans hg)
  obtain rfl := Option.some.inj (gTabType.symm.trans ht)
  rw [laid_eq, row_eq] at hd
  have e := Lib.cells_of_tab Tryd.underlying44 Tryd.underlying38 cellsInt cellsRow hd
  intro i hi
  rw [World.var?_cell gTab hvar i, ← Array.getElem?_toList, e]
  unfold row16
  rw [List.getElem?_map, List.getElem?_map, List.getElem?_range hi]; rfl
/-- a world for the witness: the settled one, the table in its place -/
noncomputable def laidWorld (os : Os) : World :=
  { World.holding Tryd.prog os ⟨#[], #[], []⟩ with heap := (World.holding Tryd.prog os ⟨#[], #[], []⟩).heap.modify 0 fun
      | .cells _ t frozen => .cells ([0, 498536548, 997073096, 651767980, 1994146192, 1802195444, 1303535960, 1342533948, 3988292384, 4027552580, 3604390888, 3412177804, 2607071920, 2262029012, 2685067896, 3183342108].map fun z => Value.int .u32 z).toArray t frozen
      | o => o }
end Go.Proofs.YtphbhfilaknbfaaDoor
