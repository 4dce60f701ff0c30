/- The tables: out of the row's list to the walk's facts; a world that holds them. -/
import Derived.Test.YtgpgleojkldndaaDoorKit
import Derived.Test.YtgpgleojkldndaaDoorPanC
import Derived.Lib.LaidTab
namespace Go.Proofs.YtgpgleojkldndaaDoor
open Go.ChangeShapes Go.WideShapes Go.ChangeAt Go.RowKit
theorem own : ownKnob Tryd.prog.godebug = none := by kernel_rfl
theorem laidOut : laidOutB Tryd.prog = true := by kernel_rfl
theorem gTab : Tryd.prog.globalNamed "moneyer/digits.weights" = some 0 := by kernel_rfl
theorem gTabType : (Tryd.prog.globals[0]?).map (·.type) = some 69 := by kernel_rfl
theorem gP10Type : (Tryd.prog.globals[2]?).map (·.type) = some 91 := by kernel_rfl
theorem cellsTab : Tryd.prog.cellsOf 69 = 20 := by kernel_rfl
theorem cellsRow : Tryd.prog.cellsOf 68 = 10 := by kernel_rfl
theorem cellsInt : Tryd.prog.cellsOf 3 = 1 := by kernel_rfl
theorem cellsP10 : Tryd.prog.cellsOf 91 = 20 := by kernel_rfl
theorem cellsU64 : Tryd.prog.cellsOf 74 = 1 := by kernel_rfl
def row0 : List Int := [0, 1, 2, 3, 4, 5, 6, 7, 8, 9]
def row1 : List Int := [0, 2, 4, 6, 8, 1, 3, 5, 7, 9]
theorem laidP10_eq {H : Type} : (Rows.laid_internal_strconv_uint64pow10 : DataW H) = Lib.tabData .u64 Lib.pow10Tab := rfl
theorem pt_of {W : World} (h : laidMetH Tryd.prog [("math/bits.deBruijn32tab", Rows.laid_math_bits_deBruijn32tab), ("math/bits.deBruijn64tab", Rows.laid_math_bits_deBruijn64tab), ("internal/strconv.uint64pow10", Rows.laid_internal_strconv_uint64pow10), ("moneyer/digits.weights", Rows.laid_moneyer_digits_weights)] W) : PT W := by
  have h' : laidMet Tryd.prog [("math/bits.deBruijn32tab", Rows.laid_math_bits_deBruijn32tab), ("math/bits.deBruijn64tab", Rows.laid_math_bits_deBruijn64tab), ("internal/strconv.uint64pow10", Rows.laid_internal_strconv_uint64pow10), ("moneyer/digits.weights", Rows.laid_moneyer_digits_weights)] W := h
  obtain ⟨ps, ⟨_, _, _, _, _, _, _, _, _, _, hr1, _⟩, _⟩ := h'
  obtain ⟨_, _, _, _, _, _, _, _, _, _, hr2, _⟩ := hr1
  obtain ⟨g2, t2, cs2, fuel2, p2, q2, hg2, ht2, hvar2, hd2, hr3, _⟩ := hr2
  obtain ⟨g, t, cs, fuel, p, q, hg, ht, hvar, hd, _, _⟩ := hr3
  obtain rfl := Option.some.inj (gP10.symm.trans hg2)
  obtain rfl := Option.some.inj (gP10Type.symm.trans ht2)
  obtain rfl := Option.some.inj (gTab.symm.trans hg)
  obtain rfl := Option.some.inj (gTabType.symm.trans ht)
  constructor
  · obtain ⟨xs, m, rfl, hx, hl, hn, he⟩ := DataW.trod_array Tryd.underlying69 hd
    rw [cellsTab] at hl
    simp only [cellsRow] at he
    have hx1 : xs.map (·.1) = [Lib.tabData .i64 row0, Lib.tabData .i64 row1] := by
      have := congrArg Prod.fst hx
      simp only [Rows.laid_moneyer_digits_weights] at this
      injection this with this
      exact this.symm
    match xs, hn, hx1, he with
    | [⟨a, pa⟩, ⟨b, pb⟩], _, hx1, he =>
      simp only [List.map_cons, List.map_nil, List.cons.injEq, and_true] at hx1
      obtain ⟨rfl, rfl⟩ := hx1
      have e0 := Lib.cells_of_tab Tryd.underlying68 Tryd.underlying3 cellsInt cellsRow (he 0 (by omega))
      have e1 := Lib.cells_of_tab Tryd.underlying68 Tryd.underlying3 cellsInt cellsRow (he 1 (by omega))
      intro i hi
      rw [World.var?_cell gTab hvar i, ← Array.getElem?_toList]
      rcases Nat.lt_or_ge i 10 with h10 | h10
      · have h2 := congrArg (·[i]?) e0
        simp only [Nat.zero_mul, List.drop_zero, List.getElem?_take, if_pos h10] at h2
        rw [h2]
        have : ∀ i < 10, row0[i]? = some (wtab i) := by decide
        rw [List.getElem?_map, this i h10]; rfl
      · have h2 := congrArg (·[i - 10]?) e1
        simp only [Nat.one_mul, List.getElem?_take, if_pos (show i - 10 < 10 by omega), List.getElem?_drop, show 10 + (i - 10) = i by omega] at h2
        rw [h2]
        have : ∀ i < 10, row1[i]? = some (wtab (10 + i)) := by decide
        have h3 := this (i - 10) (by omega)
        rw [show 10 + (i - 10) = i by omega] at h3
        rw [List.getElem?_map, h3]; rfl
  · rw [laidP10_eq] at hd2
    have e := Lib.cells_of_tab Tryd.underlying91 Tryd.underlying74 cellsU64 cellsP10 hd2
    exact hvar2.trans (congrArg some (Array.ext' e))
/-- the block's cells replaced -/
def withCells (l : List Value) : Obj → Obj
  | .cells _ t frozen => .cells l.toArray t frozen
  | o => o
def t32 : List Int := [0, 1, 28, 2, 29, 14, 24, 3, 30, 22, 20, 15, 25, 17, 4, 8, 31, 27, 13, 23, 21, 19, 16, 7, 26, 12, 18, 6, 11, 5, 10, 9]
def t64 : List Int := [0, 1, 56, 2, 57, 49, 28, 3, 61, 58, 42, 50, 38, 29, 17, 4, 62, 47, 59, 36, 45, 43, 51, 22, 53, 39, 33, 30, 24, 18, 12, 5, 63, 55, 48, 27, 60, 41, 37, 16, 46, 35, 44, 21, 52, 32, 23, 11, 54, 26, 40, 15, 34, 20, 31, 10, 25, 14, 19, 9, 13, 8, 7, 6]
/-- a world for the witness: the settled one, the tables in their places -/
noncomputable def laidWorld (os : Os) : World :=
  { World.holding Tryd.prog os ⟨#[], #[], []⟩ with heap := ((((World.holding Tryd.prog os ⟨#[], #[], []⟩).heap.modify 0 (withCells ((row0 ++ row1).map fun z => Value.int .i64 z))).modify 2 (withCells (Lib.pow10Tab.map fun z => Value.int .u64 z))).modify 3 (withCells (t32.map fun z => Value.int .u8 z))).modify 4 (withCells (t64.map fun z => Value.int .u8 z)) }
end Go.Proofs.YtgpgleojkldndaaDoor
