/- The table of weights: out of the row's list to the walk's fact; a world that holds it. -/
import Derived.Test.YtglajdedalikdaaDoorKit
import Derived.Test.YtglajdedalikdaaDoorLaw01a
namespace Go.Proofs.YtglajdedalikdaaDoor
open Go.ChangeShapes Go.WideShapes Go.ChangeAt Go.RowKit
theorem own : ownKnob Tryd.prog.godebug = none := by kernel_rfl
theorem laidOut : laidOutB Tryd.prog = true := by kernel_rfl
theorem gTab : Tryd.prog.globalNamed "moneyer/digits.weights" = some 0 := by kernel_rfl
theorem gTabType : (Tryd.prog.globals[0]?).map (·.type) = some 50 := by kernel_rfl
theorem cellsTab : Tryd.prog.cellsOf 50 = 20 := by kernel_rfl
theorem cellsRow : Tryd.prog.cellsOf 49 = 10 := by kernel_rfl
theorem cellsInt : Tryd.prog.cellsOf 3 = 1 := by kernel_rfl
def row0 : List Int := [0, 1, 2, 3, 4, 5, 6, 7, 8, 9]
def row1 : List Int := [0, 2, 4, 6, 8, 1, 3, 5, 7, 9]
theorem wts_of {W : World} (h : laidMetH Tryd.prog [("moneyer/digits.weights", Rows.laid_moneyer_digits_weights)] W) : Wts W := by
  have h' : laidMet Tryd.prog [("moneyer/digits.weights", Rows.laid_moneyer_digits_weights)] W := h
  obtain ⟨ps, ⟨g, t, cs, fuel, p, q, hg, ht, hvar, hd, _, _⟩, _⟩ := h'
  obtain rfl := Option.some.inj (gTab.symm.trans hg)
  obtain rfl := Option.some.inj (gTabType.symm.trans ht)
  obtain ⟨xs, m, rfl, hx, hl, hn, he⟩ := DataW.trod_array Tryd.underlying50 hd
  rw [cellsTab] at hl
  simp only [cellsRow] at he
  have hx1 : xs.map (·.1) = [Lib.tabData .i64 row0, Lib.tabData .i64 row1] := by
    have := congrArg Prod.fst hx
    simp only [Rows.laid_moneyer_digits_weights] at this
    injection this with this
    exact this.symm
  match xs, hn, hx1, he with
  | [⟨a, pa⟩, ⟨b, pb⟩], _, hx1, he =>
    simp only [List.map_cons, List.map_nil, List.cons.injEq, and_true] at hx1
    obtain ⟨rfl, rfl⟩ := hx1
    have e0 := Lib.cells_of_tab Tryd.underlying49 Tryd.underlying3 cellsInt cellsRow (he 0 (by omega))
    have e1 := Lib.cells_of_tab Tryd.underlying49 Tryd.underlying3 cellsInt cellsRow (he 1 (by omega))
    intro i hi
    rw [World.var?_cell gTab hvar i, ← Array.getElem?_toList]
    rcases Nat.lt_or_ge i 10 with h10 | h10
    · have h2 := congrArg (·[i]?) e0
      simp only [Nat.zero_mul, List.drop_zero, List.getElem?_take, if_pos h10] at h2
      rw [h2]
      have : ∀ i < 10, row0[i]? = some (wtab i) := by decide
      rw [List.getElem?_map, this i h10]; rfl
    · have h2 := congrArg (·[i - 10]?) e1
      simp only [Nat.one_mul, List.getElem?_take, if_pos (show i - 10 < 10 by omega), List.getElem?_drop, show 10 + (i - 10) = i by omega] at h2
      rw [h2]
      have : ∀ i < 10, row1[i]? = some (wtab (10 + i)) := by decide
      have h3 := this (i - 10) (by omega)
      rw [show 10 + (i - 10) = i by omega] at h3
      rw [List.getElem?_map, h3]; rfl
/-- a world for the witness: the settled one, the table in its place -/
noncomputable def laidWorld (os : Os) : World :=
  { World.holding Tryd.prog os ⟨#[], #[], []⟩ with heap := (World.holding Tryd.prog os ⟨#[], #[], []⟩).heap.modify 0 fun
      | .cells _ t frozen => .cells ((row0 ++ row1).map fun z => Value.int .i64 z).toArray t frozen
      | o => o }
end Go.Proofs.YtglajdedalikdaaDoor
