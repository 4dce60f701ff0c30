/- Rows of structs: behind the library's sort. -/
import Derived.Test.YtcohkhjfncknpaaRowS
import Derived.Shelf.GgSortFunc.InsertionK
namespace Go.Proofs.Ytcohkhjfncknpaa
set_option maxRecDepth 100000
open Go.RowKit Go.Sort
section
variable {α : Type} [Inhabited α] {E : Enc α} {F G : List α}
theorem flatK_fl (F : List α) : flatK E.e E.k F.toArray = (E.fl F).toArray := by
  have hs : (flatK E.e E.k F.toArray).size = (E.fl F).toArray.size := by rw [size_flatK]; simp [Enc.fl_len]
  refine ext_get! hs fun t ht => ?_
  rw [size_flatK] at ht
  have hk := E.pos
  rw [get_flatK E.e E.k _ t ht]
  have hd : t / E.k < F.length := by rw [Nat.div_lt_iff_lt_mul hk]; simpa using ht
  have hm : t % E.k < E.k := Nat.mod_lt _ hk
  have hx : F[t / E.k]? = some F[t / E.k] := List.getElem?_eq_getElem hd
  have h := Enc.fl_get (E := E) hx hm
  rw [show t / E.k * E.k + t % E.k = t by rw [Nat.mul_comm]; exact Nat.div_add_mod _ _] at h
  have e1 : F.toArray[t / E.k]! = F[t / E.k] := by
    rw [getElem!_pos F.toArray (t / E.k) (by simpa using hd)]
    simp
  rw [e1]
  have hl : t % E.k < (E.e F[t / E.k]).length := by rw [E.len]; exact hm
  rw [List.getElem?_eq_getElem hl] at h
  rw [getElem!_pos (E.e F[t / E.k]) (t % E.k) hl]
  obtain ⟨h1, h2⟩ := List.getElem?_eq_some_iff.1 h
  rw [getElem!_pos (E.fl F).toArray t (by simpa using h1)]
  simpa using h2.symm
theorem put_take (cur : Array Value) (xs : List Value) (h : xs.length ≤ cur.size) : (putCells id 0 xs.toArray cur).toList.take xs.length = xs := by
  apply List.ext_getElem?
  intro j
  by_cases hj : j < xs.length
  · rw [List.getElem?_take_of_lt hj, Array.getElem?_toList]
    simp [putCells, hj, show j < cur.size by omega]
  · rw [List.getElem?_take_eq_none (by omega), List.getElem?_eq_none (by omega)]
theorem heap_sortedK {w : World} {g n : Nat} {os : Array Obj} {cur : Array Value} {e : TypeId} {fr : Nat × Nat} (F : List α) (hb : w.heap[g]? = some (.cells cur e fr)) :
    (sortWorldK E.e E.k w g 0 n F.toArray os).heap[g]? = some (.cells (putCells id 0 (E.fl F).toArray cur) e fr) := by
  have hg : g < w.heap.size := (Array.getElem?_eq_some_iff.1 hb).1
  unfold sortWorldK putRowK
  rw [flatK_fl, heap_grow_old _ _ (by simpa using hg)]
  simp [putRow, mapBlock, Sort.ahead, Array.getElem?_modify, hb, onCells]
theorem grownBy_sortedK {w : World} {g n : Nat} {os : Array Obj} (F : Array α) : w.grownBy (sortWorldK E.e E.k w g 0 n F os) (some g) := by
  refine ⟨rfl, rfl, rfl, by simp [sortWorldK, putRowK], fun k hk hne => ?_⟩
  unfold sortWorldK putRowK
  rw [heap_grow_old _ _ (by simpa using hk)]
  have : g ≠ k := fun e => hne (by rw [e])
  simp [putRow, mapBlock, Sort.ahead, Array.getElem?_modify, this]
/-- what the sort asks of the row -/
theorem OwL.holds {T : TypeId} {w : World} {base g n c : Nat} (h : OwL E T w base (.slice (some ⟨g, 0, none⟩) n c) F) : HoldsK E.e E.k w g 0 F.toArray ∧ g < w.heap.size := by
  rcases h with ⟨h1, ⟨h2, _⟩ | ⟨g', cap, cur, e2, hg, hh, r1, r2, r3, r4⟩⟩
  · cases h2
  · injection e2 with e3 e4 e5
    injection e3 with e3
    injection e3 with e3
    subst e3
    refine ⟨?_, (Array.getElem?_eq_some_iff.1 hh).1⟩
    unfold HoldsK
    rw [flatK_fl]
    intro j hj
    have hj' : j < (E.fl F).length := by simpa using hj
    refine ⟨?_, by simp [World.frozen?, hh]⟩
    have h5 : (cur.toList.take (F.length * E.k))[j]? = (E.fl F)[j]? := by rw [r4]
    rw [List.getElem?_take_of_lt (by rw [← Enc.fl_len]; exact hj')] at h5
    simp only [World.cell?, hh, Nat.zero_add]
    simp only [Option.isSome_none, Bool.false_eq_true, if_false]
    rw [← Array.getElem?_toList, h5]
    simp [hj']
/-- what the sort leaves -/
theorem OwL.sorted {T : TypeId} {w : World} {base g m c n : Nat} {os : Array Obj} (h : OwL E T w base (.slice (some ⟨g, 0, none⟩) m c) F) (hl : G.length = F.length) : OwL E T (sortWorldK E.e E.k w g 0 n G.toArray os) base (.slice (some ⟨g, 0, none⟩) m c) G := by
  rcases h with ⟨h1, ⟨h2, _⟩ | ⟨g', cap, cur, e2, hg, hh, r1, r2, r3, r4⟩⟩
  · cases h2
  · injection e2 with e3 e4 e5
    injection e3 with e3
    injection e3 with e3
    subst e3 e4 e5
    refine ⟨Enc.fl_len G, Or.inr ⟨g, c, _, by rw [hl], hg, heap_sortedK G hh, by rw [hl]; exact r1, r2, by simp [putCells, r3], ?_⟩⟩
    rw [← Enc.fl_len]
    exact put_take cur _ (by rw [Enc.fl_len, hl, r3]; exact Nat.mul_le_mul_right _ r1)
end
end Go.Proofs.Ytcohkhjfncknpaa
