/- More of rows of bytes in the middle of a block. -/
import Derived.Test.YtgfdnhpfdbaddaaArr
namespace Go.Proofs.Ytgfdnhpfdbaddaa
open Go.RowKit
/-- p[:] of an array of bytes behind a pointer -/
theorem all_arr (t : TypeId) (n g o : Nat) (hu : Try.prog.underlying t = some (.array n 5)) (hn : 0 < n) (w : World) :
    (Instr.sliceAt t (.pointer (some ⟨g, o, none⟩)) none none none).run Try.prog w = .ok (.slice (some ⟨g, o, none⟩) n n) w := by
  have he : Try.prog.elem t = 5 := by simp [Program.elem, hu]
  have hl : Try.prog.arrayLen t = n := by simp [Program.arrayLen, hu]
  rw [run_sliceAt_array_all (ht := by rw [hl, he]; exact hu), he, sizeU8]
  show Result.ok (slicedAt ⟨g, o, none⟩ _ _ _ 1) w = _
  rw [hl]
  unfold slicedAt
  rw [if_neg (by omega), Go.WideShapes.add_plain, Nat.zero_mul, Nat.add_zero, Nat.sub_zero]
theorem upto_step (f h : Nat → Nat) (k x : Nat) (hx : h k = x) (j : Nat) : (if j = k then x else if j < k then h j else f j) = if j < k + 1 then h j else f j := by
  by_cases e : j = k
  · subst e; rw [if_pos rfl, if_pos (Nat.lt_succ_self _), hx]
  · rw [if_neg e]
    by_cases h : j < k
    · rw [if_pos h, if_pos (by omega)]
    · rw [if_neg h, if_neg (by omega)]
theorem arr_of_list {w : World} {g o n : Nat} {f : Nat → Nat} {L : List Value} {t : TypeId} (h : w.heap[g]? = some (.cells L.toArray t (0, 0))) (hL : ∀ j, j < n → L[o + j]? = (bytesL n f)[j]?) : Arr w g o n f := fun j hj => by
  refine ⟨?_, by simp [World.frozen?, h]⟩
  simp only [World.cell?, h]
  rw [List.getElem?_toArray, hL j hj, bytesL_at hj]
  rfl
theorem cell_off {w : World} {g k j : Nat} (hkj : k ≠ j) (v : Value) : (w.setCell ⟨g, k, none⟩ v).cell? ⟨g, j, none⟩ = w.cell? ⟨g, j, none⟩ :=
  World.cell?_setCell_other w ⟨g, k, none⟩ ⟨g, j, none⟩ v (fun e => hkj (congrArg Addr.off e))
end Go.Proofs.Ytgfdnhpfdbaddaa
