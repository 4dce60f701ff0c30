/- Rows of any values: a block known whole; a part of one. -/
import Derived.Test.YtogcfaijphpgfaaDoorArr
namespace Go.Proofs.YtogcfaijphpgfaaDoor
open Go.RowKit

def valsL (n : Nat) (f : Nat → Value) : List Value := (List.range n).map f
theorem valsL_length (n : Nat) (f : Nat → Value) : (valsL n f).length = n := by simp [valsL]
theorem valsL_at {n : Nat} {f : Nat → Value} {j : Nat} (hj : j < n) : (valsL n f)[j]? = some (f j) := by
  unfold valsL; rw [List.getElem?_map, List.getElem?_range hj]; rfl
theorem valsL_get {n : Nat} {f : Nat → Value} {j : Nat} {u : Value} (h : (valsL n f)[j]? = some u) : j < n ∧ u = f j := by
  rcases Nat.lt_or_ge j n with hj | hj
  · rw [valsL_at hj] at h; exact ⟨hj, (Option.some.inj h).symm⟩
  · rw [List.getElem?_eq_none (by rw [valsL_length]; exact hj)] at h; cases h
theorem valsL_congr {n : Nat} {f g : Nat → Value} (h : ∀ j, j < n → f j = g j) : valsL n f = valsL n g := List.map_congr_left fun j hj => h j (List.mem_range.1 hj)
theorem vals_one {n : Nat} {f : Nat → Value} (h : ∀ j, j < n → (f j).oneCell' = true) : ∀ v ∈ valsL n f, v.oneCell' = true := by
  intro u hu
  obtain ⟨j, hj⟩ := List.getElem?_of_mem hu
  obtain ⟨hk, rfl⟩ := valsL_get hj
  exact h j hk
/-- n values lie in block g from o on, and may be written -/
def ArrV (w : World) (g o n : Nat) (f : Nat → Value) : Prop := ∀ j, j < n → w.cell? ⟨g, o + j, none⟩ = some (f j) ∧ w.frozen? ⟨g, o + j, none⟩ = false
namespace ArrV
variable {w w' : World} {g o n : Nat} {cur f : Nat → Value}
theorem congr (h : ArrV w g o n cur) (e : ∀ j, j < n → cur j = f j) : ArrV w g o n f := fun j hj => by rw [← e j hj]; exact h j hj
theorem cell (h : ArrV w g o n cur) {j k : Nat} (hj : j < n) (hk : k = o + j) : w.cell? ⟨g, k, none⟩ = some (cur j) := by subst hk; exact (h j hj).1
theorem frozen (h : ArrV w g o n cur) {j k : Nat} (hj : j < n) (hk : k = o + j) : w.frozen? ⟨g, k, none⟩ = false := by subst hk; exact (h j hj).2
theorem lt (h : ArrV w g o n cur) (hn : 0 < n) : g < w.heap.size := block_lt (h 0 hn).1
theorem of_block (h : ArrV w g o n cur) (e : w'.heap[g]? = w.heap[g]?) : ArrV w' g o n cur := fun j hj => ⟨(World.cell?_of_block e).trans (h j hj).1, (World.frozen?_of_block e).trans (h j hj).2⟩
theorem drewN (h : ArrV w g o n cur) (k : Nat) : ArrV (w.drewN k) g o n cur := h
theorem drew (h : ArrV w g o n cur) : ArrV w.drew g o n cur := h
theorem keep (h : ArrV w g o n cur) (hb : Below w.heap.size w w') : ArrV w' g o n cur := fun j hj => (h.of_block (hb.block g (h.lt (by omega)))) j hj
theorem alloc (h : ArrV w g o n cur) (ob : Obj) : ArrV (w.alloc ob) g o n cur := h.keep ((Below.refl _ _).alloc (Nat.le_refl _) ob)
theorem chg {K : Nat} (h : ArrV w g o n cur) (hc : Chg K w w') (hK : g ≠ K) : ArrV w' g o n cur := fun j hj => (h.of_block (hc.block g (h.lt (by omega)) hK)) j hj
theorem setOther (h : ArrV w g o n cur) {a : Addr} (ha : g ≠ a.block) (v : Value) : ArrV (w.setCell a v) g o n cur := h.of_block (Below.heap_setCell w a v g ha)
theorem set (h : ArrV w g o n cur) {k i : Nat} (hi : i < n) (hk : k = o + i) (v : Value) : ArrV (w.setCell ⟨g, k, none⟩ v) g o n (fun j => if j = i then v else cur j) := fun j hj => by
  subst hk
  refine ⟨?_, by rw [World.frozen?_setCell]; exact (h j hj).2⟩
  by_cases e : j = i
  · subst e
    rw [World.cell?_setCell_same w _ _ (h j hj).1]
    show _ = some (if j = j then v else cur j)
    rw [if_pos rfl]
  · refine (World.cell?_setCell_other w ⟨g, o + i, none⟩ ⟨g, o + j, none⟩ _ (fun e' => by have := congrArg Addr.off e'; simp at this; omega)).trans ?_
    show _ = some (if j = i then v else cur j)
    rw [if_neg e]; exact (h j hj).1
theorem range (h : ArrV w g o n cur) : w.rangeAt g o (valsL n cur) := fun j v hv => by
  obtain ⟨hj, rfl⟩ := valsL_get hv
  exact (h j hj).1
theorem sub (h : ArrV w g o n cur) {a m o' : Nat} (ha : a + m ≤ n) (ho : o' = o + a) : ArrV w g o' m (fun j => cur (a + j)) := fun j hj => by
  subst ho
  rw [Nat.add_assoc]
  exact h (a + j) (by omega)
theorem there (h : ArrV w g o n cur) : w.there g o n := fun j hj => ⟨by rw [(h j hj).1]; rfl, (h j hj).2⟩
theorem there' (h : ArrV w g o n cur) (f : Nat → Value) : w.there g o (valsL n f).toArray.size := by
  rw [List.size_toArray, valsL_length]; exact h.there
/-- a whole row laid -/
theorem setCells (h : ArrV w g o n cur) (f : Nat → Value) : ArrV (w.setCells g o (valsL n f)) g o n f := fun j hj => by
  refine ⟨?_, ?_⟩
  · exact World.rangeAt_setCells_same w g o (valsL n f) (by rw [valsL_length]; exact h.there) j _ (valsL_at hj)
  · rw [World.frozen?_setCells]; exact (h j hj).2
end ArrV
/-- a block that is made -/
theorem arrV_made (w : World) (c : Array Value) (t : TypeId) (n : Nat) (f : Nat → Value) (hc : c = (valsL n f).toArray) : ArrV (w.alloc (.cells c t)) w.heap.size 0 n f := fun j hj => by
  subst hc
  refine ⟨(World.cell?_alloc_at _ _ _ _ rfl).trans ?_, World.frozen?_alloc_at _ _ _ _ rfl⟩
  show (valsL n f).toArray[0 + j]? = _
  rw [Nat.zero_add, List.getElem?_toArray]
  exact valsL_at hj
/-- block g is a row of n values -/
def RowV (w : World) (g : Nat) (t : TypeId) (n : Nat) (f : Nat → Value) : Prop := w.heap[g]? = some (.cells (valsL n f).toArray t (0, 0))
namespace RowV
variable {w w' : World} {g n : Nat} {t : TypeId} {cur f : Nat → Value}
theorem lt (h : RowV w g t n cur) : g < w.heap.size := (Array.getElem?_eq_some_iff.1 h).1
theorem of_block (h : RowV w g t n cur) (e : w'.heap[g]? = w.heap[g]?) : RowV w' g t n cur := e.trans h
theorem drewN (h : RowV w g t n cur) (k : Nat) : RowV (w.drewN k) g t n cur := h
theorem drew (h : RowV w g t n cur) : RowV w.drew g t n cur := h
theorem keep (h : RowV w g t n cur) (hb : Below w.heap.size w w') : RowV w' g t n cur := h.of_block (hb.block g h.lt)
theorem alloc (h : RowV w g t n cur) (o : Obj) : RowV (w.alloc o) g t n cur := h.of_block (Below.heap_alloc w o g h.lt)
theorem chg {K : Nat} (h : RowV w g t n cur) (hc : Chg K w w') (hK : g ≠ K) : RowV w' g t n cur := h.of_block (hc.block g h.lt hK)
theorem setOther (h : RowV w g t n cur) {a : Addr} (ha : g ≠ a.block) (v : Value) : RowV (w.setCell a v) g t n cur := h.of_block (Below.heap_setCell w a v g ha)
theorem congr (h : RowV w g t n cur) (e : ∀ j, j < n → cur j = f j) : RowV w g t n f := by
  unfold RowV at *; rw [← valsL_congr e]; exact h
theorem arr (h : RowV w g t n cur) : ArrV w g 0 n cur := fun j hj => by
  rw [Nat.zero_add]
  refine ⟨?_, ?_⟩
  · unfold RowV at h
    have e : (valsL n cur)[j]? = some (cur j) := valsL_at hj
    simp [World.cell?, h, e]
  · unfold RowV at h
    simp [World.frozen?, h]
theorem cell (h : RowV w g t n cur) {i : Nat} (hi : i < n) : w.cell? ⟨g, i, none⟩ = some (cur i) := h.arr.cell hi (Nat.zero_add i).symm
theorem frozen (h : RowV w g t n cur) {i : Nat} (hi : i < n) : w.frozen? ⟨g, i, none⟩ = false := h.arr.frozen hi (Nat.zero_add i).symm
theorem set (h : RowV w g t n cur) (i : Nat) (v : Value) : RowV (w.setCell ⟨g, i, none⟩ v) g t n (fun j => if j = i then v else cur j) := by
  unfold RowV at *
  rw [show (w.setCell ⟨g, i, none⟩ v).heap[g]? = some (.cells ((valsL n cur).toArray.setIfInBounds i v) t (0, 0)) by simp [World.setCell, Array.getElem?_modify, h]]
  congr 2
  apply Array.ext'
  apply List.ext_getElem?
  intro j
  simp only [List.setIfInBounds_toArray, List.getElem?_set, valsL_length]
  rcases Nat.lt_or_ge j n with hj | hj
  · rw [valsL_at hj, valsL_at hj]
    by_cases e : i = j
    · subst e; simp [hj]
    · have e2 : ¬ j = i := fun h => e h.symm
      simp [e, e2]
  · rw [List.getElem?_eq_none (by rw [valsL_length]; exact hj), List.getElem?_eq_none (by rw [valsL_length]; exact hj)]
    by_cases e : i = j
    · subst e; simp [Nat.not_lt.2 hj]
    · simp [e]
end RowV
theorem rowV_made (w : World) (c : Array Value) (t : TypeId) (n : Nat) (f : Nat → Value) (hc : c = (valsL n f).toArray) : RowV (w.alloc (.cells c t)) w.heap.size t n f := by
  subst hc; exact heap_alloc_new w _
/-- k values laid over others from a place on -/
def putV (off k : Nat) (f cur : Nat → Value) (j : Nat) : Value := if off ≤ j ∧ j < off + k then f (j - off) else cur j
theorem splice_vals (m off k : Nat) (f cur : Nat → Value) (h : off + k ≤ m) : splice (valsL m cur) off (valsL k f) = valsL m (putV off k f cur) := by
  unfold splice valsL
  apply List.ext_getElem?
  intro j
  simp only [List.length_map, List.length_range, List.getElem?_append, List.getElem?_take, List.getElem?_drop, List.length_take, List.getElem?_map]
  rw [Nat.min_eq_left (show off ≤ m by omega)]
  unfold putV
  by_cases h1 : j < off
  · rw [if_pos h1, if_pos h1, List.getElem?_range (by omega)]
    simp only [Option.map_some]
    rw [if_neg (by omega)]
  · rw [if_neg h1]
    by_cases h2 : j < off + k
    · rw [if_pos (by omega), List.getElem?_range (by omega), List.getElem?_range (by omega)]
      simp only [Option.map_some]
      rw [if_pos ⟨by omega, h2⟩]
    · rw [if_neg (by omega), show off + k + (j - off - k) = j by omega]
      by_cases hj : j < m
      · rw [List.getElem?_range hj]
        simp only [Option.map_some]
        rw [if_neg (by omega)]
      · rw [List.getElem?_eq_none (by simpa using hj)]; rfl
theorem chg_setRow (w : World) (g : Nat) (cs : Array Value) : Chg g w (w.setRow g cs) := ⟨rfl, rfl, rfl, by simp [World.setRow], fun k _ hk => setRow_other w g k cs hk⟩
/-- copy of bytes into the middle of a block, as one step of a region that draws its order -/
theorem step_copyV {ops : Array Oper} {o : Oper} {a : Act} {w : World} {K : Act → World → Prop} {Q : Exit → Act → World → Prop} {E : Prop} (hgd : o.guard = none) (d s : Operand)
    (ho : o.op = .call { callee := .builtin .copy, args := #[d, s], argTypes := #[22, 22] })
    (g off dLen dCap : Nat) (A : Option Addr) (sLen sCap : Nat) (hd : a.eval d = .slice (some ⟨g, off, none⟩) dLen dCap) (hs : a.eval s = .slice A sLen sCap)
    (t : TypeId) (m : Nat) (cur : Nat → Value) (hg : RowV w g t m cur) (f : Nat → Nat) (hA : SlB w A sLen f) (k : Nat) (hk : k = Nat.min sLen dLen) (hfit : off + k ≤ m)
    (h : ∀ w', RowV w' g t m (putV off k (fun j => .int .u8 (f j : Nat)) cur) → Chg g w w' → K (a.put o.dst (goInt k)) w') : if Region.wanted o (yielded ops a.tmps) = true then Oper.wp Tryd.prog o a w K Q else E := by
  have hw : Region.wanted o (yielded ops a.tmps) = true := by simp [Region.wanted, hgd]
  rw [if_pos hw]
  have hl : (bytesL k f).length = k := by simp [bytesL]
  by_cases h0 : k = 0
  · subst h0
    have hrun := run_copy_none (P := Tryd.prog) w 22 22 o.type 5 (some ⟨g, off, none⟩) A dLen dCap sLen sCap Tryd.underlying22 sizeOf8 hk.symm
    unfold Oper.wp
    simp [execOp, ho, resolve, invoke, builtin, hd, hs, hrun, Result.andThen]
    refine h w ?_ (Chg.refl _ _)
    exact hg.congr fun j _ => by unfold putV; rw [if_neg (by omega)]
  · obtain ⟨_, ad, rfl, hsrc⟩ := copy_parts (k := k) hA (by rw [hk]; exact Nat.min_le_left _ _) (dp := some ⟨g, off, none⟩) (g := g) (off := off) (fun _ => rfl) (by rw [hl]; omega)
    have hrun := run_copy_row (P := Tryd.prog) w 22 22 o.type 5 g off dLen dCap ad sLen sCap (valsL m cur).toArray t (bytesL k f) Tryd.underlying22 sizeOf8 hg (by rw [hl, hk]) hsrc (by rw [hl]; simpa [valsL] using hfit) (bytes_one k f)
    unfold Oper.wp
    simp [execOp, ho, resolve, invoke, builtin, hd, hs, hrun, Result.andThen]
    rw [hl]
    refine h _ ?_ (chg_setRow w g _)
    unfold RowV
    rw [← splice_vals m off k _ cur hfit]
    have e : valsL k (fun j => Value.int .u8 (f j : Nat)) = bytesL k f := rfl
    rw [e]
    simpa [splice, hl] using setRow_heap w g _ _ t _ hg
end Go.Proofs.YtogcfaijphpgfaaDoor
