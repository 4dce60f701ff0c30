/- Rows of bytes in the middle of a block; worlds that differ in one block. -/
import Derived.Test.YtcohkhjfncknpaaRowB
import Derived.Test.YtcohkhjfncknpaaByN
import Derived.Deep.MidRow
namespace Go.Proofs.Ytcohkhjfncknpaa
open Go.RowKit

/-- n bytes lie in block g from o on, and may be written -/
def Arr (w : World) (g o n : Nat) (cur : Nat → Nat) : Prop := ∀ j, j < n → w.cell? ⟨g, o + j, none⟩ = some (.int .u8 (cur j : Nat)) ∧ w.frozen? ⟨g, o + j, none⟩ = false
/-- w' is w but for block K and what is new -/
structure Chg (K : Nat) (w w' : World) : Prop where
  os : w'.os = w.os
  tape : w'.tape = w.tape
  output : w'.output = w.output
  size : w.heap.size ≤ w'.heap.size
  block : ∀ k, k < w.heap.size → k ≠ K → w'.heap[k]? = w.heap[k]?
namespace Chg
variable {K : Nat} {w w' w'' : World}
theorem refl (K : Nat) (w : World) : Chg K w w := ⟨rfl, rfl, rfl, Nat.le_refl _, fun _ _ _ => rfl⟩
theorem of_below (h : Below w.heap.size w w') : Chg K w w' := ⟨h.os, h.tape, h.output, h.size, fun k hk _ => h.block k hk⟩
theorem trans (h : Chg K w w') (h' : Chg K w' w'') : Chg K w w'' :=
  ⟨h'.os.trans h.os, h'.tape.trans h.tape, h'.output.trans h.output, Nat.le_trans h.size h'.size, fun k hk hn => (h'.block k (Nat.lt_of_lt_of_le hk h.size) hn).trans (h.block k hk hn)⟩
theorem thenNew {L : Nat} (h : Chg K w w') (h' : Chg L w' w'') (hL : w.heap.size ≤ L) : Chg K w w'' :=
  ⟨h'.os.trans h.os, h'.tape.trans h.tape, h'.output.trans h.output, Nat.le_trans h.size h'.size, fun k hk hn => (h'.block k (Nat.lt_of_lt_of_le hk h.size) (by omega)).trans (h.block k hk hn)⟩
theorem thenBelow (h : Chg K w w') (h' : Below w'.heap.size w' w'') : Chg K w w'' := h.trans (of_below h')
theorem below {B : Nat} (h : Chg K w w') (hB : B ≤ w.heap.size) (hK : B ≤ K) : Below B w w' := ⟨h.os, h.tape, h.output, h.size, fun k hk => h.block k (by omega) (by omega)⟩
theorem alloc (h : Chg K w w') (o : Obj) : Chg K w (w'.alloc o) := h.thenBelow ((Below.refl _ _).alloc (Nat.le_refl _) o)
theorem drew (h : Chg K w w') : Chg K w w'.drew := ⟨h.os, h.tape, h.output, h.size, h.block⟩
theorem drewN (h : Chg K w w') (n : Nat) : Chg K w (w'.drewN n) := ⟨h.os, h.tape, h.output, h.size, h.block⟩
theorem setCell (h : Chg K w w') {a : Addr} (ha : a.block = K ∨ w.heap.size ≤ a.block) (v : Value) : Chg K w (w'.setCell a v) := by
  refine ⟨h.os, h.tape, h.output, ?_, fun k hk hn => (Below.heap_setCell w' a v k (by omega)).trans (h.block k hk hn)⟩
  have := h.size
  simpa [World.setCell] using this
theorem setCells (b : Nat) (hb : b = K ∨ w.heap.size ≤ b) : ∀ (vs : List Value) (o : Nat) (w' : World), Chg K w w' → Chg K w (w'.setCells b o vs)
  | [], _, _, h => h
  | v :: r, o, w', h => by
    rw [World.setCells]
    exact setCells b hb r (o + 1) _ (h.setCell (a := ⟨b, o, none⟩) hb v)
theorem cell (h : Chg K w w') {g o : Nat} (hg : g < w.heap.size) (hK : g ≠ K) : w'.cell? ⟨g, o, none⟩ = w.cell? ⟨g, o, none⟩ := World.cell?_of_block (h.block g hg hK)
theorem frozen (h : Chg K w w') {g o : Nat} (hg : g < w.heap.size) (hK : g ≠ K) : w'.frozen? ⟨g, o, none⟩ = w.frozen? ⟨g, o, none⟩ := World.frozen?_of_block (h.block g hg hK)
end Chg
theorem size_setCell (w : World) (a : Addr) (v : Value) : (w.setCell a v).heap.size = w.heap.size := by simp [World.setCell]
theorem size_setCells (b : Nat) : ∀ (vs : List Value) (o : Nat) (w : World), (w.setCells b o vs).heap.size = w.heap.size
  | [], _, _ => rfl
  | v :: r, o, w => by rw [World.setCells, size_setCells b r (o + 1), size_setCell]
theorem bytesL_length (n : Nat) (f : Nat → Nat) : (bytesL n f).length = n := by simp [bytesL]
theorem bytesL_at {n : Nat} {f : Nat → Nat} {j : Nat} (hj : j < n) : (bytesL n f)[j]? = some (.int .u8 (f j : Nat)) := by
  unfold bytesL
  rw [List.getElem?_map, List.getElem?_range hj]; rfl
theorem bytesL_congr {n : Nat} {f g : Nat → Nat} (h : ∀ j, j < n → f j = g j) : bytesL n f = bytesL n g := List.map_congr_left fun j hj => by rw [h j (List.mem_range.1 hj)]
namespace Arr
variable {w w' : World} {g o n : Nat} {cur f : Nat → Nat}
theorem congr (h : Arr w g o n cur) (e : ∀ j, j < n → cur j = f j) : Arr w g o n f := fun j hj => by rw [← e j hj]; exact h j hj
theorem cell (h : Arr w g o n cur) {j k : Nat} (hj : j < n) (hk : k = o + j) : w.cell? ⟨g, k, none⟩ = some (.int .u8 (cur j : Nat)) := by subst hk; exact (h j hj).1
theorem frozen (h : Arr w g o n cur) {j k : Nat} (hj : j < n) (hk : k = o + j) : w.frozen? ⟨g, k, none⟩ = false := by subst hk; exact (h j hj).2
theorem lt (h : Arr w g o n cur) (hn : 0 < n) : g < w.heap.size := block_lt (h 0 hn).1
theorem of_block (h : Arr w g o n cur) (e : w'.heap[g]? = w.heap[g]?) : Arr w' g o n cur := fun j hj => ⟨(World.cell?_of_block e).trans (h j hj).1, (World.frozen?_of_block e).trans (h j hj).2⟩
theorem drewN (h : Arr w g o n cur) (k : Nat) : Arr (w.drewN k) g o n cur := h
theorem drew (h : Arr w g o n cur) : Arr w.drew g o n cur := h
theorem keep (h : Arr w g o n cur) (hb : Below w.heap.size w w') : Arr w' g o n cur := fun j hj => (h.of_block (hb.block g (h.lt (by omega)))) j hj
theorem alloc (h : Arr w g o n cur) (ob : Obj) : Arr (w.alloc ob) g o n cur := h.keep ((Below.refl _ _).alloc (Nat.le_refl _) ob)
theorem chg {K : Nat} (h : Arr w g o n cur) (hc : Chg K w w') (hK : g ≠ K) : Arr w' g o n cur := fun j hj => (h.of_block (hc.block g (h.lt (by omega)) hK)) j hj
theorem setOther (h : Arr w g o n cur) {a : Addr} (ha : g ≠ a.block) (v : Value) : Arr (w.setCell a v) g o n cur := h.of_block (Below.heap_setCell w a v g ha)
theorem setApart (h : Arr w g o n cur) {k : Nat} (hk : k < o ∨ o + n ≤ k) (v : Value) : Arr (w.setCell ⟨g, k, none⟩ v) g o n cur := fun j hj =>
  ⟨(World.cell?_setCell_other w ⟨g, k, none⟩ ⟨g, o + j, none⟩ v (fun e => by have := congrArg Addr.off e; simp at this; omega)).trans (h j hj).1, by rw [World.frozen?_setCell]; exact (h j hj).2⟩
theorem set (h : Arr w g o n cur) {k i : Nat} (hi : i < n) (hk : k = o + i) (x : Nat) {v : Value} (hv : v = .int .u8 (x : Nat)) : Arr (w.setCell ⟨g, k, none⟩ v) g o n (fun j => if j = i then x else cur j) := fun j hj => by
  subst hk hv
  refine ⟨?_, by rw [World.frozen?_setCell]; exact (h j hj).2⟩
  by_cases e : j = i
  · subst e
    rw [World.cell?_setCell_same w _ _ (h j hj).1]
    show _ = some (Value.int .u8 ((if j = j then x else cur j : Nat) : Int))
    rw [if_pos rfl]
  · refine (World.cell?_setCell_other w ⟨g, o + i, none⟩ ⟨g, o + j, none⟩ _ (fun e' => by have := congrArg Addr.off e'; simp at this; omega)).trans ?_
    show _ = some (Value.int .u8 ((if j = i then x else cur j : Nat) : Int))
    rw [if_neg e]; exact (h j hj).1
theorem range (h : Arr w g o n cur) : w.rangeAt g o (bytesL n cur) := fun j v hv => by
  obtain ⟨hj, rfl⟩ := bytesL_get _ _ j v hv
  exact (h j hj).1
theorem sub (h : Arr w g o n cur) {a m o' : Nat} (ha : a + m ≤ n) (ho : o' = o + a) : Arr w g o' m (fun j => cur (a + j)) := fun j hj => by
  subst ho
  rw [Nat.add_assoc]
  exact h (a + j) (by omega)
theorem there (h : Arr w g o n cur) : w.there g o n := fun j hj => ⟨by rw [(h j hj).1]; rfl, (h j hj).2⟩
theorem there' (h : Arr w g o n cur) (f : Nat → Nat) : w.there g o (bytesL n f).toArray.size := by
  rw [List.size_toArray, bytesL_length]; exact h.there
theorem slB (h : Arr w g o n cur) (hb : By n cur) : SlB w (some ⟨g, o, none⟩) n cur := fun hn => ⟨g, o, rfl, h.lt hn, fun j hj => ⟨hb j hj, (h j hj).1⟩⟩
/-- a whole row laid -/
theorem setCells (h : Arr w g o n cur) (f : Nat → Nat) : Arr (w.setCells g o (bytesL n f)) g o n f := fun j hj => by
  refine ⟨?_, ?_⟩
  · exact World.rangeAt_setCells_same w g o (bytesL n f) (by rw [bytesL_length]; exact h.there) j _ (bytesL_at hj)
  · rw [World.frozen?_setCells]; exact (h j hj).2
theorem setCellsOther (h : Arr w g o n cur) {b : Nat} (hb : g ≠ b) (k : Nat) (vs : List Value) : Arr (w.setCells b k vs) g o n cur := fun j hj => by
  have hc : Chg b w (w.setCells b k vs) := Chg.setCells b (Or.inl rfl) vs k w (Chg.refl _ _)
  exact h.chg hc hb j hj
end Arr
theorem setCells_below (w0 w : World) (B b : Nat) (hB : B ≤ b) (vs : List Value) (o : Nat) (h : Below B w0 w) : Below B w0 (w.setCells b o vs) := by
  induction vs generalizing o w with
  | nil => exact h
  | cons v r ih => rw [World.setCells]; exact ih _ _ (h.setCell (p := ⟨b, o, none⟩) hB v)
/-- a block that is made -/
theorem arr_made (w : World) (c : Array Value) (t : TypeId) (n : Nat) (f : Nat → Nat) (hc : c = (bytesL n f).toArray) : Arr (w.alloc (.cells c t)) w.heap.size 0 n f := fun j hj => by
  subst hc
  refine ⟨(World.cell?_alloc_at _ _ _ _ rfl).trans ?_, World.frozen?_alloc_at _ _ _ _ rfl⟩
  show (bytesL n f).toArray[0 + j]? = _
  rw [Nat.zero_add, List.getElem?_toArray]
  exact bytesL_at hj
/-- an array's value -/
abbrev aggB (n : Nat) (f : Nat → Nat) : Value := .agg (bytesL n f).toArray
theorem aggB_congr {n : Nat} {f g : Nat → Nat} (h : ∀ j, j < n → f j = g j) : aggB n f = aggB n g := by unfold aggB; rw [bytesL_congr h]
theorem bytes_one' (k : Nat) (f : Nat → Nat) : (bytesL k f).toArray.all (·.oneCell') = true := all_oneCell_toArray (bytes_one k f)
/-- the load of an array of bytes -/
theorem wpList_loadR {ops : Array Oper} {rest : List Oper} {op : Oper} {a : Act} {w : World} {Q : Exit → Act → World → Prop} (hgd : op.guard = none) (ty : TypeId) (x : Operand) (ho : op.op = .load ty x)
    (b o n : Nat) (hx : a.eval x = .pointer (some ⟨b, o, none⟩)) (f : Nat → Nat) (hc : w.rangeAt b o (bytesL n f)) (d : TypeDesc) (hu : Try.prog.underlying ty = some d) (hd : d.isRow = true) (hi : (Try.prog.info? ty).map (·.size) = some n)
    (h : wpList Try.prog ops Q rest (a.put op.dst (aggB n f)) w) : wpList Try.prog ops Q (op :: rest) a w :=
  wpList_load_mid hgd ty x ho b o hx _ d hc hu hd (by rw [bytesL_length]; exact hi) h
theorem wpList_loadB {ops : Array Oper} {rest : List Oper} {op : Oper} {a : Act} {w : World} {Q : Exit → Act → World → Prop} (hgd : op.guard = none) (ty : TypeId) (x : Operand) (ho : op.op = .load ty x)
    (b o n : Nat) (hx : a.eval x = .pointer (some ⟨b, o, none⟩)) (f : Nat → Nat) (hc : Arr w b o n f) (d : TypeDesc) (hu : Try.prog.underlying ty = some d) (hd : d.isRow = true) (hi : (Try.prog.info? ty).map (·.size) = some n)
    (h : wpList Try.prog ops Q rest (a.put op.dst (aggB n f)) w) : wpList Try.prog ops Q (op :: rest) a w :=
  wpList_load_mid hgd ty x ho b o hx _ d hc.range hu hd (by rw [bytesL_length]; exact hi) h
/-- the store of an array of bytes -/
theorem wpList_storeB {ops : Array Oper} {rest : List Oper} {op : Oper} {a : Act} {w : World} {Q : Exit → Act → World → Prop} (hgd : op.guard = none) (ty : TypeId) (x y : Operand) (ho : op.op = .store ty x y)
    (b o n : Nat) (f cur : Nat → Nat) (hx : a.eval x = .pointer (some ⟨b, o, none⟩)) (hy : a.eval y = aggB n f) (hc : Arr w b o n cur) (hi : (Try.prog.info? ty).map (·.size) = some n)
    (h : ∀ w', Arr w' b o n f → Chg b w w' → wpList Try.prog ops Q rest (a.put op.dst undef) w') : wpList Try.prog ops Q (op :: rest) a w := by
  refine wpList_store_mid hgd ty x y ho b o (bytesL n f).toArray hx hy (hc.there' f) (by rw [List.size_toArray, bytesL_length]; exact hi) (bytes_one' _ _) ?_
  rw [List.toList_toArray]
  exact h _ (hc.setCells f) (Chg.setCells b (Or.inl rfl) _ _ w (Chg.refl _ _))
/-- a result that is an array of bytes -/
theorem results_cellB {fn : Func} {p : Tmp} {ty : TypeId} (h : fn.results = #[.cell p ty]) (tmps : Array Value) (w : World) (b o n : Nat) (f : Nat → Nat) (hp : tmps.getD p undef = .pointer (some ⟨b, o, none⟩)) (hc : Arr w b o n f)
    (d : TypeDesc) (hu : Try.prog.underlying ty = some d) (hd : d.isRow = true) (hi : (Try.prog.info? ty).map (·.size) = some n) : (results fn tmps).run Try.prog w = .ok (aggB n f) w := by
  have hp' : tmps[p]?.getD undef = .pointer (some ⟨b, o, none⟩) := by simpa using hp
  have hl := run_loadVar_mid (P := Try.prog) w b o ty (bytesL n f) d hc.range hu hd (by rw [bytesL_length]; exact hi)
  simp [results, h, hp', asAddr, hl, aggB]
theorem sizeU8 (w : World) : (sizeOf 5).run Try.prog w = .ok 1 w := by
  obtain ⟨i, hi, _, hs, _⟩ := info_parts info8
  simp [sizeOf, typeInfo, hi, hs]
/-- a[k] of an array's value -/
theorem index_arr (t : TypeId) (n : Nat) (f : Nat → Nat) (k x : Nat) (hu : Try.prog.underlying t = some (.array n 5)) (hk : k < n) (hx : f k = x) (w : World) :
    (Instr.index t (aggB n f) (.int .i64 (k : Nat))).run Try.prog w = .ok (.int .u8 (x : Nat)) w := by
  subst hx
  have hz := sizeU8 w
  unfold Instr.index
  simp [asIntOf, Sem.run_bind, run_underlying hu w, hz, part]
  rw [if_pos hk, bytesL_at hk]
  rfl
/-- p[l:h] of an array of bytes behind a pointer -/
theorem sl_arr (t : TypeId) (n g o l h : Nat) (hu : Try.prog.underlying t = some (.array n 5)) (hlh : l ≤ h) (hl : l < n) (hh : h ≤ n) (li hi : Int) (el : li = (l : Nat)) (eh : hi = (h : Nat)) (w : World) :
    (Instr.sliceAt t (.pointer (some ⟨g, o, none⟩)) (some (.int .i64 li)) (some (.int .i64 hi)) none).run Try.prog w = .ok (.slice (some ⟨g, o + l, none⟩) (h - l) (n - l)) w := by
  subst el eh
  have he : Try.prog.elem t = 5 := by simp [Program.elem, hu]
  have hn : Try.prog.arrayLen t = n := by simp [Program.arrayLen, hu]
  rw [run_sliceAt_array_lh (h0 := by omega) (h1 := by omega) (h2 := by rw [hn]; omega) (ht := by rw [hn, he]; exact hu), he, sizeU8]
  show Result.ok (slicedAt ⟨g, o, none⟩ _ _ _ 1) w = _
  rw [hn, Int.toNat_natCast, Int.toNat_natCast]
  unfold slicedAt
  rw [if_neg (by omega), Go.WideShapes.add_plain, Nat.mul_one]
/-- (*[n]byte)(b) -/
theorem to_arr (t : TypeId) (n : Nat) (e : TypeId) (hu : Try.prog.underlying t = some (.array n e)) (a : Option Addr) (len c : Nat) (hl : n ≤ len) (w : World) :
    (Instr.arrayAt t (.slice a len c)).run Try.prog w = .ok (.pointer a) w := by
  unfold Instr.arrayAt
  rw [Sem.run_bind, run_underlying hu w]
  simp [Nat.not_lt.2 hl]
end Go.Proofs.Ytcohkhjfncknpaa
