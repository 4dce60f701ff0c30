/- 12 texts in one, in their order: what the cards need of them. -/
import Derived.Test.YthmlcmlpmolmoaaGreatDoorSk0
import Derived.Deep.MidRow
import Derived.Laws.BitsAllLaws
import Derived.Laws.BitsLemmas
import Derived.Test.YthmlcmlpmolmoaaGreatDoorRows
import Derived.WalkKit
import Derived.ProofKit
import Derived.Lib.Hide
import Derived.WalkMore
import Derived.Conc.MuLone
import Derived.Laws.NewBlocks
import Derived.Deep.WholeRow
import Derived.RegionCalls
namespace Go.Proofs.YthmlcmlpmolmoaaGreatDoor
open Go.RowKit
def Arr (w : World) (g o n : Nat) (cur : Nat → Nat) : Prop := ∀ j, j < n → w.cell? ⟨g, o + j, none⟩ = some (.int .u8 (cur j : Nat)) ∧ w.frozen? ⟨g, o + j, none⟩ = false
structure Chg (K : Nat) (w w' : World) : Prop where
  os : w'.os = w.os
  tape : w'.tape = w.tape
  output : w'.output = w.output
  size : w.heap.size ≤ w'.heap.size
  block : ∀ k, k < w.heap.size → k ≠ K → w'.heap[k]? = w.heap[k]?
namespace Chg
variable {K : Nat} {w w' w'' : World}
theorem refl (K : Nat) (w : World) : Chg K w w := ⟨rfl, rfl, rfl, Nat.le_refl _, fun _ _ _ => rfl⟩
theorem of_below (h : Below w.heap.size w w') : Chg K w w' := ⟨h.os, h.tape, h.output, h.size, fun k hk _ => h.block k hk⟩
theorem trans (h : Chg K w w') (h' : Chg K w' w'') : Chg K w w'' :=
  ⟨h'.os.trans h.os, h'.tape.trans h.tape, h'.output.trans h.output, Nat.le_trans h.size h'.size, fun k hk hn => (h'.block k (Nat.lt_of_lt_of_le hk h.size) hn).trans (h.block k hk hn)⟩
theorem thenNew {L : Nat} (h : Chg K w w') (h' : Chg L w' w'') (hL : w.heap.size ≤ L) : Chg K w w'' :=
  ⟨h'.os.trans h.os, h'.tape.trans h.tape, h'.output.trans h.output, Nat.le_trans h.size h'.size, fun k hk hn => (h'.block k (Nat.lt_of_lt_of_le hk h.size) (by omega)).trans (h.block k hk hn)⟩
theorem thenBelow (h : Chg K w w') (h' : Below w'.heap.size w' w'') : Chg K w w'' := h.trans (of_below h')
theorem below {B : Nat} (h : Chg K w w') (hB : B ≤ w.heap.size) (hK : B ≤ K) : Below B w w' := ⟨h.os, h.tape, h.output, h.size, fun k hk => h.block k (by omega) (by omega)⟩
theorem alloc (h : Chg K w w') (o : Obj) : Chg K w (w'.alloc o) := h.thenBelow ((Below.refl _ _).alloc (Nat.le_refl _) o)
theorem drew (h : Chg K w w') : Chg K w w'.drew := ⟨h.os, h.tape, h.output, h.size, h.block⟩
theorem drewN (h : Chg K w w') (n : Nat) : Chg K w (w'.drewN n) := ⟨h.os, h.tape, h.output, h.size, h.block⟩
theorem setCell (h : Chg K w w') {a : Addr} (ha : a.block = K ∨ w.heap.size ≤ a.block) (v : Value) : Chg K w (w'.setCell a v) := by
  refine ⟨h.os, h.tape, h.output, ?_, fun k hk hn => (Below.heap_setCell w' a v k (by omega)).trans (h.block k hk hn)⟩
  have := h.size
  simpa [World.setCell] using this
theorem setCells (b : Nat) (hb : b = K ∨ w.heap.size ≤ b) : ∀ (vs : List Value) (o : Nat) (w' : World), Chg K w w' → Chg K w (w'.setCells b o vs)
  | [], _, _, h => h
  | v :: r, o, w', h => by
    rw [World.setCells]
    exact setCells b hb r (o + 1) _ (h.setCell (a := ⟨b, o, none⟩) hb v)
theorem cell (h : Chg K w w') {g o : Nat} (hg : g < w.heap.size) (hK : g ≠ K) : w'.cell? ⟨g, o, none⟩ = w.cell? ⟨g, o, none⟩ := World.cell?_of_block (h.block g hg hK)
theorem frozen (h : Chg K w w') {g o : Nat} (hg : g < w.heap.size) (hK : g ≠ K) : w'.frozen? ⟨g, o, none⟩ = w.frozen? ⟨g, o, none⟩ := World.frozen?_of_block (h.block g hg hK)
end Chg
theorem size_setCell (w : World) (a : Addr) (v : Value) : (w.setCell a v).heap.size = w.heap.size := by simp [World.setCell]
theorem bytesL_length (n : Nat) (f : Nat → Nat) : (bytesL n f).length = n := by simp [bytesL]
theorem bytesL_at {n : Nat} {f : Nat → Nat} {j : Nat} (hj : j < n) : (bytesL n f)[j]? = some (.int .u8 (f j : Nat)) := by
  unfold bytesL
  rw [List.getElem?_map, List.getElem?_range hj]; rfl
namespace Arr
variable {w w' : World} {g o n : Nat} {cur f : Nat → Nat}
theorem congr (h : Arr w g o n cur) (e : ∀ j, j < n → cur j = f j) : Arr w g o n f := fun j hj => by rw [← e j hj]; exact h j hj
theorem cell (h : Arr w g o n cur) {j k : Nat} (hj : j < n) (hk : k = o + j) : w.cell? ⟨g, k, none⟩ = some (.int .u8 (cur j : Nat)) := by subst hk; exact (h j hj).1
theorem frozen (h : Arr w g o n cur) {j k : Nat} (hj : j < n) (hk : k = o + j) : w.frozen? ⟨g, k, none⟩ = false := by subst hk; exact (h j hj).2
theorem lt (h : Arr w g o n cur) (hn : 0 < n) : g < w.heap.size := block_lt (h 0 hn).1
theorem of_block (h : Arr w g o n cur) (e : w'.heap[g]? = w.heap[g]?) : Arr w' g o n cur := fun j hj => ⟨(World.cell?_of_block e).trans (h j hj).1, (World.frozen?_of_block e).trans (h j hj).2⟩
theorem drewN (h : Arr w g o n cur) (k : Nat) : Arr (w.drewN k) g o n cur := h
theorem drew (h : Arr w g o n cur) : Arr w.drew g o n cur := h
theorem keep (h : Arr w g o n cur) (hb : Below w.heap.size w w') : Arr w' g o n cur := fun j hj => (h.of_block (hb.block g (h.lt (by omega)))) j hj
theorem alloc (h : Arr w g o n cur) (ob : Obj) : Arr (w.alloc ob) g o n cur := h.keep ((Below.refl _ _).alloc (Nat.le_refl _) ob)
theorem chg {K : Nat} (h : Arr w g o n cur) (hc : Chg K w w') (hK : g ≠ K) : Arr w' g o n cur := fun j hj => (h.of_block (hc.block g (h.lt (by omega)) hK)) j hj
theorem setOther (h : Arr w g o n cur) {a : Addr} (ha : g ≠ a.block) (v : Value) : Arr (w.setCell a v) g o n cur := h.of_block (Below.heap_setCell w a v g ha)
theorem setApart (h : Arr w g o n cur) {k : Nat} (hk : k < o ∨ o + n ≤ k) (v : Value) : Arr (w.setCell ⟨g, k, none⟩ v) g o n cur := fun j hj =>
  ⟨(World.cell?_setCell_other w ⟨g, k, none⟩ ⟨g, o + j, none⟩ v (fun e => by have := congrArg Addr.off e; simp at this; omega)).trans (h j hj).1, by rw [World.frozen?_setCell]; exact (h j hj).2⟩
theorem set (h : Arr w g o n cur) {k i : Nat} (hi : i < n) (hk : k = o + i) (x : Nat) {v : Value} (hv : v = .int .u8 (x : Nat)) : Arr (w.setCell ⟨g, k, none⟩ v) g o n (fun j => if j = i then x else cur j) := fun j hj => by
  subst hk hv
  refine ⟨?_, by rw [World.frozen?_setCell]; exact (h j hj).2⟩
  by_cases e : j = i
  · subst e
    rw [World.cell?_setCell_same w _ _ (h j hj).1]
    show _ = some (Value.int .u8 ((if j = j then x else cur j : Nat) : Int))
    rw [if_pos rfl]
  · refine (World.cell?_setCell_other w ⟨g, o + i, none⟩ ⟨g, o + j, none⟩ _ (fun e' => by have := congrArg Addr.off e'; simp at this; omega)).trans ?_
    show _ = some (Value.int .u8 ((if j = i then x else cur j : Nat) : Int))
    rw [if_neg e]; exact (h j hj).1
theorem range (h : Arr w g o n cur) : w.rangeAt g o (bytesL n cur) := fun j v hv => by
  obtain ⟨hj, rfl⟩ := bytesL_get _ _ j v hv
  exact (h j hj).1
theorem sub (h : Arr w g o n cur) {a m o' : Nat} (ha : a + m ≤ n) (ho : o' = o + a) : Arr w g o' m (fun j => cur (a + j)) := fun j hj => by
  subst ho
  rw [Nat.add_assoc]
  exact h (a + j) (by omega)
theorem there (h : Arr w g o n cur) : w.there g o n := fun j hj => ⟨by rw [(h j hj).1]; rfl, (h j hj).2⟩
theorem there' (h : Arr w g o n cur) (f : Nat → Nat) : w.there g o (bytesL n f).toArray.size := by
  rw [List.size_toArray, bytesL_length]; exact h.there
theorem slB (h : Arr w g o n cur) (hb : By n cur) : SlB w (some ⟨g, o, none⟩) n cur := fun hn => ⟨g, o, rfl, h.lt hn, fun j hj => ⟨hb j hj, (h j hj).1⟩⟩
theorem setCells (h : Arr w g o n cur) (f : Nat → Nat) : Arr (w.setCells g o (bytesL n f)) g o n f := fun j hj => by
  refine ⟨?_, ?_⟩
  · exact World.rangeAt_setCells_same w g o (bytesL n f) (by rw [bytesL_length]; exact h.there) j _ (bytesL_at hj)
  · rw [World.frozen?_setCells]; exact (h j hj).2
end Arr
theorem setCells_below (w0 w : World) (B b : Nat) (hB : B ≤ b) (vs : List Value) (o : Nat) (h : Below B w0 w) : Below B w0 (w.setCells b o vs) := by
  induction vs generalizing o w with
  | nil => exact h
  | cons v r ih => rw [World.setCells]; exact ih _ _ (h.setCell (p := ⟨b, o, none⟩) hB v)
theorem arr_made (w : World) (c : Array Value) (t : TypeId) (n : Nat) (f : Nat → Nat) (hc : c = (bytesL n f).toArray) : Arr (w.alloc (.cells c t)) w.heap.size 0 n f := fun j hj => by
  subst hc
  refine ⟨(World.cell?_alloc_at _ _ _ _ rfl).trans ?_, World.frozen?_alloc_at _ _ _ _ rfl⟩
  show (bytesL n f).toArray[0 + j]? = _
  rw [Nat.zero_add, List.getElem?_toArray]
  exact bytesL_at hj
abbrev aggB (n : Nat) (f : Nat → Nat) : Value := .agg (bytesL n f).toArray
theorem bytes_one' (k : Nat) (f : Nat → Nat) : (bytesL k f).toArray.all (·.oneCell') = true := all_oneCell_toArray (bytes_one k f)
theorem wpList_loadR {ops : Array Oper} {rest : List Oper} {op : Oper} {a : Act} {w : World} {Q : Exit → Act → World → Prop} (hgd : op.guard = none) (ty : TypeId) (x : Operand) (ho : op.op = .load ty x)
    (b o n : Nat) (hx : a.eval x = .pointer (some ⟨b, o, none⟩)) (f : Nat → Nat) (hc : w.rangeAt b o (bytesL n f)) (d : TypeDesc) (hu : Tryz.prog.underlying ty = some d) (hd : d.isRow = true) (hi : (Tryz.prog.info? ty).map (·.size) = some n)
    (h : wpList Tryz.prog ops Q rest (a.put op.dst (aggB n f)) w) : wpList Tryz.prog ops Q (op :: rest) a w :=
  wpList_load_mid hgd ty x ho b o hx _ d hc hu hd (by rw [bytesL_length]; exact hi) h
theorem wpList_loadB {ops : Array Oper} {rest : List Oper} {op : Oper} {a : Act} {w : World} {Q : Exit → Act → World → Prop} (hgd : op.guard = none) (ty : TypeId) (x : Operand) (ho : op.op = .load ty x)
    (b o n : Nat) (hx : a.eval x = .pointer (some ⟨b, o, none⟩)) (f : Nat → Nat) (hc : Arr w b o n f) (d : TypeDesc) (hu : Tryz.prog.underlying ty = some d) (hd : d.isRow = true) (hi : (Tryz.prog.info? ty).map (·.size) = some n)
    (h : wpList Tryz.prog ops Q rest (a.put op.dst (aggB n f)) w) : wpList Tryz.prog ops Q (op :: rest) a w :=
  wpList_load_mid hgd ty x ho b o hx _ d hc.range hu hd (by rw [bytesL_length]; exact hi) h
theorem wpList_storeB {ops : Array Oper} {rest : List Oper} {op : Oper} {a : Act} {w : World} {Q : Exit → Act → World → Prop} (hgd : op.guard = none) (ty : TypeId) (x y : Operand) (ho : op.op = .store ty x y)
    (b o n : Nat) (f cur : Nat → Nat) (hx : a.eval x = .pointer (some ⟨b, o, none⟩)) (hy : a.eval y = aggB n f) (hc : Arr w b o n cur) (hi : (Tryz.prog.info? ty).map (·.size) = some n)
    (h : ∀ w', Arr w' b o n f → Chg b w w' → wpList Tryz.prog ops Q rest (a.put op.dst undef) w') : wpList Tryz.prog ops Q (op :: rest) a w := by
  refine wpList_store_mid hgd ty x y ho b o (bytesL n f).toArray hx hy (hc.there' f) (by rw [List.size_toArray, bytesL_length]; exact hi) (bytes_one' _ _) ?_
  rw [List.toList_toArray]
  exact h _ (hc.setCells f) (Chg.setCells b (Or.inl rfl) _ _ w (Chg.refl _ _))
theorem results_cellB {fn : Func} {p : Tmp} {ty : TypeId} (h : fn.results = #[.cell p ty]) (tmps : Array Value) (w : World) (b o n : Nat) (f : Nat → Nat) (hp : tmps.getD p undef = .pointer (some ⟨b, o, none⟩)) (hc : Arr w b o n f)
    (d : TypeDesc) (hu : Tryz.prog.underlying ty = some d) (hd : d.isRow = true) (hi : (Tryz.prog.info? ty).map (·.size) = some n) : (results fn tmps).run Tryz.prog w = .ok (aggB n f) w := by
  have hp' : tmps[p]?.getD undef = .pointer (some ⟨b, o, none⟩) := by simpa using hp
  have hl := run_loadVar_mid (P := Tryz.prog) w b o ty (bytesL n f) d hc.range hu hd (by rw [bytesL_length]; exact hi)
  simp [results, h, hp', asAddr, hl, aggB]
theorem sizeU8 (w : World) : (sizeOf 5).run Tryz.prog w = .ok 1 w := by
  obtain ⟨i, hi, _, hs, _⟩ := info_parts info8
  simp [sizeOf, typeInfo, hi, hs]
theorem index_arr (t : TypeId) (n : Nat) (f : Nat → Nat) (k x : Nat) (hu : Tryz.prog.underlying t = some (.array n 5)) (hk : k < n) (hx : f k = x) (w : World) :
    (Instr.index t (aggB n f) (.int .i64 (k : Nat))).run Tryz.prog w = .ok (.int .u8 (x : Nat)) w := by
  subst hx
  have hz := sizeU8 w
  unfold Instr.index
  simp [asIntOf, Sem.run_bind, run_underlying hu w, hz, part]
  rw [if_pos hk, bytesL_at hk]
  rfl
theorem sl_arr (t : TypeId) (n g o l h : Nat) (hu : Tryz.prog.underlying t = some (.array n 5)) (hlh : l ≤ h) (hl : l < n) (hh : h ≤ n) (li hi : Int) (el : li = (l : Nat)) (eh : hi = (h : Nat)) (w : World) :
    (Instr.sliceAt t (.pointer (some ⟨g, o, none⟩)) (some (.int .i64 li)) (some (.int .i64 hi)) none).run Tryz.prog w = .ok (.slice (some ⟨g, o + l, none⟩) (h - l) (n - l)) w := by
  subst el eh
  have he : Tryz.prog.elem t = 5 := by simp [Program.elem, hu]
  have hn : Tryz.prog.arrayLen t = n := by simp [Program.arrayLen, hu]
  rw [run_sliceAt_array_lh (h0 := by omega) (h1 := by omega) (h2 := by rw [hn]; omega) (ht := by rw [hn, he]; exact hu), he, sizeU8]
  show Result.ok (slicedAt ⟨g, o, none⟩ _ _ _ 1) w = _
  rw [hn, Int.toNat_natCast, Int.toNat_natCast]
  unfold slicedAt
  rw [if_neg (by omega), Go.WideShapes.add_plain, Nat.mul_one]
theorem to_arr (t : TypeId) (n : Nat) (e : TypeId) (hu : Tryz.prog.underlying t = some (.array n e)) (a : Option Addr) (len c : Nat) (hl : n ≤ len) (w : World) :
    (Instr.arrayAt t (.slice a len c)).run Tryz.prog w = .ok (.pointer a) w := by
  unfold Instr.arrayAt
  rw [Sem.run_bind, run_underlying hu w]
  simp [Nat.not_lt.2 hl]
end Go.Proofs.YthmlcmlpmolmoaaGreatDoor
namespace Go.Proofs.YthmlcmlpmolmoaaGreatDoor
theorem i64_and_nat (a b : Nat) (ha : a < 9223372036854775808) (hb : b < 9223372036854775808) : bits .and .i64 (a : Int) (b : Int) = ((a &&& b : Nat) : Int) := by
  have hx : a &&& b < 2 ^ 63 := Nat.and_lt_two_pow _ (by omega)
  show IntKind.i64.wrap ((BitVec.ofInt 64 (a : Int) &&& BitVec.ofInt 64 (b : Int)).toNat : Int) = _
  rw [BitVec.toNat_and, ofInt_u64 a (by omega), ofInt_u64 b (by omega), IntKind.wrap_i64]
  omega
theorem i64_or_nat (a b : Nat) (ha : a < 9223372036854775808) (hb : b < 9223372036854775808) : bits .or .i64 (a : Int) (b : Int) = ((a ||| b : Nat) : Int) := by
  have hx : a ||| b < 2 ^ 63 := Nat.or_lt_two_pow (by omega) (by omega)
  show IntKind.i64.wrap ((BitVec.ofInt 64 (a : Int) ||| BitVec.ofInt 64 (b : Int)).toNat : Int) = _
  rw [BitVec.toNat_or, ofInt_u64 a (by omega), ofInt_u64 b (by omega), IntKind.wrap_i64]
  omega
theorem i64_xor_nat (a b : Nat) (ha : a < 9223372036854775808) (hb : b < 9223372036854775808) : bits .xor .i64 (a : Int) (b : Int) = ((a ^^^ b : Nat) : Int) := by
  have hx : a ^^^ b < 2 ^ 63 := Nat.xor_lt_two_pow (by omega) (by omega)
  show IntKind.i64.wrap ((BitVec.ofInt 64 (a : Int) ^^^ BitVec.ofInt 64 (b : Int)).toNat : Int) = _
  rw [BitVec.toNat_xor, ofInt_u64 a (by omega), ofInt_u64 b (by omega), IntKind.wrap_i64]
  omega
theorem i64_mask (k m : Nat) (hk : k ≤ 62) (hm : m = 2 ^ k - 1) (n : Int) : bits .and .i64 n (m : Int) = n % ((2 ^ k : Nat) : Int) := by
  have hp : 2 ^ k ≤ 2 ^ 62 := Nat.pow_le_pow_right (by decide) hk
  have hp0 : 0 < 2 ^ k := Nat.two_pow_pos k
  have key : (BitVec.ofInt 64 n &&& BitVec.ofInt 64 (m : Int)).toNat = (n % ((2 ^ 64 : Nat) : Int)).toNat % 2 ^ k := by
    rw [BitVec.toNat_and, BitVec.toNat_ofInt, ofInt_u64 m (by omega), hm, Nat.and_two_pow_sub_one_eq_mod]
  show IntKind.i64.wrap ((BitVec.ofInt 64 n &&& BitVec.ofInt 64 (m : Int)).toNat : Nat) = _
  rw [key]
  have hd : (n % ((2 ^ 64 : Nat) : Int)).toNat % 2 ^ k = (n % ((2 ^ k : Nat) : Int)).toNat := by
    apply Int.natCast_inj.1
    have h0 : 0 ≤ n % ((2 ^ 64 : Nat) : Int) := Int.emod_nonneg _ (by decide)
    have h1 : 0 ≤ n % ((2 ^ k : Nat) : Int) := Int.emod_nonneg _ (by omega)
    rw [Int.natCast_emod, Int.toNat_of_nonneg h0, Int.toNat_of_nonneg h1]
    refine Int.emod_emod_of_dvd n ?_
    exact Int.natCast_dvd_natCast.2 (Nat.pow_dvd_pow 2 (by omega))
  rw [hd]
  have h1 : 0 ≤ n % ((2 ^ k : Nat) : Int) := Int.emod_nonneg _ (by omega)
  have h2 : n % ((2 ^ k : Nat) : Int) < ((2 ^ k : Nat) : Int) := Int.emod_lt_of_pos _ (by omega)
  rw [Int.toNat_of_nonneg h1, IntKind.wrap_i64]
  omega
end Go.Proofs.YthmlcmlpmolmoaaGreatDoor
namespace Go.Proofs.YthmlcmlpmolmoaaGreatDoor
open Go.RowKit
theorem and128 : ∀ a, a < 256 → (a &&& 128) = if a < 128 then 0 else 128 := by decide +kernel
theorem and7 : ∀ a, a < 8 → (a &&& 7) = a := by decide +kernel
theorem ret_u8 {a b : Nat} (h : a = b) : Ending.returned (.int .u8 (a : Int)) = .returned (.int .u8 (b : Int)) := by rw [h]
theorem ret_u8' {a : Int} {b : Nat} (h : a = (b : Int)) : Ending.returned (.int .u8 a) = .returned (.int .u8 (b : Int)) := by rw [h]
theorem gmk_done : ∀ (k a p : Nat), gmk k a 0 p = p
  | 0, _, _ => rfl
  | k + 1, a, p => by
    simp only [gmk]
    rw [if_neg (by decide)]
    exact gmk_done k _ _
theorem double_any (a : Nat) (w : World) (ha : a < 256) :
    Calls Tryz.prog 224 #[.int .u8 a] w fun e w' => e = .returned (.int .u8 (dbl a : Nat)) ∧ w = w' := by
  have hand : bits BinOp.and .u8 (a : Int) 128 = (((a &&& 128) : Nat) : Int) := u8_and_nat a 128 ha (by decide)
  rw [and128 a ha] at hand
  by_cases h : a < 128
  · rw [if_pos h] at hand
    have HD := Lib.hid (show dbl a = 2 * a from if_pos h)
    go_enter Tryz.func224, Tryz.ntmps224
    go_wp2
    go_ret
    exact ⟨ret_u8' (by rw [HD.out]; omega), rfl⟩
  · rw [if_neg h] at hand
    have HD := Lib.hid (show dbl a = (2 * a - 256) ^^^ 27 from if_neg h)
    have HX := Lib.hid (show bits BinOp.xor .u8 ((a : Int) * 2 % 256) 27 = ((dbl a : Nat) : Int) by
      rw [HD.out, show (a : Int) * 2 % 256 = ((2 * a - 256 : Nat) : Int) by omega]
      exact u8_xor_nat _ 27 (by omega) (by decide))
    go_enter Tryz.func224, Tryz.ntmps224
    go_wp2
    go_ret
    exact ⟨ret_u8' HX.out, rfl⟩
theorem mul_any (a b : Nat) (w : World) (ha : a < 256) (hb : b < 256) :
    Calls Tryz.prog 202 #[.int .u8 a, .int .u8 b] w fun e w' => e = .returned (.int .u8 (gm a b : Nat)) ∧ w = w' := by
  go_enter Tryz.func202, Tryz.ntmps202
  go_wp2_with fail
  go_loop [0, 1, 5] (fun x y p => ∃ k a' b' p' : Nat, k ≤ 8 ∧ b' < 2 ^ k ∧ a' < 256 ∧ p' < 256 ∧ gmk k a' b' p' = gm a b ∧ x = .int .u8 a' ∧ y = .int .u8 b' ∧ p = .int .u8 p') (fun _ y _ => (intOf y).toNat)
  case atStart => exact ⟨8, a, b, 0, Nat.le_refl _, hb, ha, by decide, rfl, rfl, rfl, rfl⟩
  case round =>
    obtain ⟨k, a', b', p', hk, hb', ha', hp', hg, rfl, rfl, rfl⟩ := hrel
    have HG := Lib.hid hg
    clear hg
    have hand : bits BinOp.and .u8 (b' : Int) 1 = (((b' &&& 1) : Nat) : Int) := u8_and_nat b' 1 (Nat.lt_of_lt_of_le hb' (Nat.le_trans (Nat.pow_le_pow_right (by decide) hk) (by decide))) (by decide)
    rw [Nat.and_one_is_mod] at hand
    by_cases h0 : 0 < b'
    · have hxl := xor8 hp' ha'
      have hx : bits BinOp.xor .u8 (p' : Int) (a' : Int) = ((p' ^^^ a' : Nat) : Int) := u8_xor_nat p' a' hp' ha'
      obtain ⟨k, rfl⟩ : ∃ j, k = j + 1 := by
        cases k with
        | zero => exact absurd hb' (by simp; omega)
        | succ j => exact ⟨j, rfl⟩
      have hb2 : b' / 2 < 2 ^ k := by rw [Nat.pow_succ] at hb'; omega
      have HB := Lib.hid hb2
      clear hb2 hb'
      by_cases hodd : b' % 2 = 1
      · have HG2 := Lib.hid (show gmk k (dbl a') (b' / 2) (p' ^^^ a') = gm a b by rw [← HG.out]; simp only [gmk, if_pos hodd])
        go_wp2_with (go_at_call 224; refine (double_any _ _ (by assumption)).mono ?_; rintro e w' ⟨rfl, rfl⟩)
        go_round
        case rel => exact ⟨k, dbl a', b' / 2, p' ^^^ a', by omega, HB.out, dbl_lt ha', hxl, HG2.out, rfl, by go_num, rfl⟩
        case measure => simp [intOf]; omega
      · have HG2 := Lib.hid (show gmk k (dbl a') (b' / 2) p' = gm a b by rw [← HG.out]; simp only [gmk, if_neg hodd])
        have hev : ((b' : Int) % 2 == 1) = false := by rw [beq_eq_false_iff_ne]; omega
        go_wp2_with (go_at_call 224; refine (double_any _ _ (by assumption)).mono ?_; rintro e w' ⟨rfl, rfl⟩)
        go_round
        case rel => exact ⟨k, dbl a', b' / 2, p', by omega, HB.out, dbl_lt ha', hp', HG2.out, rfl, by go_num, rfl⟩
        case measure => simp [intOf]; omega
    · obtain rfl : b' = 0 := by omega
      rw [gmk_done] at HG
      clear hand hb' h0
      go_wp2_with fail
      go_ret
      exact ⟨ret_u8 HG.out, rfl⟩
theorem rot_any (a n : Nat) (w : World) (ha : a < 256) (hn : n < 8) :
    Calls Tryz.prog 238 #[.int .u8 a, .int .i64 n] w fun e w' => e = .returned (.int .u8 (rotl a n : Nat)) ∧ w = w' := by
  have hand : bits BinOp.and .u64 (n : Int) 7 = ((n &&& 7 : Nat) : Int) := u64_and_nat n 7 (by omega) (by decide)
  rw [and7 n hn] at hand
  have HX := Lib.hid (show bits BinOp.or .u8 ((a : Int) * 2 ^ n % 256) ((a : Int) / 2 ^ (8 - n)) = ((rotl a n : Nat) : Int) by
    have h1 : (a : Int) * 2 ^ n % 256 = ((a * 2 ^ n % 256 : Nat) : Int) := by simp
    have h2 : (a : Int) / 2 ^ (8 - n) = ((a / 2 ^ (8 - n) : Nat) : Int) := by simp
    rw [h1, h2]
    exact u8_or_nat _ _ (Nat.mod_lt _ (by decide)) (Nat.lt_of_le_of_lt (Nat.div_le_self _ _) ha))
  go_enter Tryz.func238, Tryz.ntmps238
  go_wp2
  go_ret
  exact ⟨ret_u8' HX.out, rfl⟩
theorem left_any (a n : Nat) (t : Int) (w : World) (ha : a < 256) (hn : n < 8) (ht : t = (n : Int)) :
    Calls Tryz.prog 223 #[.int .u8 a, .int .i64 t] w fun e w' => e = .returned (.int .u8 (rotl a n : Nat)) ∧ w = w' := by
  subst ht
  go_enter Tryz.func223, Tryz.ntmps223
  go_wp2_with (go_at_call 238; refine (rot_any _ _ _ (by assumption) (by assumption)).mono ?_; rintro e w' ⟨rfl, rfl⟩)
  go_ret
  exact ⟨rfl, rfl⟩
theorem pow_any (a : Nat) (n : Int) (w : World) (ha : a < 256) (hn : n ≤ 9223372036854775807) :
    Calls Tryz.prog 227 #[.int .u8 a, .int .i64 n] w fun e w' => e = .returned (.int .u8 (gpow a n.toNat : Nat)) ∧ w = w' := by
  go_enter Tryz.func227, Tryz.ntmps227
  go_wp2_with fail
  go_step3
  go_wp2_with fail
  go_step3
  go_wp2_with fail
  go_loop [1, 5, 6] (fun x p s => ∃ (m : Int) (p' s' : Nat), m ≤ 9223372036854775807 ∧ p' < 256 ∧ s' < 256 ∧ gm p' (gpow s' m.toNat) = gpow a n.toNat ∧ x = .int .i64 m ∧ p = .int .u8 p' ∧ s = .int .u8 s') (fun x _ _ => (intOf x).toNat)
  case atStart => exact ⟨n, 1, a, hn, by decide, ha, one_gm (gpow_lt ha _), rfl, rfl, rfl⟩
  case round =>
    obtain ⟨m, p', s', hm, hp', hs', hg, rfl, rfl, rfl⟩ := hrel
    have HG := Lib.hid hg
    clear hg
    by_cases h0 : 0 < m
    · obtain ⟨k, rfl⟩ := Int.eq_ofNat_of_zero_le (show 0 ≤ m by omega)
      have hk : k ≤ 9223372036854775807 := by omega
      have hand : bits BinOp.and .i64 (k : Int) 1 = (((k &&& 1) : Nat) : Int) := i64_and_nat k 1 (by omega) (by decide)
      rw [Nat.and_one_is_mod] at hand
      have HT := Lib.hid (show ((k : Int) / 2).toNat = k / 2 by omega)
      have hsl := gm_lt s' hs'
      by_cases hodd : k % 2 = 1
      · have hpl := gm_lt s' hp'
        have HG2 := Lib.hid (show gm (gm p' s') (gpow (gm s' s') ((k : Int) / 2).toNat) = gpow a n.toNat by
          rw [← HG.out, HT.out, gpow_sq hs', gm_assoc hp' hs' (gpow_lt hs' _)]
          rw [show gm s' (gpow s' (2 * (k / 2))) = gpow s' (1 + 2 * (k / 2)) by rw [gpow_add hs']; congr 1; exact (one_gm hs').symm]
          congr 2
          omega)
        have hev : ((k : Int) % 2 == 0) = false := by rw [beq_eq_false_iff_ne]; omega
        go_wp2_with (go_at_call 202; refine (mul_any _ _ _ (by assumption) (by assumption)).mono ?_; rintro e w' ⟨rfl, rfl⟩)
        go_round
        case rel => exact ⟨(k : Int) / 2, _, _, by omega, hpl, hsl, HG2.out, rfl, rfl, rfl⟩
        case measure => simp [intOf]; omega
      · have HG2 := Lib.hid (show gm p' (gpow (gm s' s') ((k : Int) / 2).toNat) = gpow a n.toNat by
          rw [← HG.out, HT.out, gpow_sq hs']
          congr 2
          omega)
        have hev : ((k : Int) % 2 == 0) = true := by rw [beq_iff_eq]; omega
        go_wp2_with (go_at_call 202; refine (mul_any _ _ _ (by assumption) (by assumption)).mono ?_; rintro e w' ⟨rfl, rfl⟩)
        go_round
        case rel => exact ⟨(k : Int) / 2, _, _, by omega, hp', hsl, HG2.out, rfl, rfl, rfl⟩
        case measure => simp [intOf]; omega
    · rw [show m.toNat = 0 by omega] at HG
      have HP := Lib.hid (show p' = gpow a n.toNat by rw [← HG.out]; exact (gm_one hp').symm)
      clear HG
      go_wp2_with fail
      go_ret
      exact ⟨ret_u8 HP.out, rfl⟩
theorem inv_any (a : Nat) (w : World) (ha : a < 256) :
    Calls Tryz.prog 222 #[.int .u8 a] w fun e w' => e = .returned (.int .u8 (ginv a : Nat)) ∧ w = w' := by
  go_enter Tryz.func222, Tryz.ntmps222
  go_wp2_with (go_at_call 227; refine (pow_any _ _ _ (by assumption) (by decide)).mono ?_; rintro e w' ⟨rfl, rfl⟩)
  go_ret
  exact ⟨rfl, rfl⟩
theorem x8 {a b : Nat} (ha : a < 256) (hb : b < 256) : bits BinOp.xor .u8 (a : Int) (b : Int) = ((a ^^^ b : Nat) : Int) := u8_xor_nat a b ha hb
theorem rotl_lt {a n : Nat} (ha : a < 256) (hn : n < 8) : rotl a n < 256 := by
  have : ∀ n, n < 8 → ∀ a, a < 256 → rotl a n < 256 := by decide +kernel
  exact this n hn a ha
set_option maxHeartbeats 800000 in
theorem box_any (a : Nat) (w : World) (ha : a < 256) :
    Calls Tryz.prog 201 #[.int .u8 a] w fun e w' => e = .returned (.int .u8 (box a : Nat)) ∧ w = w' := by
  have HB := Lib.hid (show gbox (ginv a) = box a from rfl)
  have hi := ginv_lt ha
  have HI := Lib.hid (inv_any a w ha)
  generalize ginv a = i at *
  have l1 := rotl_lt (n := 1) hi (by decide)
  have l2 := rotl_lt (n := 2) hi (by decide)
  have l3 := rotl_lt (n := 3) hi (by decide)
  have l4 := rotl_lt (n := 4) hi (by decide)
  have e1 := x8 hi l1
  have k1 := xor8 hi l1
  have e2 := x8 k1 l2
  have k2 := xor8 k1 l2
  have e3 := x8 k2 l3
  have k3 := xor8 k2 l3
  have e4 := x8 k3 l4
  have k4 := xor8 k3 l4
  have e5 : bits BinOp.xor .u8 ((i ^^^ rotl i 1 ^^^ rotl i 2 ^^^ rotl i 3 ^^^ rotl i 4 : Nat) : Int) 99 = ((i ^^^ rotl i 1 ^^^ rotl i 2 ^^^ rotl i 3 ^^^ rotl i 4 ^^^ 99 : Nat) : Int) := x8 k4 (show 99 < 256 by decide)
  have HB2 := Lib.hid (show (i ^^^ rotl i 1 ^^^ rotl i 2 ^^^ rotl i 3 ^^^ rotl i 4 ^^^ 99) = box a from HB.out)
  clear HB
  go_enter Tryz.func201, Tryz.ntmps201
  go_wp2_with (first | (go_at_call 222; refine HI.out.mono ?_; rintro e w' ⟨rfl, rfl⟩) | (go_at_call 223; (first | (with_reducible refine (left_any i 1 1 w hi (by decide) (by decide)).mono ?_) | (with_reducible refine (left_any i 2 2 w hi (by decide) (by decide)).mono ?_) | (with_reducible refine (left_any i 3 3 w hi (by decide) (by decide)).mono ?_) | (with_reducible refine (left_any i 4 4 w hi (by decide) (by decide)).mono ?_)); rintro e w' ⟨rfl, rfl⟩))
  go_ret
  exact ⟨ret_u8 HB2.out, rfl⟩
end Go.Proofs.YthmlcmlpmolmoaaGreatDoor
namespace Go.Proofs.YthmlcmlpmolmoaaGreatDoor
open Go.MuLone
noncomputable abbrev muLink : Go.Conc.Locks.MuLink := { lock := 150, unlock := 151, ilock := 184, iunlock := 185, lockSlow := 213, unlockSlow := 216, disable := 209, enable := 211, acquire := 212, relMerge := 214, cas32 := 210, add32 := 215, tMutex := 81, tIMutex := 79, tPMutex := Tryz.f150.params.getD 0 0, tPIMutex := Tryz.f184.params.getD 0 0, tPI32 := 258, tUP := 219, tNoCopy := 74, tU32 := 75 }
theorem ptr_facts {p t : TypeId} (hu : Tryz.prog.underlying p = some (.pointer t)) (hi : (Tryz.prog.info? p).map (fun i => (i.zero, i.size)) = some (some (.pointer none), 1)) :
    (∀ w, Sem.run Tryz.prog (underlying p) w = .ok (.pointer t) w) ∧ (∀ w, Sem.run Tryz.prog (Go.sizeOf p) w = .ok 1 w) ∧ (∀ w, Sem.run Tryz.prog (isAgg p) w = .ok false w) ∧ (∀ w, Sem.run Tryz.prog (zeroValue p) w = .ok (.pointer none) w) := by
  have h1 : ∀ w, Sem.run Tryz.prog (underlying p) w = .ok (.pointer t) w := run_underlying hu
  refine ⟨h1, fun w => ?_, fun w => ?_, (zero_of_info hi).1⟩
  · have := (zero_of_info hi).2
    cases hq : Tryz.prog.info? p with
    | none => simp [hq] at this
    | some i => simp [hq] at this; simp [sizeOf, typeInfo, hq, this]
  · unfold isAgg
    rw [Sem.run_bind, h1]
    rfl
theorem muLib : Go.Conc.Locks.MuLib Tryz.prog muLink := by
  have pM := ptr_facts (p := muLink.tPMutex) (t := 81) (by kernel_rfl) (by kernel_rfl)
  have pIM := ptr_facts (p := muLink.tPIMutex) (t := 79) (by kernel_rfl) (by kernel_rfl)
  exact ⟨Tryz.func150, Tryz.func151, Tryz.func184, Tryz.func185, Tryz.func209, Tryz.func211, Tryz.func212, Tryz.func214, Tryz.func210, Tryz.func215, Tryz.underlying79, Tryz.runUnderlying79, Tryz.sizeOf79, Tryz.isAgg79, Tryz.zeroValue79, Tryz.underlying81, Tryz.runUnderlying81, Tryz.sizeOf81, Tryz.isAgg81, Tryz.zeroValue81, (by kernel_rfl), pM.1, pM.2.1, pM.2.2.1, pM.2.2.2, (by kernel_rfl), pIM.1, pIM.2.1, pIM.2.2.1, pIM.2.2.2, Tryz.underlying258, Tryz.runUnderlying258, Tryz.sizeOf258, Tryz.isAgg258, Tryz.zeroValue258, Tryz.underlying219, Tryz.runUnderlying219, Tryz.sizeOf219, Tryz.isAgg219, Tryz.zeroValue219, Tryz.underlying74, Tryz.runUnderlying74, Tryz.sizeOf74, Tryz.isAgg74, Tryz.zeroValue74, Tryz.underlying21, Tryz.runUnderlying21, Tryz.sizeOf21, Tryz.isAgg21, Tryz.zeroValue21, (by kernel_rfl)⟩
theorem store_deferred (a : Addr) (x : Value) (u : FrameMode) (w : World) (hc : w.cell? a = some x) (hz : w.frozen? a = false) :
    CallsD Tryz.prog 152 #[.pointer (some a), .bool true] u w fun e u' w' => u' = u ∧ (e = .returned (.tuple #[]) ∧ w' = w.drew.setCell a (.int .u32 1)) := by
  have hc' : w.drew.cell? a = some x := by go_simp
  have hz' : w.drew.frozen? a = false := by go_simp
  have hst := run_call_store (P := Tryz.prog) Tryz.func186 (by kernel_rfl) (by kernel_rfl) (by kernel_rfl) (by kernel_rfl) (k := .u32) (y := 1) hc' hz'
  go_enter_d Tryz.func152, Tryz.ntmps152
  go_wp2
  go_region_calls
  all_goals (go_end0; exact ⟨rfl, rfl⟩)
structure OnceAt (w : World) (b off : Nat) (d m : Int) : Prop where
  done : w.cell? ⟨b, off, none⟩ = some (.int .u32 d)
  lock : w.cell? ⟨b, off + 1, none⟩ = some (.int .i32 m)
  fdone : w.frozen? ⟨b, off, none⟩ = false
  flock : w.frozen? ⟨b, off + 1, none⟩ = false
theorem do_done (b off : Nat) (fv : Value) (m : Int) (w : World) (h : OnceAt w b off 1 m) :
    Calls Tryz.prog 78 #[.pointer (some ⟨b, off, none⟩), fv] w fun e w' => e = .returned (.tuple #[]) ∧ w' = w := by
  have hl := run_call_load (P := Tryz.prog) Tryz.func149 (by kernel_rfl) (by kernel_rfl) (by kernel_rfl) .u32 (by kernel_rfl) h.done
  have hnot : ∀ (x : Bool) (w : World), (Op.unary .not (.bool x)).run Tryz.prog w = .ok (.bool (!x)) w := fun _ _ => rfl
  go_enter Tryz.func78, Tryz.ntmps78
  go_wp2
  go_end0
  exact ⟨rfl, rfl⟩
end Go.Proofs.YthmlcmlpmolmoaaGreatDoor
namespace Go.Proofs.YthmlcmlpmolmoaaGreatDoor
open Go.MuLone
set_option maxRecDepth 100000 in
set_option maxHeartbeats 1600000 in
theorem slow_any (b off : Nat) (rv : Value) (w : World) (h : OnceAt w b off 0 0) (R : World → Prop)
    (hF : Calls Tryz.prog 171 #[rv] (w.setCell ⟨b, off + 1, none⟩ (.int .i32 1)) fun e w' => e = .returned (.tuple #[]) ∧ R w') (hR : ∀ w', R w' → OnceAt w' b off 0 1) :
    Calls Tryz.prog 119 #[.pointer (some ⟨b, off, none⟩), .func (.func 171) #[rv] #[]] w fun e w' => e = .returned (.tuple #[]) ∧
      ∃ w1, R w1 ∧ w' = (w1.drew.setCell ⟨b, off, none⟩ (.int .u32 1)).setCell ⟨b, off + 1, none⟩ (.int .i32 0) := by
  have hl := run_call_load (P := Tryz.prog) Tryz.func149 (by kernel_rfl) (by kernel_rfl) (by kernel_rfl) .u32 (by kernel_rfl) (w := w.setCell ⟨b, off + 1, none⟩ (.int .i32 1)) (a := ⟨b, off, none⟩) (x := 0) ((World.cell?_setCell_other _ ⟨b, off + 1, none⟩ ⟨b, off, none⟩ _ (by simp)).trans h.done)
  have hnot : ∀ (x : Bool) (w : World), (Op.unary .not (.bool x)).run Tryz.prog w = .ok (.bool (!x)) w := fun _ _ => rfl
  have HR := Lib.hid hR
  have HF := Lib.hid hF
  have H := Lib.hid h
  clear hR hF h
  go_enter_defers Tryz.func119, Tryz.ntmps119
  go_wp2_with (first | (go_at_call 150; refine (lock_free muLib ⟨b, off + 1, none⟩ _ H.out.lock H.out.flock).mono ?_; rintro e w' ⟨rfl, rfl⟩) | (go_at_call 118; go_in) | (go_at_call 171; refine HF.out.mono ?_; rintro e w' ⟨rfl, hw⟩; have HW := Lib.hid hw; clear hw))
  have h1 := HR.out _ HW.out
  refine leaves_cons (f := 152) (args := #[.pointer (some ⟨b, off, none⟩), .bool true]) (by simp) (by simp [go_sem]) ?_
  refine (store_deferred ⟨b, off, none⟩ (.int .u32 0) .returning _ h1.done h1.fdone).mono ?_
  rintro e u' w'' ⟨rfl, rfl, rfl⟩
  refine leaves_cons (f := 151) (args := #[.pointer (some ⟨b, off + 1, none⟩)]) (by simp [settle]) (by simp [go_sem]) ?_
  refine (unlock_deferred muLib ⟨b, off + 1, none⟩ _ _ ?_ (by simp [h1.flock])).mono ?_
  · refine (World.cell?_setCell_other _ ⟨b, off, none⟩ ⟨b, off + 1, none⟩ _ (by simp)).trans ?_
    rw [World.cell?_drew]
    exact h1.lock
  rintro e u' w'' ⟨rfl, rfl, rfl⟩
  exact ⟨_, results_none rfl _ _ _, rfl, w', HW.out, rfl⟩
theorem do_first (b off : Nat) (rv : Value) (w : World) (h : OnceAt w b off 0 0) (R : World → Prop)
    (hF : Calls Tryz.prog 171 #[rv] (w.setCell ⟨b, off + 1, none⟩ (.int .i32 1)) fun e w' => e = .returned (.tuple #[]) ∧ R w') (hR : ∀ w', R w' → OnceAt w' b off 0 1) :
    Calls Tryz.prog 78 #[.pointer (some ⟨b, off, none⟩), .func (.func 171) #[rv] #[]] w fun e w' => e = .returned (.tuple #[]) ∧
      ∃ w1, R w1 ∧ w' = (w1.drew.setCell ⟨b, off, none⟩ (.int .u32 1)).setCell ⟨b, off + 1, none⟩ (.int .i32 0) := by
  have hl := run_call_load (P := Tryz.prog) Tryz.func149 (by kernel_rfl) (by kernel_rfl) (by kernel_rfl) .u32 (by kernel_rfl) h.done
  have hnot : ∀ (x : Bool) (w : World), (Op.unary .not (.bool x)).run Tryz.prog w = .ok (.bool (!x)) w := fun _ _ => rfl
  have HS := Lib.hid (slow_any b off rv w h R hF hR)
  clear hR hF h
  go_enter Tryz.func78, Tryz.ntmps78
  go_wp2_with (first | (go_at_call 119; refine HS.out.mono ?_; rintro e w' ⟨rfl, hw⟩; have HW := Lib.hid hw; clear hw) | (go_at_call 118; go_in))
  go_end0
  exact ⟨rfl, HW.out⟩
end Go.Proofs.YthmlcmlpmolmoaaGreatDoor
namespace Go.Proofs.YthmlcmlpmolmoaaGreatDoor
open Go.RowKit
structure KeyMem (w : World) (g n : Nat) (d m : Int) (S B U D : Nat → Nat) : Prop where
  words : w.cell? ⟨g, 0, none⟩ = some (.int .i64 (n : Nat))
  sch : Arr w g 1 240 S
  once : OnceAt w g 241 d m
  box : Arr w g 244 256 B
  unbox : Arr w g 500 256 U
  dbl : Arr w g 756 256 D
namespace KeyMem
variable {w w' : World} {g n : Nat} {d m : Int} {S B U D : Nat → Nat}
theorem lt (h : KeyMem w g n d m S B U D) : g < w.heap.size := block_lt h.words
theorem of_block (h : KeyMem w g n d m S B U D) (e : w'.heap[g]? = w.heap[g]?) : KeyMem w' g n d m S B U D :=
  ⟨(World.cell?_of_block e).trans h.words, h.sch.of_block e, ⟨(World.cell?_of_block e).trans h.once.done, (World.cell?_of_block e).trans h.once.lock, (World.frozen?_of_block e).trans h.once.fdone, (World.frozen?_of_block e).trans h.once.flock⟩,
    h.box.of_block e, h.unbox.of_block e, h.dbl.of_block e⟩
theorem keep (h : KeyMem w g n d m S B U D) (hb : Below w.heap.size w w') : KeyMem w' g n d m S B U D := h.of_block (hb.block g h.lt)
theorem chg {K : Nat} (h : KeyMem w g n d m S B U D) (hc : Chg K w w') (hK : g ≠ K) : KeyMem w' g n d m S B U D := h.of_block (hc.block g h.lt hK)
theorem congr {S' B' U' D' : Nat → Nat} (h : KeyMem w g n d m S B U D) (h1 : ∀ j, j < 240 → S j = S' j) (h2 : ∀ j, j < 256 → B j = B' j) (h3 : ∀ j, j < 256 → U j = U' j) (h4 : ∀ j, j < 256 → D j = D' j) : KeyMem w g n d m S' B' U' D' :=
  ⟨h.words, h.sch.congr h1, h.once, h.box.congr h2, h.unbox.congr h3, h.dbl.congr h4⟩
theorem cell_apart {w : World} {g k j : Nat} (hkj : k ≠ j) (v : Value) : (w.setCell ⟨g, k, none⟩ v).cell? ⟨g, j, none⟩ = w.cell? ⟨g, j, none⟩ :=
  World.cell?_setCell_other w ⟨g, k, none⟩ ⟨g, j, none⟩ v (fun e => hkj (congrArg Addr.off e))
theorem once_apart {w : World} {g o k : Nat} {d m : Int} (h : OnceAt w g o d m) (h1 : k ≠ o) (h2 : k ≠ o + 1) (v : Value) : OnceAt (w.setCell ⟨g, k, none⟩ v) g o d m :=
  ⟨(cell_apart h1 v).trans h.done, (cell_apart h2 v).trans h.lock, by rw [World.frozen?_setCell]; exact h.fdone, by rw [World.frozen?_setCell]; exact h.flock⟩
theorem setSch (h : KeyMem w g n d m S B U D) {i k : Nat} (hi : i < 240) (hk : k = 1 + i) (x : Nat) {v : Value} (hv : v = .int .u8 (x : Nat)) : KeyMem (w.setCell ⟨g, k, none⟩ v) g n d m (fun j => if j = i then x else S j) B U D :=
  ⟨(cell_apart (by omega) v).trans h.words, h.sch.set hi hk x hv, once_apart h.once (by omega) (by omega) v, h.box.setApart (by omega) v, h.unbox.setApart (by omega) v, h.dbl.setApart (by omega) v⟩
theorem setBox (h : KeyMem w g n d m S B U D) {i k : Nat} (hi : i < 256) (hk : k = 244 + i) (x : Nat) {v : Value} (hv : v = .int .u8 (x : Nat)) : KeyMem (w.setCell ⟨g, k, none⟩ v) g n d m S (fun j => if j = i then x else B j) U D :=
  ⟨(cell_apart (by omega) v).trans h.words, h.sch.setApart (by omega) v, once_apart h.once (by omega) (by omega) v, h.box.set hi hk x hv, h.unbox.setApart (by omega) v, h.dbl.setApart (by omega) v⟩
theorem setUnbox (h : KeyMem w g n d m S B U D) {i k : Nat} (hi : i < 256) (hk : k = 500 + i) (x : Nat) {v : Value} (hv : v = .int .u8 (x : Nat)) : KeyMem (w.setCell ⟨g, k, none⟩ v) g n d m S B (fun j => if j = i then x else U j) D :=
  ⟨(cell_apart (by omega) v).trans h.words, h.sch.setApart (by omega) v, once_apart h.once (by omega) (by omega) v, h.box.setApart (by omega) v, h.unbox.set hi hk x hv, h.dbl.setApart (by omega) v⟩
theorem setDbl (h : KeyMem w g n d m S B U D) {i k : Nat} (hi : i < 256) (hk : k = 756 + i) (x : Nat) {v : Value} (hv : v = .int .u8 (x : Nat)) : KeyMem (w.setCell ⟨g, k, none⟩ v) g n d m S B U (fun j => if j = i then x else D j) :=
  ⟨(cell_apart (by omega) v).trans h.words, h.sch.setApart (by omega) v, once_apart h.once (by omega) (by omega) v, h.box.setApart (by omega) v, h.unbox.setApart (by omega) v, h.dbl.set hi hk x hv⟩
theorem setLock (h : KeyMem w g n d m S B U D) (m' : Int) {v : Value} (hv : v = .int .i32 m') : KeyMem (w.setCell ⟨g, 242, none⟩ v) g n d m' S B U D := by
  subst hv
  exact ⟨(cell_apart (by omega) _).trans h.words, h.sch.setApart (by omega) _, ⟨(cell_apart (by omega) _).trans h.once.done, World.cell?_setCell_same w ⟨g, 242, none⟩ _ h.once.lock, by rw [World.frozen?_setCell]; exact h.once.fdone, by rw [World.frozen?_setCell]; exact h.once.flock⟩,
    h.box.setApart (by omega) _, h.unbox.setApart (by omega) _, h.dbl.setApart (by omega) _⟩
theorem setDone (h : KeyMem w g n d m S B U D) (d' : Int) {v : Value} (hv : v = .int .u32 d') : KeyMem (w.setCell ⟨g, 241, none⟩ v) g n d' m S B U D := by
  subst hv
  exact ⟨(cell_apart (by omega) _).trans h.words, h.sch.setApart (by omega) _, ⟨World.cell?_setCell_same w ⟨g, 241, none⟩ _ h.once.done, (cell_apart (by omega) _).trans h.once.lock, by rw [World.frozen?_setCell]; exact h.once.fdone, by rw [World.frozen?_setCell]; exact h.once.flock⟩,
    h.box.setApart (by omega) _, h.unbox.setApart (by omega) _, h.dbl.setApart (by omega) _⟩
theorem drew (h : KeyMem w g n d m S B U D) : KeyMem w.drew g n d m S B U D := h.of_block rfl
theorem drewN (h : KeyMem w g n d m S B U D) (k : Nat) : KeyMem (w.drewN k) g n d m S B U D := h.of_block rfl
theorem alloc (h : KeyMem w g n d m S B U D) (o : Obj) : KeyMem (w.alloc o) g n d m S B U D := h.keep ((Below.refl _ _).alloc (Nat.le_refl _) o)
end KeyMem
theorem last_any (g n : Nat) (w : World) (hn : n ≤ 8) (hw : w.cell? ⟨g, 0, none⟩ = some (.int .i64 (n : Nat))) :
    Calls Tryz.prog 173 #[.pointer (some ⟨g, 0, none⟩)] w fun e w' => e = .returned (.int .i64 ((n + 6 : Nat) : Int)) ∧ w = w' := by
  go_enter Tryz.func173, Tryz.ntmps173
  go_wp2
  go_ret
  exact ⟨ret_int (by omega), rfl⟩
theorem size88 : (Tryz.prog.info? 267).map (·.size) = some 4 := by kernel_rfl
theorem size65 : (Tryz.prog.info? 228).map (·.size) = some 16 := by kernel_rfl
set_option maxRecDepth 100000 in
set_option maxHeartbeats 800000 in
theorem word_any (g i : Nat) (S : Nat → Nat) (w : World) (hi : i < 60) (hS : Arr w g 1 240 S) :
    Calls Tryz.prog 225 #[.pointer (some ⟨g, 0, none⟩), .int .i64 (i : Nat)] w fun e w' => e = .returned (aggB 4 (fun j => S (4 * i + j))) ∧ Below w.heap.size w w' := by
  have hsl := sl_arr 167 240 g 1 (4 * i) (4 * i + 4) Tryz.underlying167 (by omega) (by omega) (by omega) ((i : Int) * 4) (((i : Int) + 1) * 4) (by omega) (by omega)
  rw [show 4 * i + 4 - 4 * i = 4 by omega] at hsl
  have hpa := to_arr 267 4 5 Tryz.underlying267 (some ⟨g, 1 + 4 * i, none⟩) 4 (240 - 4 * i) (Nat.le_refl _)
  have HL := Lib.hid ((hS.alloc (.cells #[.int .u8 0, .int .u8 0, .int .u8 0, .int .u8 0] 267)).sub (a := 4 * i) (m := 4) (by omega) rfl)
  have HN := Lib.hid (arr_made w #[.int .u8 0, .int .u8 0, .int .u8 0, .int .u8 0] 267 4 (fun _ => 0) rfl)
  have HB := Lib.hid ((Chg.refl w.heap.size w).alloc (.cells #[.int .u8 0, .int .u8 0, .int .u8 0, .int .u8 0] 267))
  clear hS
  go_enter Tryz.func225, Tryz.ntmps225
  go_wp2_with (first | (refine wpList_loadB rfl 267 (.tmp 14) rfl g (1 + 4 * i) 4 rfl _ HL.out _ Tryz.underlying267 rfl size88 ?_) | (refine wpList_storeB rfl 267 (.tmp 4) (.tmp 15) rfl w.heap.size 0 4 _ _ rfl rfl HN.out size88 ?_; intro w2 h1 h2; have HR := Lib.hid h1; have HC := Lib.hid h2; clear h1 h2))
  exact bodyPost_ret (results_cellB rfl _ _ w.heap.size 0 4 _ rfl HR.out _ Tryz.underlying267 rfl size88) rfl ⟨rfl, (HB.out.trans HC.out).below (Nat.le_refl _) (Nat.le_refl _)⟩
theorem boxed_any (g : Nat) (B f : Nat → Nat) (w : World) (hB : Arr w g 244 256 B) (hf : By 4 f) :
    Calls Tryz.prog 226 #[.pointer (some ⟨g, 0, none⟩), aggB 4 f] w fun e w' => e = .returned (aggB 4 (fun j => B (f j))) ∧ Below w.heap.size w w' := by
  have HF := Lib.hid hf
  have HBX := Lib.hid ((hB.alloc (.cells (bytesL 4 f).toArray 267)).alloc (.cells #[.int .u8 0, .int .u8 0, .int .u8 0, .int .u8 0] 267))
  have HL := Lib.hid ((arr_made w _ 267 4 f rfl).alloc (.cells #[.int .u8 0, .int .u8 0, .int .u8 0, .int .u8 0] 267))
  have HN := Lib.hid (arr_made (w.alloc (.cells (bytesL 4 f).toArray 267)) #[.int .u8 0, .int .u8 0, .int .u8 0, .int .u8 0] 267 4 (fun _ => 0) rfl)
  have HC := Lib.hid (((Below.refl w.heap.size w).alloc (Nat.le_refl _) (.cells (bytesL 4 f).toArray 267)).alloc (by simp) (.cells #[.int .u8 0, .int .u8 0, .int .u8 0, .int .u8 0] 267))
  have hs1 : (w.alloc (.cells (bytesL 4 f).toArray 267)).heap.size = w.heap.size + 1 := by simp
  rw [hs1] at HN
  have HG := Lib.hid (hB.lt (by decide))
  clear hf hB hs1
  go_enter Tryz.func226, Tryz.ntmps226
  go_wp2_with ((refine wpList_loadB rfl 267 (.tmp 3) rfl w.heap.size 0 4 rfl _ HL.out _ Tryz.underlying267 rfl size88 ?_))
  generalize hW : (w.alloc (.cells (bytesL 4 f).toArray 267)).alloc (.cells #[.int .u8 0, .int .u8 0, .int .u8 0, .int .u8 0] 267) = W at *
  clear hW
  go_wp2_with fail
  go_loopw [8] (fun i wr => ∃ k : Nat, k ≤ 4 ∧ i = .int .i64 k ∧ Arr wr w.heap.size 0 4 (fun j => if j < k then B (f j) else f j) ∧ Arr wr (w.heap.size + 1) 0 4 (fun _ => 0) ∧ Arr wr g 244 256 B ∧ Below w.heap.size w wr) (fun i _ => 4 - (intOf i).toNat)
  case atStart => exact ⟨0, by decide, rfl, HL.out, HN.out, HBX.out, HC.out⟩
  case round =>
    obtain ⟨k, hk, rfl, h1, h2, h3, h4⟩ := hrel
    have H1 := Lib.hid h1
    have H2 := Lib.hid h2
    have H3 := Lib.hid h3
    have H4 := Lib.hid h4
    clear h1 h2 h3 h4
    by_cases hlt : k < 4
    · have hfk := HF.out k hlt
      obtain ⟨x, hx⟩ : ∃ x, f k = x := ⟨_, rfl⟩
      have hix := index_arr 267 4 f k x Tryz.underlying267 hlt hx
      rw [hx] at hfk
      have hc1 := H3.out.cell hfk rfl
      have hc2 := H1.out.cell hlt (Nat.zero_add k).symm
      have hf2 := H1.out.frozen hlt (Nat.zero_add k).symm
      rw [if_neg (Nat.lt_irrefl k), hx] at hc2
      have HX := Lib.hid hx
      clear hx
      go_wp2_with fail
      have hn2 : w.heap.size + 1 ≠ w.heap.size := by omega
      go_roundw
      case rel => exact ⟨k + 1, by omega, by go_num, (H1.out.set hlt (Nat.zero_add k).symm (B x) rfl).congr fun j _ => by
          by_cases e : j = k
          · subst e; rw [if_pos rfl, if_pos (Nat.lt_succ_self _), HX.out]
          · rw [if_neg e]
            by_cases h : j < k
            · rw [if_pos h, if_pos (by omega)]
            · rw [if_neg h, if_neg (by omega)], H2.out.setOther hn2 _, H3.out.setOther (Nat.ne_of_lt HG.out) _, H4.out.setCell (p := ⟨w.heap.size, k, none⟩) (Nat.le_refl _) _⟩
      case measure => simp [intOf]; omega
    · obtain rfl : k = 4 := by omega
      have HR := Lib.hid (H1.out.congr (f := fun j => B (f j)) fun j hj => by rw [if_pos hj])
      go_wp2_with (first | (refine wpList_loadB rfl 267 (.tmp 3) rfl w.heap.size 0 4 rfl _ HR.out _ Tryz.underlying267 rfl size88 ?_) | (refine wpList_storeB rfl 267 (.tmp 4) (.tmp 21) rfl (w.heap.size + 1) 0 4 _ _ rfl rfl H2.out size88 ?_; intro w2 h1 h2; have HR2 := Lib.hid h1; have HC2 := Lib.hid h2; clear h1 h2))
      exact bodyPost_ret (results_cellB rfl _ _ (w.heap.size + 1) 0 4 _ rfl HR2.out _ Tryz.underlying267 rfl size88) rfl ⟨rfl, H4.out.trans (HC2.out.below H4.out.size (Nat.le_succ _))⟩
end Go.Proofs.YthmlcmlpmolmoaaGreatDoor
namespace Go.Proofs.YthmlcmlpmolmoaaGreatDoor
open Go.RowKit
def putW (n i : Nat) (S : Nat → Nat) (x : Nat) : Nat := if x / 4 = i then nxt n S i (x % 4) else S x
def putWj (n i j : Nat) (S : Nat → Nat) (x : Nat) : Nat := if x / 4 = i ∧ x % 4 < j then nxt n S i (x % 4) else S x
theorem putWj_zero (n i : Nat) (S : Nat → Nat) (x : Nat) : S x = putWj n i 0 S x := by unfold putWj; rw [if_neg (by omega)]
theorem putWj_four (n i : Nat) (S : Nat → Nat) (x : Nat) : putWj n i 4 S x = putW n i S x := by
  unfold putWj putW
  by_cases h : x / 4 = i
  · rw [if_pos ⟨h, by omega⟩, if_pos h]
  · rw [if_neg (fun e => h e.1), if_neg h]
theorem putWj_step (n i j : Nat) (S : Nat → Nat) (hj : j < 4) (x : Nat) : (if x = 4 * i + j then nxt n S i j else putWj n i j S x) = putWj n i (j + 1) S x := by
  unfold putWj
  by_cases h : x = 4 * i + j
  · rw [if_pos h, if_pos (by omega), show x % 4 = j by omega]
  · rw [if_neg h]
    by_cases h2 : x / 4 = i ∧ x % 4 < j
    · rw [if_pos h2, if_pos (by omega)]
    · rw [if_neg h2, if_neg (by omega)]
theorem kt_by {n i j : Nat} {S : Nat → Nat} (hn : 0 < n) (hi : n ≤ i) (hj : j < 4) (h : By (4 * i) S) : kt n S i j < 256 := by
  unfold kt
  split
  · refine xor8 (box_lt (h _ (by omega))) ?_
    split
    · exact gpow_lt (by decide) _
    · decide
  · split
    · exact box_lt (h _ (by omega))
    · exact h _ (by omega)
set_option maxHeartbeats 1600000 in
theorem make_any (g n i : Nat) (m : Int) (S U D : Nat → Nat) (w : World) (hn : n = 4 ∨ n = 8) (hi : n ≤ i) (hi2 : i < 60) (hS : By 240 S) (hk : KeyMem w g n 0 m S box U D) :
    Calls Tryz.prog 203 #[.pointer (some ⟨g, 0, none⟩), .int .i64 (i : Nat)] w fun e w' => e = .returned (.tuple #[]) ∧ KeyMem w' g n 0 m (putW n i S) box U D ∧ Chg g w w' := by
  have HW1 := Lib.hid fun i1 (h : i = i1 + 1) => word_any g i1 S w (by omega) hk.sch
  have HK := Lib.hid hk
  have HS := Lib.hid hS
  have HG := Lib.hid hk.lt
  obtain ⟨i1, hi1⟩ : ∃ i1, i = i1 + 1 := ⟨i - 1, by omega⟩
  obtain ⟨i2, hi3⟩ : ∃ i2, i = i2 + n := ⟨i - n, by omega⟩
  have HI1 := Lib.hid hi1
  have HI2 := Lib.hid hi3
  have hs1 : (i : Int) - 1 = (i1 : Nat) := by omega
  have hs2 : (i : Int) - (n : Nat) = (i2 : Nat) := by omega
  have hn4 : (4 : Int) ≤ (n : Nat) := by omega
  have hn8 : ((n : Nat) : Int) ≤ 8 := by omega
  have hn0 : ¬ ((n : Nat) : Int) = 0 := by omega
  have hway : ((((i : Int) % (n : Nat) == 0) = false ∧ ((n : Int) == 8) = false ∧ ∀ j, kt n S i j = S (4 * i1 + j)) ∨ (((i : Int) % (n : Nat) == 0) = false ∧ ((n : Int) == 8) = true ∧ ((i : Int) % 8 == 4) = false ∧ ∀ j, kt n S i j = S (4 * i1 + j))) ∨
      (((i : Int) % (n : Nat) == 0) = false ∧ ((n : Int) == 8) = true ∧ ((i : Int) % 8 == 4) = true ∧ ∀ j, kt n S i j = box (S (4 * i1 + j))) ∨
      (((i : Int) % (n : Nat) == 0) = true ∧ ∀ j, kt n S i j = box (S (4 * i1 + (j + 1) % 4)) ^^^ (if j = 0 then gpow 2 (i / n - 1) else 0)) := by
    have e1 : i - 1 = i1 := by omega
    by_cases hm : i % n = 0
    · right; right
      refine ⟨by rw [beq_iff_eq]; omega, fun j => ?_⟩
      unfold kt
      rw [if_pos hm, e1]
    · have hm' : ((i : Int) % (n : Nat) == 0) = false := by rw [beq_eq_false_iff_ne]; omega
      by_cases h8 : n = 8
      · have h8' : ((n : Int) == 8) = true := by rw [beq_iff_eq]; omega
        by_cases h4 : i % 8 = 4
        · right; left
          refine ⟨hm', h8', by rw [beq_iff_eq]; omega, fun j => ?_⟩
          unfold kt
          rw [if_neg hm, if_pos ⟨h8, h4⟩, e1]
        · left; right
          refine ⟨hm', h8', by rw [beq_eq_false_iff_ne]; omega, fun j => ?_⟩
          unfold kt
          rw [if_neg hm, if_neg (fun e => h4 e.2), e1]
      · left; left
        refine ⟨hm', by rw [beq_eq_false_iff_ne]; omega, fun j => ?_⟩
        unfold kt
        rw [if_neg hm, if_neg (fun e => h8 e.1), e1]
  have HN := Lib.hid hn
  clear hk hS hi1 hi3 hn
  go_enter Tryz.func203, Tryz.ntmps203
  go_wp2_with fail
  refine (HW1.out i1 HI1.out).mono ?_
  rintro e w1 ⟨rfl, hb1⟩
  have HK1 := Lib.hid (HK.out.keep hb1)
  have HB1 := Lib.hid hb1
  clear hb1
  have HA1 := Lib.hid (arr_made w1 #[.int .u8 0, .int .u8 0, .int .u8 0, .int .u8 0] 267 4 (fun _ => 0) rfl)
  have HTB := Lib.hid (Nat.ne_of_lt HK1.out.lt)
  generalize htb : w1.heap.size = tb at HTB
  have HTE := Lib.hid htb
  clear htb
  rcases hway with (⟨ht1, ht2, ht3⟩ | ⟨ht1, ht2, ht4, ht3⟩) | ⟨ht1, ht2, ht4, ht3⟩ | ⟨ht1, ht3⟩
  all_goals
    have HKT := Lib.hid ht3
    clear ht3
  focus
    go_wp2_with ((refine wpList_storeB rfl 267 (.tmp 4) (.tmp 10) rfl w1.heap.size 0 4 _ _ rfl rfl HA1.out size88 ?_; intro w2 h1 h2; have HR2 := Lib.hid h1; have HC2 := Lib.hid h2; clear h1 h2; have HK2 := Lib.hid ((HK1.out.alloc _).chg HC2.out (Nat.ne_of_lt HK1.out.lt)); have hw2 := HK2.out.words; have HB2 := Lib.hid (HB1.out.trans (((Chg.refl w1.heap.size w1).alloc _).trans HC2.out |>.below HB1.out.size HB1.out.size))))
    have HT := Lib.hid (HR2.out.congr (f := kt n S i) fun j _ => (HKT.out j).symm)
    rw [HTE.out] at HT ⊢
    have HB := HB2
    clear HR2 HC2 HA1 HK1 HB1 HKT HTE HB2 ht1 ht2
  rotate_left
  focus
    go_wp2_with ((refine wpList_storeB rfl 267 (.tmp 4) (.tmp 10) rfl w1.heap.size 0 4 _ _ rfl rfl HA1.out size88 ?_; intro w2 h1 h2; have HR2 := Lib.hid h1; have HC2 := Lib.hid h2; clear h1 h2; have HK2 := Lib.hid ((HK1.out.alloc _).chg HC2.out (Nat.ne_of_lt HK1.out.lt)); have hw2 := HK2.out.words; have HB2 := Lib.hid (HB1.out.trans (((Chg.refl w1.heap.size w1).alloc _).trans HC2.out |>.below HB1.out.size HB1.out.size))))
    have HT := Lib.hid (HR2.out.congr (f := kt n S i) fun j _ => (HKT.out j).symm)
    rw [HTE.out] at HT ⊢
    have HB := HB2
    clear HR2 HC2 HA1 HK1 HB1 HKT HTE HB2 ht1 ht2 ht4
  rotate_left
  focus
    go_wp2_with (first | (refine wpList_storeB rfl 267 (.tmp 4) (.tmp 10) rfl w1.heap.size 0 4 _ _ rfl rfl HA1.out size88 ?_; intro w2 h1 h2; have HR2 := Lib.hid h1; have HC2 := Lib.hid h2; clear h1 h2; have HK2 := Lib.hid ((HK1.out.alloc _).chg HC2.out (Nat.ne_of_lt HK1.out.lt)); have hw2 := HK2.out.words; have HB2 := Lib.hid (HB1.out.trans (((Chg.refl w1.heap.size w1).alloc _).trans HC2.out |>.below HB1.out.size HB1.out.size))) | (refine wpList_loadB rfl 267 (.tmp 4) rfl w1.heap.size 0 4 rfl _ HR2.out _ Tryz.underlying267 rfl size88 ?_))
    refine (boxed_any g box _ w2 HK2.out.box (fun j hj => HS.out _ (by have := HI1.out; omega))).mono ?_
    rintro e w3 ⟨rfl, hb3⟩
    have HK3 := Lib.hid (HK2.out.keep hb3)
    have HR3 := Lib.hid (HR2.out.keep hb3)
    have HB3 := Lib.hid (HB2.out.trans (hb3.mono HB2.out.size))
    clear hb3
    go_wp2_with ((refine wpList_storeB rfl 267 (.tmp 4) (.tmp 55) rfl w1.heap.size 0 4 _ _ rfl rfl HR3.out size88 ?_; intro w4 h1 h2; have HR4 := Lib.hid h1; have HC4 := Lib.hid h2; clear h1 h2; have HK4 := Lib.hid (HK3.out.chg HC4.out (Nat.ne_of_lt HK1.out.lt)); have hw4 := HK4.out.words; have HB4 := Lib.hid (HB3.out.trans (HC4.out.below HB3.out.size HB1.out.size))))
    have HT := Lib.hid (HR4.out.congr (f := kt n S i) fun j _ => (HKT.out j).symm)
    rw [HTE.out] at HT ⊢
    have HB := HB4
    clear HR2 HC2 HA1 HK1 HB1 HKT HTE HB2 HR3 HB3 HR4 HC4 HB4 HK2 HK3 ht1 ht2 ht4 hw2
    generalize w4 = w2 at *
    have HK2 := HK4
    clear HK4
  rotate_left
  focus
    go_wp2_with (first | ((refine wpList_storeB rfl 267 (.tmp 4) (.tmp 10) rfl w1.heap.size 0 4 _ _ rfl rfl HA1.out size88 ?_; intro w2 h1 h2; have HR2 := Lib.hid h1; have HC2 := Lib.hid h2; clear h1 h2; have HK2 := Lib.hid ((HK1.out.alloc _).chg HC2.out (Nat.ne_of_lt HK1.out.lt)); have hw2 := HK2.out.words; have HB2 := Lib.hid (HB1.out.trans (((Chg.refl w1.heap.size w1).alloc _).trans HC2.out |>.below HB1.out.size HB1.out.size))); have hc0 := HR2.out.cell (j := 0) (by decide) rfl; have hc1 := HR2.out.cell (j := 1) (by decide) rfl; have hc2 := HR2.out.cell (j := 2) (by decide) rfl; have hc3 := HR2.out.cell (j := 3) (by decide) rfl))
    refine (boxed_any g box (fun j => S (4 * i1 + (j + 1) % 4)) w2 HK2.out.box (fun j hj => HS.out _ (by have := HI1.out; omega))).mono ?_
    rintro e w3 ⟨rfl, hb3⟩
    have HK3 := Lib.hid (HK2.out.keep hb3)
    have HR3 := Lib.hid (HR2.out.keep hb3)
    have HB3 := Lib.hid (HB2.out.trans (hb3.mono HB2.out.size))
    clear hb3
    go_wp2_with ((refine wpList_storeB rfl 267 (.tmp 4) (.tmp 29) rfl w1.heap.size 0 4 _ _ rfl rfl HR3.out size88 ?_; intro w4 h1 h2; have HR4 := Lib.hid h1; have HC4 := Lib.hid h2; clear h1 h2; have HK4 := Lib.hid (HK3.out.chg HC4.out (Nat.ne_of_lt HK1.out.lt)); have hw4 := HK4.out.words; have HB4 := Lib.hid (HB3.out.trans (HC4.out.below HB3.out.size HB1.out.size)); have hd0 := HR4.out.cell (j := 0) (by decide) rfl; have hf0 := HR4.out.frozen (j := 0) (by decide) rfl))
    have hxl := box_lt (HS.out (4 * i1 + (0 + 1) % 4) (by have := HI1.out; omega))
    have HP0 := Lib.hid (show box (S (4 * i1 + (0 + 1) % 4)) ^^^ gpow 2 (i / n - 1) = kt n S i 0 by rw [HKT.out 0, if_pos rfl])
    have HPj := Lib.hid (show ∀ j, j ≠ 0 → box (S (4 * i1 + (j + 1) % 4)) = kt n S i j from fun j hj => by rw [HKT.out j, if_neg hj, Nat.xor_zero])
    have HR5 := Lib.hid (((HR4.out.set (k := 0) (i := 0) (by decide) rfl (box (S (4 * i1 + (0 + 1) % 4)) ^^^ gpow 2 (i / n - 1)) rfl).congr (f := kt n S i) fun j _ => by
      by_cases e : j = 0
      · subst e; rw [if_pos rfl, HP0.out]
      · rw [if_neg e, HPj.out j e]).drew)
    have HK5 := Lib.hid ((HK4.out.chg ((Chg.refl w1.heap.size w4).setCell (a := ⟨w1.heap.size, 0, none⟩) (Or.inl rfl) (.int .u8 ((box (S (4 * i1 + (0 + 1) % 4)) ^^^ gpow 2 (i / n - 1) : Nat) : Int))) (Nat.ne_of_lt HK1.out.lt)).drew)
    have HB5 := Lib.hid ((HB4.out.setCell (p := ⟨w1.heap.size, 0, none⟩) HB1.out.size (.int .u8 ((box (S (4 * i1 + (0 + 1) % 4)) ^^^ gpow 2 (i / n - 1) : Nat) : Int))).drew)
    obtain ⟨q, hq⟩ : ∃ q, i / n - 1 = q := ⟨_, rfl⟩
    rw [hq] at HR5 HK5 HB5
    have hdv : ((i / n : Nat) : Int) = (i : Int) / (n : Nat) := by simp
    have hq1 : 1 ≤ i / n := by
      rcases HN.out with h | h <;> subst h <;> omega
    have hq2 : i / n ≤ 60 := Nat.le_trans (Nat.div_le_self _ _) (by omega)
    have HE := Lib.hid (show IntKind.i64.wrap (wrap64 ((i : Int) / (n : Nat)) - 1) = (q : Nat) by
      rw [← hdv, show wrap64 ((i / n : Nat) : Int) = ((q + 1 : Nat) : Int) by unfold wrap64; omega, IntWalk.i64_in _ (by omega)]; omega)
    have hpl : gpow 2 q < 256 := gpow_lt (by decide) q
    have HPW := Lib.hid fun (t : Int) (ht : t = (q : Nat)) w => (show Calls Tryz.prog 227 #[.int .u8 2, .int .i64 t] w fun e w' => e = .returned (.int .u8 (gpow 2 q : Nat)) ∧ w = w' by subst ht; exact pow_any 2 (q : Nat) w (by decide) (by omega))
    generalize box (S (4 * i1 + (0 + 1) % 4)) = x at *
    generalize hgp : gpow 2 q = y at *
    have hx := x8 hxl hpl
    clear hdv hq1 hq2 hq hgp hc0 hc1 hc2 hc3
    go_region_with (go_at_call 227; refine (HPW.out _ HE.out _).mono ?_; rintro e w' ⟨rfl, rfl⟩)
    all_goals
      generalize hw2' : (w4.setCell ⟨w1.heap.size, 0, none⟩ (.int .u8 ((x ^^^ y : Nat) : Int))).drew = wc at *
      rw [HTE.out] at HR5 ⊢
      have HT := HR5
      have HB := HB5
      clear HR2 HC2 HA1 HK1 HB1 HKT HTE HB2 HR3 HB3 HR4 HC4 HB4 HK2 HK3 HK4 hw4 hf0 hd0 HPW HP0 HPj HR5 HB5 ht1 hw2 HE hx hw2' w4 w3 w2
      have HK2 := HK5
      clear HK5
      have hw2 := HK2.out.words
  all_goals
    go_wp2_with fail
    refine (word_any g i2 S _ (by omega) HK2.out.sch).mono ?_
    rintro e w3 ⟨rfl, hb3⟩
    have HK3 := Lib.hid ((HK2.out.keep hb3).alloc (.cells #[.int .u8 0, .int .u8 0, .int .u8 0, .int .u8 0] 267))
    have HT3 := Lib.hid ((HT.out.keep hb3).alloc (.cells #[.int .u8 0, .int .u8 0, .int .u8 0, .int .u8 0] 267))
    have HB3 := Lib.hid (((HB.out.trans (hb3.mono HB.out.size))).alloc (Nat.le_trans HB.out.size hb3.size) (.cells #[.int .u8 0, .int .u8 0, .int .u8 0, .int .u8 0] 267))
    have HA3 := Lib.hid (arr_made w3 #[.int .u8 0, .int .u8 0, .int .u8 0, .int .u8 0] 267 4 (fun _ => 0) rfl)
    have HL3 := Lib.hid (show tb < w3.heap.size ∧ g < w3.heap.size ∧ w.heap.size ≤ w3.heap.size from ⟨Nat.lt_of_lt_of_le (HT.out.lt (by decide)) hb3.size, Nat.lt_of_lt_of_le HK2.out.lt hb3.size, Nat.le_trans HB.out.size hb3.size⟩)
    clear hb3 HK2 HT HB
    go_wp2_with ((refine wpList_storeB rfl 267 (.tmp 5) (.tmp 63) rfl w3.heap.size 0 4 _ _ rfl rfl HA3.out size88 ?_; intro w4 h1 h2; have HO4 := Lib.hid h1; have HC4 := Lib.hid h2; clear h1 h2; have HK4 := Lib.hid (HK3.out.chg HC4.out (Nat.ne_of_lt HL3.out.2.1)); have HT4 := Lib.hid (HT3.out.chg HC4.out (Nat.ne_of_lt HL3.out.1)); have HB4 := Lib.hid (HB3.out.trans (HC4.out.below HB3.out.size HL3.out.2.2))))
    generalize hob : w3.heap.size = ob at *
    clear HC4 HA3 HB3 HT3 HK3
    go_loopw [64] (fun v wr => ∃ k : Nat, k ≤ 4 ∧ v = .int .i64 k ∧ KeyMem wr g n 0 m (putWj n i k S) box U D ∧ Arr wr tb 0 4 (kt n S i) ∧ Arr wr ob 0 4 (fun j => S (4 * i2 + j)) ∧ Chg g w wr) (fun v _ => 4 - (intOf v).toNat)
    case atStart => exact ⟨0, by decide, rfl, HK4.out.congr (fun j _ => putWj_zero n i S j) (fun _ _ => rfl) (fun _ _ => rfl) (fun _ _ => rfl), HT4.out, HO4.out, Chg.of_below HB4.out⟩
    case round =>
      obtain ⟨k, hk, rfl, h1, h2, h3, h4⟩ := hrel
      have H1 := Lib.hid h1
      have H2 := Lib.hid h2
      have H3 := Lib.hid h3
      have H4 := Lib.hid h4
      clear h1 h2 h3 h4
      by_cases hlt : k < 4
      · have hc1 := H2.out.cell hlt (Nat.zero_add k).symm
        have hc2 := H3.out.cell hlt (Nat.zero_add k).symm
        have hi4 : 4 * i + k < 240 := by omega
        have hc3 := H1.out.sch.cell hi4 (show 1 + (i * 4 + k) = 1 + (4 * i + k) by omega)
        have hf3 := H1.out.sch.frozen hi4 (show 1 + (i * 4 + k) = 1 + (4 * i + k) by omega)
        have hw5 : 1 + (i * 4 + k) = 1 + (4 * i + k) := by omega
        have HM5 := Lib.hid ((H1.out.setSch (k := 1 + (i * 4 + k)) hi4 (by omega) (S (4 * i2 + k) ^^^ kt n S i k) rfl).drew)
        have HC5 := Lib.hid ((H4.out.setCell (a := ⟨g, 1 + (i * 4 + k), none⟩) (Or.inl rfl) (.int .u8 ((S (4 * i2 + k) ^^^ kt n S i k : Nat) : Int))).drew)
        have HT5 := Lib.hid ((H2.out.setOther (a := ⟨g, 1 + (i * 4 + k), none⟩) HTB.out.symm (.int .u8 ((S (4 * i2 + k) ^^^ kt n S i k : Nat) : Int))).drew)
        have HO5 := Lib.hid ((H3.out.setOther (a := ⟨g, 1 + (i * 4 + k), none⟩) (Nat.ne_of_gt HL3.out.2.1) (.int .u8 ((S (4 * i2 + k) ^^^ kt n S i k : Nat) : Int))).drew)
        clear hw5
        have htl : kt n S i k < 256 := kt_by (by have := HN.out; omega) hi hlt (fun x hx => HS.out x (by omega))
        have hol : S (4 * i2 + k) < 256 := HS.out _ (by have := HI2.out; omega)
        have HX := Lib.hid (show S (4 * i2 + k) ^^^ kt n S i k = nxt n S i k by unfold nxt; rw [show i - n = i2 by have := HI2.out; omega])
        generalize kt n S i k = y at *
        generalize S (4 * i2 + k) = x at *
        have hx := x8 hol htl
        go_wp2_with fail
        go_region
        all_goals
          generalize (wr.setCell ⟨g, 1 + (i * 4 + k), none⟩ (.int .u8 ((x ^^^ y : Nat) : Int))).drew = W5 at *
          clear hc1 hc2 hc3 hf3
          go_wp2_with fail
          go_roundw
          case rel => exact ⟨k + 1, by omega, by go_num, HM5.out.congr (fun j _ => by rw [HX.out]; exact putWj_step n i k S hlt j) (fun _ _ => rfl) (fun _ _ => rfl) (fun _ _ => rfl), HT5.out, HO5.out, HC5.out⟩
          case measure => simp [intOf]; omega
      · obtain rfl : k = 4 := by omega
        go_wp2_with fail
        go_end0
        exact ⟨rfl, H1.out.congr (fun j _ => putWj_four n i S j) (fun _ _ => rfl) (fun _ _ => rfl) (fun _ _ => rfl), H4.out⟩
end Go.Proofs.YthmlcmlpmolmoaaGreatDoor
namespace Go.Proofs.YthmlcmlpmolmoaaGreatDoor
open Go.RowKit
theorem gm2_dbl : ∀ a, a < 256 → gm 2 a = dbl a := by decide +kernel
def tabk (f : Nat → Nat) (k j : Nat) : Nat := if j < k then f j else 0
def untab (k y : Nat) : Nat := if unbox y < k then unbox y else 0
theorem tabk_step (f : Nat → Nat) (k j : Nat) : (if j = k then f k else tabk f k j) = tabk f (k + 1) j := by
  unfold tabk
  by_cases e : j = k
  · subst e; rw [if_pos rfl, if_pos (Nat.lt_succ_self _)]
  · rw [if_neg e]
    by_cases h : j < k
    · rw [if_pos h, if_pos (by omega)]
    · rw [if_neg h, if_neg (by omega)]
theorem tabk_all (f : Nat → Nat) (j : Nat) (h : j < 256) : tabk f 256 j = f j := if_pos h
theorem untab_step {k : Nat} (hk : k < 256) (y : Nat) (hy : y < 256) : (if y = box k then k else untab k y) = untab (k + 1) y := by
  unfold untab
  by_cases e : y = box k
  · rw [if_pos e, e, unbox_box hk, if_pos (Nat.lt_succ_self _)]
  · have : unbox y ≠ k := fun h => e (by rw [← h, box_unbox hy])
    rw [if_neg e]
    by_cases h : unbox y < k
    · rw [if_pos h, if_pos (by omega)]
    · rw [if_neg h, if_neg (by omega)]
theorem untab_all (y : Nat) (h : y < 256) : untab 256 y = unbox y := if_pos (unbox_lt h)
set_option maxRecDepth 100000 in
set_option maxHeartbeats 1600000 in
theorem prepare_any (g n : Nat) (key : Nat → Nat) (w : World) (hn : n = 4 ∨ n = 8) (hkey : By (4 * n) key) (hk : KeyMem w g n 0 1 (sch n key 0) (fun _ => 0) (fun _ => 0) (fun _ => 0)) :
    Calls Tryz.prog 171 #[.pointer (some ⟨g, 0, none⟩)] w fun e w' => e = .returned (.tuple #[]) ∧ (KeyMem w' g n 0 1 (ks n key) box unbox dbl ∧ Chg g w w') := by
  have HK := Lib.hid hk
  have HN := Lib.hid hn
  have HY := Lib.hid hkey
  clear hk hn hkey
  go_enter Tryz.func171, Tryz.ntmps171
  go_wp2_with fail
  go_loopw [5] (fun v wr => ∃ k : Nat, k ≤ 256 ∧ v = .int .i64 k ∧ KeyMem wr g n 0 1 (sch n key 0) (tabk box k) (untab k) (tabk dbl k) ∧ Chg g w wr) (fun v _ => 256 - (intOf v).toNat)
  case atStart => exact ⟨0, by decide, rfl, HK.out.congr (fun _ _ => rfl) (fun j _ => (if_neg (Nat.not_lt_zero _)).symm) (fun j _ => (if_neg (Nat.not_lt_zero _)).symm) (fun j _ => (if_neg (Nat.not_lt_zero _)).symm), Chg.refl _ _⟩
  case round =>
    obtain ⟨k, hk, rfl, h1, h2⟩ := hrel
    have H1 := Lib.hid h1
    have H2 := Lib.hid h2
    clear h1 h2
    by_cases hlt : k < 256
    · have hbl := box_lt hlt
      have hdl := dbl_lt hlt
      have HBX := Lib.hid fun w => box_any k w hlt
      have HML := Lib.hid fun w => (show Calls Tryz.prog 202 #[.int .u8 2, .int .u8 (k : Nat)] w fun e w' => e = .returned (.int .u8 (dbl k : Nat)) ∧ w = w' by rw [← gm2_dbl k hlt]; exact mul_any 2 k w (by decide) hlt)
      have HM1 := Lib.hid (((H1.out.setBox hlt (k := 244 + k) rfl (box k) rfl).congr (fun _ _ => rfl) (fun j _ => tabk_step box k j) (fun _ _ => rfl) (fun _ _ => rfl)).drew)
      have HC1 := Lib.hid ((H2.out.setCell (a := ⟨g, 244 + k, none⟩) (Or.inl rfl) (.int .u8 (box k : Nat))).drew)
      have hc1 := H1.out.box.cell hlt rfl
      have hf1 := H1.out.box.frozen hlt rfl
      have HT1 := Lib.hid (show tabk box (k + 1) k = box k from if_pos (Nat.lt_succ_self k))
      have HU1 := Lib.hid fun y (hy : y < 256) => untab_step hlt y hy
      generalize hbx : box k = x at *
      clear hbx
      go_wp2_with fail
      go_region_with (go_at_call 201; refine (HBX.out _).mono ?_; rintro e w' ⟨rfl, rfl⟩)
      all_goals
        generalize (wr.setCell ⟨g, 244 + k, none⟩ (.int .u8 (x : Nat))).drew = W1 at *
        clear hc1 hf1
        have hc1 := HM1.out.box.cell hlt rfl
        rw [HT1.out] at hc1
        have hc2 := HM1.out.unbox.cell hbl rfl
        have hf2 := HM1.out.unbox.frozen hbl rfl
        have HM2 := Lib.hid (((HM1.out.setUnbox hbl (k := 500 + x) rfl k rfl).congr (fun _ _ => rfl) (fun _ _ => rfl) (fun j hj => HU1.out j hj) (fun _ _ => rfl)).drew)
        have HC2 := Lib.hid ((HC1.out.setCell (a := ⟨g, 500 + x, none⟩) (Or.inl rfl) (.int .u8 (k : Nat))).drew)
        go_wp2_with fail
        go_region
      all_goals
        generalize (W1.setCell ⟨g, 500 + x, none⟩ (.int .u8 (k : Nat))).drew = W2 at *
        clear hc1 hf2 hc2
        have hc3 := HM2.out.dbl.cell hlt rfl
        have hf3 := HM2.out.dbl.frozen hlt rfl
        have HM3 := Lib.hid (((HM2.out.setDbl hlt (k := 756 + k) rfl (dbl k) rfl).congr (fun _ _ => rfl) (fun _ _ => rfl) (fun _ _ => rfl) (fun j _ => tabk_step dbl k j)).drew)
        have HC3 := Lib.hid ((HC2.out.setCell (a := ⟨g, 756 + k, none⟩) (Or.inl rfl) (.int .u8 (dbl k : Nat))).drew)
        generalize hdx : dbl k = d at *
        clear hdx
        go_wp2_with fail
        go_region_with (go_at_call 202; refine (HML.out _).mono ?_; rintro e w' ⟨rfl, rfl⟩)
      all_goals
        generalize (W2.setCell ⟨g, 756 + k, none⟩ (.int .u8 (d : Nat))).drew = W3 at *
        clear hc3 hf3
        go_wp2_with fail
        go_roundw
        case rel => exact ⟨k + 1, by omega, by go_num, HM3.out, HC3.out⟩
        case measure => simp [intOf]; omega
    · obtain rfl : k = 256 := by omega
      have HM := Lib.hid (H1.out.congr (fun _ _ => rfl) (fun j hj => tabk_all box j hj) (fun j hj => untab_all j hj) (fun j hj => tabk_all dbl j hj))
      have hw := HM.out.words
      have hn4 : (4 : Int) ≤ (n : Nat) := by have := HN.out; omega
      have hn8 : ((n : Nat) : Int) ≤ 8 := by have := HN.out; omega
      have hn9 : n ≤ 8 := by omega
      clear H1
      rw [show ((256 : Nat) : Int) = 256 from rfl]
      go_wp2_with fail
      go_loopw [4] (fun v wx => ∃ k : Nat, k ≤ 3 * n + 28 ∧ v = .int .i64 ((n + k : Nat) : Int) ∧ KeyMem wx g n 0 1 (sch n key k) box unbox dbl ∧ Chg g w wx) (fun v _ => 60 - (intOf v).toNat)
      case atStart => exact ⟨0, Nat.zero_le _, rfl, HM.out, H2.out⟩
      case round =>
        obtain ⟨k, hk, rfl, h1, h2⟩ := hrel
        have H1 := Lib.hid h1
        have H3 := Lib.hid h2
        clear h1 h2
        have hw1 := H1.out.words
        by_cases hlt : k < 3 * n + 28
        · obtain ⟨i, hi⟩ : ∃ i, n + k = i := ⟨_, rfl⟩
          have hi2 : i < (n + 7) * 4 := by omega
          have hin : n ≤ i := by omega
          have hi60 : i < 60 := by omega
          have HMW := Lib.hid (make_any g n i 1 (sch n key k) unbox dbl _ HN.out hin hi60 (fun j _ => sch_by (by have := HN.out; omega) HY.out k j) H1.out)
          have HI := Lib.hid hi
          rw [hi]
          clear hi
          go_wp2_with (first | (go_at_call 173; refine (last_any g n _ hn9 hw1).mono ?_; rintro e w' ⟨rfl, rfl⟩) | (go_at_call 203; refine HMW.out.mono ?_; rintro e w' ⟨rfl, h1, h2⟩; have HM5 := Lib.hid h1; have HC5 := Lib.hid h2; clear h1 h2))
          go_roundw
          case rel => exact ⟨k + 1, by omega, by rw [← HI.out]; go_num, by
            have h := HM5.out
            rw [← HI.out] at h
            exact h, H3.out.trans HC5.out⟩
          case measure => simp [intOf]; omega
        · obtain rfl : k = 3 * n + 28 := by omega
          have hend : ¬ ((n + (3 * n + 28) : Nat) : Int) < ((n : Int) + 6 + 1) * 16 / 4 := by omega
          have HR := Lib.hid (show KeyMem wr g n 0 1 (ks n key) box unbox dbl from H1.out)
          generalize n + (3 * n + 28) = e at *
          clear H1 hk hlt
          go_wp2_with ((go_at_call 173; refine (last_any g n _ hn9 hw1).mono ?_; rintro e w' ⟨rfl, rfl⟩))
          go_end0
          exact ⟨rfl, HR.out, H3.out⟩
end Go.Proofs.YthmlcmlpmolmoaaGreatDoor
namespace Go.Proofs.YthmlcmlpmolmoaaGreatDoor
open Go.RowKit
theorem all_arr (t : TypeId) (n g o : Nat) (hu : Tryz.prog.underlying t = some (.array n 5)) (hn : 0 < n) (w : World) :
    (Instr.sliceAt t (.pointer (some ⟨g, o, none⟩)) none none none).run Tryz.prog w = .ok (.slice (some ⟨g, o, none⟩) n n) w := by
  have he : Tryz.prog.elem t = 5 := by simp [Program.elem, hu]
  have hl : Tryz.prog.arrayLen t = n := by simp [Program.arrayLen, hu]
  rw [run_sliceAt_array_all (ht := by rw [hl, he]; exact hu), he, sizeU8]
  show Result.ok (slicedAt ⟨g, o, none⟩ _ _ _ 1) w = _
  rw [hl]
  unfold slicedAt
  rw [if_neg (by omega), Go.WideShapes.add_plain, Nat.zero_mul, Nat.add_zero, Nat.sub_zero]
theorem upto_step (f h : Nat → Nat) (k x : Nat) (hx : h k = x) (j : Nat) : (if j = k then x else if j < k then h j else f j) = if j < k + 1 then h j else f j := by
  by_cases e : j = k
  · subst e; rw [if_pos rfl, if_pos (Nat.lt_succ_self _), hx]
  · rw [if_neg e]
    by_cases h : j < k
    · rw [if_pos h, if_pos (by omega)]
    · rw [if_neg h, if_neg (by omega)]
theorem arr_of_list {w : World} {g o n : Nat} {f : Nat → Nat} {L : List Value} {t : TypeId} (h : w.heap[g]? = some (.cells L.toArray t (0, 0))) (hL : ∀ j, j < n → L[o + j]? = (bytesL n f)[j]?) : Arr w g o n f := fun j hj => by
  refine ⟨?_, by simp [World.frozen?, h]⟩
  simp only [World.cell?, h]
  rw [List.getElem?_toArray, hL j hj, bytesL_at hj]
  rfl
theorem cell_off {w : World} {g k j : Nat} (hkj : k ≠ j) (v : Value) : (w.setCell ⟨g, k, none⟩ v).cell? ⟨g, j, none⟩ = w.cell? ⟨g, j, none⟩ :=
  World.cell?_setCell_other w ⟨g, k, none⟩ ⟨g, j, none⟩ v (fun e => hkj (congrArg Addr.off e))
end Go.Proofs.YthmlcmlpmolmoaaGreatDoor
namespace Go.Proofs.YthmlcmlpmolmoaaGreatDoor
open Go.RowKit
abbrev KeyReady (w : World) (g n : Nat) (key : Nat → Nat) : Prop := KeyMem w g n 1 0 (ks n key) box unbox dbl
def KeyAt (w : World) (g n : Nat) (key : Nat → Nat) : Prop := KeyMem w g n 0 0 (sch n key 0) (fun _ => 0) (fun _ => 0) (fun _ => 0) ∨ KeyReady w g n key
theorem KeyAt.of_block {w w' : World} {g n : Nat} {key : Nat → Nat} (h : KeyAt w g n key) (e : w'.heap[g]? = w.heap[g]?) : KeyAt w' g n key := h.imp (·.of_block e) (·.of_block e)
theorem KeyAt.lt {w : World} {g n : Nat} {key : Nat → Nat} (h : KeyAt w g n key) : g < w.heap.size := h.elim (·.lt) (·.lt)
theorem KeyAt.keep {w w' : World} {g n : Nat} {key : Nat → Nat} (h : KeyAt w g n key) (hb : Below w.heap.size w w') : KeyAt w' g n key := h.of_block (hb.block g h.lt)
theorem KeyAt.chg {w w' : World} {g n K : Nat} {key : Nat → Nat} (h : KeyAt w g n key) (hb : Chg K w w') (hK : g ≠ K) : KeyAt w' g n key := h.of_block (hb.block g h.lt hK)
theorem once_any (g n : Nat) (key : Nat → Nat) (w : World) (hn : n = 4 ∨ n = 8) (hkey : By (4 * n) key) (hk : KeyAt w g n key) :
    Calls Tryz.prog 78 #[.pointer (some ⟨g, 241, none⟩), .func (.func 171) #[.pointer (some ⟨g, 0, none⟩)] #[]] w fun e w' => e = .returned (.tuple #[]) ∧ KeyReady w' g n key ∧ Chg g w w' := by
  rcases hk with hk | hk
  · refine (do_first g 241 (.pointer (some ⟨g, 0, none⟩)) w hk.once (fun w1 => KeyMem w1 g n 0 1 (ks n key) box unbox dbl ∧ Chg g (w.setCell ⟨g, 242, none⟩ (.int .i32 1)) w1) (prepare_any g n key _ hn hkey (hk.setLock 1 rfl)) fun w1 h => h.1.once).mono ?_
    rintro e w' ⟨he, w1, ⟨h1, h2⟩, rfl⟩
    exact ⟨he, (h1.drew.setDone 1 rfl).setLock 0 rfl, ((((Chg.refl g w).setCell (a := ⟨g, 242, none⟩) (Or.inl rfl) _).trans h2).drew.setCell (a := ⟨g, 241, none⟩) (Or.inl rfl) _).setCell (a := ⟨g, 242, none⟩) (Or.inl rfl) _⟩
  · refine (do_done g 241 _ 0 w hk.once).mono ?_
    rintro e w' ⟨he, rfl⟩
    exact ⟨he, hk, Chg.refl _ _⟩
abbrev z16 : Array Value := #[.int .u8 0, .int .u8 0, .int .u8 0, .int .u8 0, .int .u8 0, .int .u8 0, .int .u8 0, .int .u8 0, .int .u8 0, .int .u8 0, .int .u8 0, .int .u8 0, .int .u8 0, .int .u8 0, .int .u8 0, .int .u8 0]
theorem made65 (w : World) : Arr (w.alloc (.cells #[.int .u8 0, .int .u8 0, .int .u8 0, .int .u8 0, .int .u8 0, .int .u8 0, .int .u8 0, .int .u8 0, .int .u8 0, .int .u8 0, .int .u8 0, .int .u8 0, .int .u8 0, .int .u8 0, .int .u8 0, .int .u8 0] 228)) w.heap.size 0 16 (fun _ => 0) := arr_made w _ _ 16 _ rfl
set_option maxHeartbeats 1600000 in
theorem add_any (g s r : Nat) (S f : Nat → Nat) (w : World) (hr : r ≤ 14) (hS : Arr w g 1 240 S) (hs : Arr w s 0 16 f) (hSb : By 240 S) (hf : By 16 f) :
    Calls Tryz.prog 172 #[.pointer (some ⟨g, 0, none⟩), .pointer (some ⟨s, 0, none⟩), .int .i64 (r : Nat)] w fun e w' => e = .returned (.tuple #[]) ∧ Arr w' s 0 16 (addk S r f) ∧ Chg s w w' := by
  have hsl := sl_arr 167 240 g 1 (16 * r) (16 * r + 16) Tryz.underlying167 (by omega) (by omega) (by omega) ((r : Int) * 16) (((r : Int) + 1) * 16) (by omega) (by omega)
  rw [show 16 * r + 16 - 16 * r = 16 by omega] at hsl
  have hpa := to_arr 228 16 5 Tryz.underlying228 (some ⟨g, 1 + 16 * r, none⟩) 16 (240 - 16 * r) (Nat.le_refl _)
  have HL := Lib.hid (hS.sub (a := 16 * r) (m := 16) (by omega) rfl)
  have HS := Lib.hid hs
  have HSB := Lib.hid hSb
  have HF := Lib.hid hf
  have HG := Lib.hid (hs.lt (by decide))
  clear hS hs hSb hf
  go_enter Tryz.func172, Tryz.ntmps172
  have HL0 := Lib.hid (HL.out.alloc (.cells z16 228))
  have HN0 := Lib.hid (made65 w)
  have HC0 := Lib.hid ((Chg.refl s w).alloc (.cells z16 228))
  have HS0 := Lib.hid (HS.out.alloc (.cells z16 228))
  go_wp2_with (first | (refine wpList_loadB rfl 228 (.tmp 18) rfl g (1 + 16 * r) 16 rfl _ HL.out _ Tryz.underlying228 rfl size65 ?_) | (refine wpList_storeB rfl 228 (.tmp 6) (.tmp 19) rfl w.heap.size 0 16 _ _ rfl rfl HN0.out size65 ?_; intro w2 h1 h2; have HR2 := Lib.hid h1; have HC2 := Lib.hid (HC0.out.thenNew h2 (Nat.le_refl _)); have HS2 := Lib.hid (HS0.out.chg h2 (Nat.ne_of_lt HG.out)); clear h1 h2) | (refine wpList_loadB rfl 228 (.tmp 6) rfl w.heap.size 0 16 rfl _ HR2.out _ Tryz.underlying228 rfl size65 ?_))
  clear HL0 HN0 HC0 HS0 HR2
  go_loopw [21] (fun v wr => ∃ k : Nat, k ≤ 16 ∧ v = .int .i64 k ∧ Arr wr s 0 16 (fun j => if j < k then addk S r f j else f j) ∧ Chg s w wr) (fun v _ => 16 - (intOf v).toNat)
  case atStart => exact ⟨0, by decide, rfl, HS2.out.congr fun j _ => (if_neg (Nat.not_lt_zero _)).symm, HC2.out⟩
  case round =>
    obtain ⟨k, hk, rfl, h1, h2⟩ := hrel
    have H1 := Lib.hid h1
    have H2 := Lib.hid h2
    clear h1 h2
    by_cases hlt : k < 16
    · obtain ⟨x, hx⟩ : ∃ x, S (16 * r + k) = x := ⟨_, rfl⟩
      have hix := index_arr 228 16 (fun j => S (16 * r + j)) k x Tryz.underlying228 hlt hx
      have hxl : x < 256 := by rw [← hx]; exact HSB.out _ (by omega)
      have hc := H1.out.cell hlt (Nat.zero_add k).symm
      have hf := H1.out.frozen hlt (Nat.zero_add k).symm
      rw [if_neg (Nat.lt_irrefl k)] at hc
      have hyl := HF.out k hlt
      have HX := Lib.hid (show addk S r f k = f k ^^^ x by unfold addk; rw [hx])
      have HM := Lib.hid (((H1.out.set hlt (Nat.zero_add k).symm (f k ^^^ x) rfl).congr fun j _ => upto_step f (addk S r f) k _ HX.out j).drew)
      have HC := Lib.hid ((H2.out.setCell (a := ⟨s, k, none⟩) (Or.inl rfl) (.int .u8 ((f k ^^^ x : Nat) : Int))).drew)
      clear hx
      generalize f k = y at *
      have hxy := x8 hyl hxl
      go_wp2_with fail
      go_region
      all_goals
        generalize (wr.setCell ⟨s, k, none⟩ (.int .u8 ((y ^^^ x : Nat) : Int))).drew = W at *
        clear hc hf
        go_wp2_with fail
        go_roundw
        case rel => exact ⟨k + 1, by omega, by go_num, HM.out, HC.out⟩
        case measure => simp [intOf]; omega
    · obtain rfl : k = 16 := by omega
      go_wp2_with fail
      go_end0
      exact ⟨rfl, H1.out.congr fun j hj => if_pos hj, H2.out⟩
set_option maxHeartbeats 1600000 in
theorem subst_any (g o s st : Nat) (T f : Nat → Nat) (w : World) (hst : st = 4 ∨ st = 12) (hT : Arr w g o 256 T) (hs : Arr w s 0 16 f) (hf : By 16 f) :
    Calls Tryz.prog 174 #[.pointer (some ⟨g, o, none⟩), .pointer (some ⟨s, 0, none⟩), .int .u64 (st : Nat)] w fun e w' => e = .returned (aggB 16 (subs T st f)) ∧ Below w.heap.size w w' := by
  have HT := Lib.hid ((hT.alloc (.cells z16 228)).alloc (.cells z16 228))
  have HS := Lib.hid ((hs.alloc (.cells z16 228)).alloc (.cells z16 228))
  have HF := Lib.hid hf
  have HG := Lib.hid (show s < w.heap.size ∧ g < w.heap.size from ⟨hs.lt (by decide), hT.lt (by decide)⟩)
  have hs1 : (w.alloc (.cells z16 228)).heap.size = w.heap.size + 1 := by simp
  have HO := Lib.hid ((made65 w).alloc (.cells z16 228))
  have hM := made65 (w.alloc (.cells z16 228))
  rw [hs1] at hM
  have HM := Lib.hid hM
  have HB := Lib.hid (((Below.refl w.heap.size w).alloc (Nat.le_refl _) (.cells z16 228)).alloc (by simp) (.cells z16 228))
  have HST := Lib.hid hst
  have hst2 : st < 256 := by omega
  clear hT hs hf hM hs1 hst
  go_enter Tryz.func174, Tryz.ntmps174
  go_wp2_with fail
  generalize hW : (w.alloc (.cells z16 228)).alloc (.cells z16 228) = W at *
  clear hW
  go_loopw [9] (fun v wr => ∃ k : Nat, k ≤ 16 ∧ v = .int .u64 k ∧ Arr wr (w.heap.size + 1) 0 16 (fun j => if j < k then subs T st f j else 0) ∧ Arr wr w.heap.size 0 16 (fun _ => 0) ∧ Arr wr g o 256 T ∧ Arr wr s 0 16 f ∧ Below w.heap.size w wr) (fun v _ => 16 - (intOf v).toNat)
  case atStart => exact ⟨0, by decide, rfl, HM.out.congr fun j _ => (if_neg (Nat.not_lt_zero _)).symm, HO.out, HT.out, HS.out, HB.out⟩
  case round =>
    obtain ⟨k, hk, rfl, h1, h2, h3, h4, h5⟩ := hrel
    have H1 := Lib.hid h1
    have H2 := Lib.hid h2
    have H3 := Lib.hid h3
    have H4 := Lib.hid h4
    have H5 := Lib.hid h5
    clear h1 h2 h3 h4 h5
    by_cases hlt : k < 16
    · obtain ⟨e, he⟩ : ∃ e, (k + st * (k % 4)) % 16 = e := ⟨_, rfl⟩
      have hel : e < 16 := by omega
      have hix : (IntKind.u64.wrap ((k : Int) + IntKind.u64.wrap ((st : Int) * ((k : Int) % 4)))).tmod 16 = (e : Nat) := by
        have hb : st * (k % 4) < 1024 := by rcases HST.out with h | h <;> subst h <;> omega
        obtain ⟨m, hm⟩ : ∃ m, st * (k % 4) = m := ⟨_, rfl⟩
        rw [hm] at hb he
        have h1 : (st : Int) * ((k : Int) % 4) = (m : Nat) := by rw [← hm]; simp
        have h2 : IntKind.u64.wrap ((m : Nat) : Int) = (m : Nat) := IntWalk.u64_in _ (by omega)
        rw [h1, h2, IntWalk.u64_in _ (by omega), Int.tmod_eq_emod_of_nonneg (by omega)]
        omega
      obtain ⟨x, hx⟩ : ∃ x, f e = x := ⟨_, rfl⟩
      have hxl : x < 256 := by rw [← hx]; exact HF.out e hel
      have hc1 := H4.out.cell hel (Nat.zero_add e).symm
      rw [hx] at hc1
      have hc2 := H3.out.cell hxl rfl
      have hc3 := H1.out.cell hlt (Nat.zero_add k).symm
      have hf3 := H1.out.frozen hlt (Nat.zero_add k).symm
      rw [if_neg (Nat.lt_irrefl k)] at hc3
      have HX := Lib.hid (show subs T st f k = T x by unfold subs; rw [he, hx])
      have HM1 := Lib.hid (((H1.out.set hlt (Nat.zero_add k).symm (T x) rfl).congr fun j _ => upto_step (fun _ => 0) (subs T st f) k _ HX.out j).drew)
      have HB1 := Lib.hid ((H5.out.setCell (p := ⟨w.heap.size + 1, k, none⟩) (Nat.le_succ _) (.int .u8 (T x : Nat))).drew)
      have HO1 := Lib.hid ((H2.out.setOther (a := ⟨w.heap.size + 1, k, none⟩) (Nat.ne_of_lt (Nat.lt_succ_self _)) (.int .u8 (T x : Nat))).drew)
      have HT1 := Lib.hid ((H3.out.setOther (a := ⟨w.heap.size + 1, k, none⟩) (Nat.ne_of_lt (Nat.lt_succ_of_lt HG.out.2)) (.int .u8 (T x : Nat))).drew)
      have HS1 := Lib.hid ((H4.out.setOther (a := ⟨w.heap.size + 1, k, none⟩) (Nat.ne_of_lt (Nat.lt_succ_of_lt HG.out.1)) (.int .u8 (T x : Nat))).drew)
      clear hx he
      generalize T x = y at *
      go_wp2_with fail
      go_region
      all_goals
        generalize (wr.setCell ⟨w.heap.size + 1, k, none⟩ (.int .u8 (y : Nat))).drew = W2 at *
        clear hc1 hc2 hc3 hf3 hix
        go_wp2_with fail
        go_roundw
        case rel => exact ⟨k + 1, by omega, by go_num, HM1.out, HO1.out, HT1.out, HS1.out, HB1.out⟩
        case measure => simp [intOf]; omega
    · obtain rfl : k = 16 := by omega
      have HR := Lib.hid (H1.out.congr (f := subs T st f) fun j hj => if_pos hj)
      go_wp2_with (first | (refine wpList_loadB rfl 228 (.tmp 7) rfl (w.heap.size + 1) 0 16 rfl _ HR.out _ Tryz.underlying228 rfl size65 ?_) | (refine wpList_storeB rfl 228 (.tmp 6) (.tmp 30) rfl w.heap.size 0 16 _ _ rfl rfl H2.out size65 ?_; intro w2 h1 h2; have HR2 := Lib.hid h1; have HC2 := Lib.hid h2; clear h1 h2))
      exact bodyPost_ret (results_cellB rfl _ _ w.heap.size 0 16 _ rfl HR2.out _ Tryz.underlying228 rfl size65) rfl ⟨rfl, H5.out.trans (HC2.out.below H5.out.size (Nat.le_refl _))⟩
end Go.Proofs.YthmlcmlpmolmoaaGreatDoor
namespace Go.Proofs.YthmlcmlpmolmoaaGreatDoor
open Go.RowKit
theorem mix_col (f : Nat → Nat) (q : Nat) : mixc f (4 * q) = mx (f (4 * q)) (f (4 * q + 1)) (f (4 * q + 2)) (f (4 * q + 3)) ∧ mixc f (4 * q + 1) = mx (f (4 * q + 1)) (f (4 * q + 2)) (f (4 * q + 3)) (f (4 * q)) ∧
    mixc f (4 * q + 2) = mx (f (4 * q + 2)) (f (4 * q + 3)) (f (4 * q)) (f (4 * q + 1)) ∧ mixc f (4 * q + 3) = mx (f (4 * q + 3)) (f (4 * q)) (f (4 * q + 1)) (f (4 * q + 2)) := by
  refine ⟨?_, ?_, ?_, ?_⟩
  · unfold mixc
    rw [show 4 * (4 * q / 4) + 4 * q % 4 = 4 * q by omega, show 4 * (4 * q / 4) + (4 * q + 1) % 4 = 4 * q + 1 by omega, show 4 * (4 * q / 4) + (4 * q + 2) % 4 = 4 * q + 2 by omega, show 4 * (4 * q / 4) + (4 * q + 3) % 4 = 4 * q + 3 by omega]
  · unfold mixc
    rw [show 4 * ((4 * q + 1) / 4) + (4 * q + 1) % 4 = 4 * q + 1 by omega, show 4 * ((4 * q + 1) / 4) + (4 * q + 1 + 1) % 4 = 4 * q + 2 by omega, show 4 * ((4 * q + 1) / 4) + (4 * q + 1 + 2) % 4 = 4 * q + 3 by omega, show 4 * ((4 * q + 1) / 4) + (4 * q + 1 + 3) % 4 = 4 * q by omega]
  · unfold mixc
    rw [show 4 * ((4 * q + 2) / 4) + (4 * q + 2) % 4 = 4 * q + 2 by omega, show 4 * ((4 * q + 2) / 4) + (4 * q + 2 + 1) % 4 = 4 * q + 3 by omega, show 4 * ((4 * q + 2) / 4) + (4 * q + 2 + 2) % 4 = 4 * q by omega, show 4 * ((4 * q + 2) / 4) + (4 * q + 2 + 3) % 4 = 4 * q + 1 by omega]
  · unfold mixc
    rw [show 4 * ((4 * q + 3) / 4) + (4 * q + 3) % 4 = 4 * q + 3 by omega, show 4 * ((4 * q + 3) / 4) + (4 * q + 3 + 1) % 4 = 4 * q by omega, show 4 * ((4 * q + 3) / 4) + (4 * q + 3 + 2) % 4 = 4 * q + 1 by omega, show 4 * ((4 * q + 3) / 4) + (4 * q + 3 + 3) % 4 = 4 * q + 2 by omega]
set_option maxRecDepth 100000 in
set_option maxHeartbeats 3200000 in
theorem mix_any (g s : Nat) (f : Nat → Nat) (w : World) (hD : Arr w g 756 256 dbl) (hs : Arr w s 0 16 f) (hf : By 16 f) (hne : g ≠ s) :
    Calls Tryz.prog 175 #[.pointer (some ⟨g, 0, none⟩), .pointer (some ⟨s, 0, none⟩)] w fun e w' => e = .returned (.tuple #[]) ∧ Arr w' s 0 16 (mixc f) ∧ Chg s w w' := by
  have HS := Lib.hid hs
  have HD := Lib.hid hD
  have HF := Lib.hid hf
  have HNE := Lib.hid hne
  clear hs hD hf hne
  go_enter Tryz.func175, Tryz.ntmps175
  go_wp2_with fail
  go_loopw [4] (fun v wr => ∃ q : Nat, q ≤ 4 ∧ v = .int .i64 ((4 * q : Nat) : Int) ∧ Arr wr s 0 16 (fun j => if j < 4 * q then mixc f j else f j) ∧ Chg s w wr) (fun v _ => 16 - (intOf v).toNat)
  case atStart => exact ⟨0, by decide, rfl, HS.out.congr fun j _ => (if_neg (Nat.not_lt_zero _)).symm, Chg.refl _ _⟩
  case round =>
    obtain ⟨q, hq, rfl, h1, h2⟩ := hrel
    have H1 := Lib.hid h1
    have H2 := Lib.hid h2
    have H3 := Lib.hid (HD.out.chg h2 HNE.out)
    clear h1 h2
    have HMC := Lib.hid (mix_col f q)
    obtain ⟨c, hc⟩ : ∃ c, 4 * q = c := ⟨_, rfl⟩
    rw [hc] at H1 HMC ⊢
    have HCQ := Lib.hid hc
    clear hc
    by_cases hlt : c < 16
    · have hc12 : c + 3 < 16 := by have := HCQ.out; omega
      have hsl := sl_arr 228 16 s 0 c (c + 4) Tryz.underlying228 (by omega) (by omega) (by omega) (c : Int) ((c : Int) + 4) rfl (by omega)
      rw [show c + 4 - c = 4 by omega, Nat.zero_add] at hsl
      have hpa := to_arr 267 4 5 Tryz.underlying267 (some ⟨s, c, none⟩) 4 (16 - c) (Nat.le_refl _)
      have hcl : ∀ i, i < 4 → wr.cell? ⟨s, c + i, none⟩ = some (.int .u8 (f (c + i) : Nat)) := fun i hi => by
        have := H1.out.cell (j := c + i) (k := c + i) (by omega) (Nat.zero_add _).symm
        rw [if_neg (by omega)] at this
        exact this
      have l0 : f (c) < 256 := HF.out _ (by omega)
      have hc0 : wr.cell? ⟨s, c, none⟩ = some (.int .u8 (f (c) : Nat)) := hcl 0 (by decide)
      have l1 : f (c + 1) < 256 := HF.out _ (by omega)
      have hc1 : wr.cell? ⟨s, c + 1, none⟩ = some (.int .u8 (f (c + 1) : Nat)) := hcl 1 (by decide)
      have l2 : f (c + 2) < 256 := HF.out _ (by omega)
      have hc2 : wr.cell? ⟨s, c + 2, none⟩ = some (.int .u8 (f (c + 2) : Nat)) := hcl 2 (by decide)
      have l3 : f (c + 3) < 256 := HF.out _ (by omega)
      have hc3 : wr.cell? ⟨s, c + 3, none⟩ = some (.int .u8 (f (c + 3) : Nat)) := hcl 3 (by decide)
      clear hcl
      generalize ha0 : f (c) = a0 at *
      generalize ha1 : f (c + 1) = a1 at *
      generalize ha2 : f (c + 2) = a2 at *
      generalize ha3 : f (c + 3) = a3 at *
      have HA := Lib.hid (show f c = a0 ∧ f (c + 1) = a1 ∧ f (c + 2) = a2 ∧ f (c + 3) = a3 from ⟨ha0, ha1, ha2, ha3⟩)
      clear ha0 ha1 ha2 ha3
      have p1 := x8 l0 l1
      have m1 := xor8 l0 l1
      have p2 := x8 m1 l2
      have m2 := xor8 m1 l2
      have p3 := x8 m2 l3
      have m3 := xor8 m2 l3
      have q1 := x8 l1 l2
      have n1 := xor8 l1 l2
      have q2 := x8 l2 l3
      have n2 := xor8 l2 l3
      have q3 := x8 l3 l0
      have n3 := xor8 l3 l0
      have d0 := dbl_lt m1
      have r0 := x8 m3 d0
      have u0 := xor8 m3 d0
      have v0 := x8 l0 u0
      have d1 := dbl_lt n1
      have r1 := x8 m3 d1
      have u1 := xor8 m3 d1
      have v1 := x8 l1 u1
      have d2 := dbl_lt n2
      have r2 := x8 m3 d2
      have u2 := xor8 m3 d2
      have v2 := x8 l2 u2
      have d3 := dbl_lt n3
      have r3 := x8 m3 d3
      have u3 := xor8 m3 d3
      have v3 := x8 l3 u3
      have HY0 := Lib.hid (show mixc f (c) = a0 ^^^ ((((a0 ^^^ a1) ^^^ a2) ^^^ a3) ^^^ dbl (a0 ^^^ a1)) by
        rw [HMC.out.1, ← mx_code a2 a3 l0 l1])
      have HY1 := Lib.hid (show mixc f (c + 1) = a1 ^^^ ((((a0 ^^^ a1) ^^^ a2) ^^^ a3) ^^^ dbl (a1 ^^^ a2)) by
        rw [HMC.out.2.1, ← mx_code a3 a0 l1 l2]
        congr 2
        ac_rfl)
      have HY2 := Lib.hid (show mixc f (c + 2) = a2 ^^^ ((((a0 ^^^ a1) ^^^ a2) ^^^ a3) ^^^ dbl (a2 ^^^ a3)) by
        rw [HMC.out.2.2.1, ← mx_code a0 a1 l2 l3]
        congr 2
        ac_rfl)
      have HY3 := Lib.hid (show mixc f (c + 3) = a3 ^^^ ((((a0 ^^^ a1) ^^^ a2) ^^^ a3) ^^^ dbl (a3 ^^^ a0)) by
        rw [HMC.out.2.2.2, ← mx_code a1 a2 l3 l0]
        congr 2
        ac_rfl)
      have HD0 := Lib.hid fun (W : World) (h : Arr W g 756 256 dbl) => h.cell (j := a0 ^^^ a1) m1 rfl
      have HD1 := Lib.hid fun (W : World) (h : Arr W g 756 256 dbl) => h.cell (j := a1 ^^^ a2) n1 rfl
      have HD2 := Lib.hid fun (W : World) (h : Arr W g 756 256 dbl) => h.cell (j := a2 ^^^ a3) n2 rfl
      have HD3 := Lib.hid fun (W : World) (h : Arr W g 756 256 dbl) => h.cell (j := a3 ^^^ a0) n3 rfl
      clear HMC
      generalize a0 ^^^ ((((a0 ^^^ a1) ^^^ a2) ^^^ a3) ^^^ dbl (a0 ^^^ a1)) = Y0 at *
      generalize ((((a0 ^^^ a1) ^^^ a2) ^^^ a3) ^^^ dbl (a0 ^^^ a1)) = E0 at *
      generalize dbl (a0 ^^^ a1) = D0 at *
      generalize a1 ^^^ ((((a0 ^^^ a1) ^^^ a2) ^^^ a3) ^^^ dbl (a1 ^^^ a2)) = Y1 at *
      generalize ((((a0 ^^^ a1) ^^^ a2) ^^^ a3) ^^^ dbl (a1 ^^^ a2)) = E1 at *
      generalize dbl (a1 ^^^ a2) = D1 at *
      generalize a2 ^^^ ((((a0 ^^^ a1) ^^^ a2) ^^^ a3) ^^^ dbl (a2 ^^^ a3)) = Y2 at *
      generalize ((((a0 ^^^ a1) ^^^ a2) ^^^ a3) ^^^ dbl (a2 ^^^ a3)) = E2 at *
      generalize dbl (a2 ^^^ a3) = D2 at *
      generalize a3 ^^^ ((((a0 ^^^ a1) ^^^ a2) ^^^ a3) ^^^ dbl (a3 ^^^ a0)) = Y3 at *
      generalize ((((a0 ^^^ a1) ^^^ a2) ^^^ a3) ^^^ dbl (a3 ^^^ a0)) = E3 at *
      generalize dbl (a3 ^^^ a0) = D3 at *
      generalize (((a0 ^^^ a1) ^^^ a2) ^^^ a3) = T at *
      generalize (a0 ^^^ a1) ^^^ a2 = T2 at *
      generalize a0 ^^^ a1 = X0 at *
      generalize a1 ^^^ a2 = X1 at *
      generalize a2 ^^^ a3 = X2 at *
      generalize a3 ^^^ a0 = X3 at *
      go_wp2_with fail
      go_quiet (fail)
      have H1q := Lib.hid (H1.out.drewN nq)
      have H2q := Lib.hid (H2.out.drewN nq)
      have H3q := Lib.hid (H3.out.drewN nq)
      generalize wr.drewN nq = W0 at *
      clear hc0 hc1 hc2 hc3 hsl hpa
      have hca := H1q.out.cell (j := c) (k := c) (by omega) (Nat.zero_add _).symm
      have hfa := H1q.out.frozen (j := c) (k := c) (by omega) (Nat.zero_add _).symm
      rw [if_neg (Nat.lt_irrefl _), HA.out.1] at hca
      have hda := HD0.out _ H3q.out
      have G1 := Lib.hid (((H1q.out.set (i := c) (k := c) (by omega) (Nat.zero_add _).symm Y0 rfl).congr fun j _ => upto_step f (mixc f) (c) _ HY0.out j).drew)
      have K1 := Lib.hid ((H2q.out.setCell (a := ⟨s, c, none⟩) (Or.inl rfl) (.int .u8 (Y0 : Nat))).drew)
      have M1 := Lib.hid ((H3q.out.setOther (a := ⟨s, c, none⟩) HNE.out (.int .u8 (Y0 : Nat))).drew)
      go_wp2_with fail
      go_region
      all_goals
        generalize (W0.setCell ⟨s, c, none⟩ (.int .u8 (Y0 : Nat))).drew = W1 at *
        clear hca hfa hda
        have hca := G1.out.cell (j := c + 1) (k := c + 1) (by omega) (Nat.zero_add _).symm
        have hfa := G1.out.frozen (j := c + 1) (k := c + 1) (by omega) (Nat.zero_add _).symm
        rw [if_neg (Nat.lt_irrefl _), HA.out.2.1] at hca
        have hda := HD1.out _ M1.out
        have G2 := Lib.hid (((G1.out.set (i := c + 1) (k := c + 1) (by omega) (Nat.zero_add _).symm Y1 rfl).congr fun j _ => upto_step f (mixc f) (c + 1) _ HY1.out j).drew)
        have K2 := Lib.hid ((K1.out.setCell (a := ⟨s, c + 1, none⟩) (Or.inl rfl) (.int .u8 (Y1 : Nat))).drew)
        have M2 := Lib.hid ((M1.out.setOther (a := ⟨s, c + 1, none⟩) HNE.out (.int .u8 (Y1 : Nat))).drew)
        go_wp2_with fail
        go_region
      all_goals
        generalize (W1.setCell ⟨s, c + 1, none⟩ (.int .u8 (Y1 : Nat))).drew = W2 at *
        clear hca hfa hda
        have hca := G2.out.cell (j := c + 2) (k := c + 2) (by omega) (Nat.zero_add _).symm
        have hfa := G2.out.frozen (j := c + 2) (k := c + 2) (by omega) (Nat.zero_add _).symm
        rw [if_neg (Nat.lt_irrefl _), HA.out.2.2.1] at hca
        have hda := HD2.out _ M2.out
        have G3 := Lib.hid (((G2.out.set (i := c + 2) (k := c + 2) (by omega) (Nat.zero_add _).symm Y2 rfl).congr fun j _ => upto_step f (mixc f) (c + 2) _ HY2.out j).drew)
        have K3 := Lib.hid ((K2.out.setCell (a := ⟨s, c + 2, none⟩) (Or.inl rfl) (.int .u8 (Y2 : Nat))).drew)
        have M3 := Lib.hid ((M2.out.setOther (a := ⟨s, c + 2, none⟩) HNE.out (.int .u8 (Y2 : Nat))).drew)
        go_wp2_with fail
        go_region
      all_goals
        generalize (W2.setCell ⟨s, c + 2, none⟩ (.int .u8 (Y2 : Nat))).drew = W3 at *
        clear hca hfa hda
        have hca := G3.out.cell (j := c + 3) (k := c + 3) (by omega) (Nat.zero_add _).symm
        have hfa := G3.out.frozen (j := c + 3) (k := c + 3) (by omega) (Nat.zero_add _).symm
        rw [if_neg (Nat.lt_irrefl _), HA.out.2.2.2] at hca
        have hda := HD3.out _ M3.out
        have G4 := Lib.hid (((G3.out.set (i := c + 3) (k := c + 3) (by omega) (Nat.zero_add _).symm Y3 rfl).congr fun j _ => upto_step f (mixc f) (c + 3) _ HY3.out j).drew)
        have K4 := Lib.hid ((K3.out.setCell (a := ⟨s, c + 3, none⟩) (Or.inl rfl) (.int .u8 (Y3 : Nat))).drew)
        have M4 := Lib.hid ((M3.out.setOther (a := ⟨s, c + 3, none⟩) HNE.out (.int .u8 (Y3 : Nat))).drew)
        go_wp2_with fail
        go_region
      all_goals
        generalize (W3.setCell ⟨s, c + 3, none⟩ (.int .u8 (Y3 : Nat))).drew = W4 at *
        clear hca hfa hda
        go_wp2_with fail
        go_roundw
        case rel => exact ⟨q + 1, by have := HCQ.out; omega, by have := HCQ.out; go_num, G4.out.congr fun j _ => by rw [show 4 * (q + 1) = c + 3 + 1 by have := HCQ.out; omega], K4.out⟩
        case measure => simp [intOf]; omega
    · have h16 : c = 16 := by have := HCQ.out; omega
      have HR := Lib.hid (H1.out.congr (f := mixc f) fun j hj => if_pos (by omega))
      clear h16
      go_wp2_with fail
      go_end0
      exact ⟨rfl, HR.out, H2.out⟩
end Go.Proofs.YthmlcmlpmolmoaaGreatDoor
namespace Go.Proofs.YthmlcmlpmolmoaaGreatDoor
open Go.RowKit
structure BlkP (g n : Nat) (key r : Nat → Nat) (w : World) (e : Ending) (w' : World) (st : Nat) : Prop where
  ret : e = .returned (.tuple #[.slice (some ⟨st, 0, none⟩) 16 16, .int .i64 0])
  new : w.heap.size ≤ st
  row : Arr w' st 0 16 r
  key : KeyReady w' g n key
  chg : Chg g w w'
set_option maxRecDepth 100000 in
set_option maxHeartbeats 1600000 in
theorem enc_any (g n : Nat) (key b : Nat → Nat) (A : Option Addr) (cap : Nat) (w : World) (hn : n = 4 ∨ n = 8) (hkey : By (4 * n) key) (hk : KeyAt w g n key) (hA : SlB w A 16 b) (hAg : ∀ B o, A = some ⟨B, o, none⟩ → B ≠ g) :
    Calls Tryz.prog 145 #[.pointer (some ⟨g, 0, none⟩), .slice A 16 cap] w fun e w' => ∃ st, BlkP g n key (enc n (ks n key) b) w e w' st := by
  obtain ⟨B, o, rfl, hB, hbs⟩ := hA (by decide)
  have HO := Lib.hid (once_any g n key w hn hkey hk)
  have HBY := Lib.hid fun j (hj : j < 16) => (hbs j hj).1
  have HBG := Lib.hid (hAg B o rfl)
  have HBS := Lib.hid (show w.rangeAt B o (bytesL 16 b) from fun j v hv => by
    obtain ⟨hj, rfl⟩ := bytesL_get _ _ j v hv
    exact (hbs j hj).2)
  have HBL := Lib.hid hB
  have HN := Lib.hid hn
  have HY := Lib.hid hkey
  have HG := Lib.hid hk.lt
  have hmf : ∀ (fn : Fn) (first cap : Array Value) (w : World), (Instr.makeFunc fn first cap).run Tryz.prog w = .ok (.func fn first cap) w := fun _ _ _ _ => rfl
  have hpa := to_arr 228 16 5 Tryz.underlying228 (some ⟨B, o, none⟩) 16 cap (Nat.le_refl _)
  clear hA hAg hn hkey hk hbs hB
  go_enter Tryz.func145, Tryz.ntmps145
  have HGB := Lib.hid (show By 16 b from fun j hj => HBY.out j hj)
  go_wp2_with (first | (go_at_call 78; refine HO.out.mono ?_; rintro e w1 ⟨rfl, h1, h2⟩; have HK1 := Lib.hid h1; have HC1 := Lib.hid h2; have HR1 := Lib.hid (show w1.rangeAt B o (bytesL 16 b) from fun j v hv => (h2.cell HBL.out HBG.out).trans (HBS.out j v hv)); have HM1 := Lib.hid (made65 w1); have HK2 := Lib.hid (HK1.out.alloc (.cells z16 228)); have HC2 := Lib.hid (HC1.out.alloc (.cells z16 228)); clear h1 h2) | (refine wpList_loadR rfl 228 (.tmp 18) rfl B o 16 rfl _ HR1.out _ Tryz.underlying228 rfl size65 ?_) | (refine wpList_storeB rfl 228 (.tmp 6) (.tmp 19) rfl w1.heap.size 0 16 _ _ rfl rfl HM1.out size65 ?_; intro w2 h1 h2; have HS2 := Lib.hid h1; have HX2 := Lib.hid h2; clear h1 h2))
  have HSL := Lib.hid (show w.heap.size ≤ w1.heap.size from HC1.out.size)
  have HSG := Lib.hid (show g ≠ w1.heap.size from Nat.ne_of_lt HK1.out.lt)
  generalize hst : w1.heap.size = st at *
  have HK3 := Lib.hid (HK2.out.chg HX2.out HSG.out)
  have HC3 := Lib.hid (HC2.out.thenNew HX2.out HSL.out)
  have HSB := Lib.hid fun j (_ : j < 240) => ks_by (by have := HN.out; omega) HY.out j
  have HA1 := Lib.hid (add_any g st 0 (ks n key) b w2 (by decide) HK3.out.sch HS2.out (fun j hj => HSB.out j hj) HGB.out)
  clear HX2 HS2 HM1 HK2 HC2 HC1 HK1 HR1 hst
  go_wp2_with (go_at_call 172; refine HA1.out.mono ?_; rintro e w3 ⟨rfl, h1, h2⟩; have HS4 := Lib.hid h1; have HK4 := Lib.hid (HK3.out.chg h2 HSG.out); have HC4 := Lib.hid (HC3.out.thenNew h2 HSL.out); clear h1 h2)
  clear HA1 HK3 HC3
  go_loopw [7] (fun v wr => ∃ r : Nat, r ≤ n + 6 ∧ v = .int .i64 ((r + 1 : Nat) : Int) ∧ Arr wr st 0 16 (est n (ks n key) b r) ∧ KeyReady wr g n key ∧ Chg g w wr) (fun v _ => 30 - (intOf v).toNat)
  case atStart => exact ⟨0, by omega, rfl, HS4.out, HK4.out, HC4.out⟩
  case round =>
    obtain ⟨r, hr, rfl, h1, h2, h3⟩ := hrel
    have hn8 : n ≤ 8 := by have := HN.out; omega
    have hw := h2.words
    have hby := est_by (S := ks n key) (fun j hj => ks_by (by have := HN.out; omega) HY.out j) HGB.out r hr
    have H1 := Lib.hid h1
    have H2 := Lib.hid h2
    have H3 := Lib.hid h3
    have HBY2 := Lib.hid hby
    clear h1 h2 h3 hby
    obtain ⟨q, hq⟩ : ∃ q, r + 1 = q := ⟨_, rfl⟩
    rw [hq]
    by_cases hlt : r < n + 6
    · have hql : (q : Int) ≤ ((n + 6 : Nat) : Int) := by omega
      have HSU := Lib.hid (subst_any g 244 st 4 box (est n (ks n key) b r) wr (Or.inl rfl) H2.out.box H1.out HBY2.out)
      have HSY := Lib.hid (subs_by box_by 4 HBY2.out)
      have HQ := Lib.hid hq
      clear hq
      have HRK := Lib.hid (show By 240 (ks n key) from fun j hj => HSB.out j hj)
      by_cases hmx : q < n + 6
      · have hmi : decide ((q : Int) < (n : Int) + 6) = true := by rw [decide_eq_true_eq]; omega
        have HE := Lib.hid (show addk (ks n key) q (mixc (subs box 4 (est n (ks n key) b r))) = est n (ks n key) b q by rw [← HQ.out]; show _ = addk _ _ (if r + 1 < n + 6 then _ else _); rw [if_pos (by have := HQ.out; omega)])
        go_wp2_with (first | (go_at_call 173; (first | (with_reducible refine (last_any g n _ hn8 hw).mono ?_) | (with_reducible refine (last_any g n _ hn8 hw5).mono ?_)); rintro e w' ⟨rfl, rfl⟩) | (go_at_call 174; refine HSU.out.mono ?_; rintro e w4 ⟨rfl, h1⟩; have H4 := Lib.hid (H2.out.keep h1); have H5 := Lib.hid (H1.out.keep h1); have H6 := Lib.hid (H3.out.thenBelow h1); clear h1) | (refine wpList_storeB rfl 228 (.tmp 6) (.tmp 31) rfl st 0 16 _ _ rfl rfl H5.out size65 ?_; intro w5 h1 h2; have HS5 := Lib.hid h1; have HK5 := Lib.hid (H4.out.chg h2 HSG.out); have HC5 := Lib.hid (H6.out.thenNew h2 HSL.out); have hw5 := HK5.out.words; clear h1 h2) | (go_at_call 175; refine (mix_any g st _ _ HK5.out.dbl HS5.out HSY.out HSG.out).mono ?_; rintro e w6 ⟨rfl, h1, h2⟩; have HS6 := Lib.hid h1; have HK6 := Lib.hid (HK5.out.chg h2 HSG.out); have HC6 := Lib.hid (HC5.out.thenNew h2 HSL.out); have HSY6 := Lib.hid (mixc_by HSY.out); clear h1 h2) | (go_at_call 172; refine (add_any g st q (ks n key) _ _ (by have := HQ.out; omega) HK6.out.sch HS6.out HRK.out HSY6.out).mono ?_; rintro e w7 ⟨rfl, h1, h2⟩; have HS7 := Lib.hid h1; have HK7 := Lib.hid (HK6.out.chg h2 HSG.out); have HC7 := Lib.hid (HC6.out.thenNew h2 HSL.out); clear h1 h2))
        go_roundw
        case rel => exact ⟨q, by omega, by go_num, HE.out ▸ HS7.out, HK7.out, HC7.out⟩
        case measure => simp [intOf]; omega
      · have hmi : decide ((q : Int) < (n : Int) + 6) = false := by rw [decide_eq_false_iff_not]; omega
        have HE := Lib.hid (show addk (ks n key) q (subs box 4 (est n (ks n key) b r)) = est n (ks n key) b q by rw [← HQ.out]; show _ = addk _ _ (if r + 1 < n + 6 then _ else _); rw [if_neg (by have := HQ.out; omega)])
        go_wp2_with (first | (go_at_call 173; (first | (with_reducible refine (last_any g n _ hn8 hw).mono ?_) | (with_reducible refine (last_any g n _ hn8 hw5).mono ?_)); rintro e w' ⟨rfl, rfl⟩) | (go_at_call 174; refine HSU.out.mono ?_; rintro e w4 ⟨rfl, h1⟩; have H4 := Lib.hid (H2.out.keep h1); have H5 := Lib.hid (H1.out.keep h1); have H6 := Lib.hid (H3.out.thenBelow h1); clear h1) | (refine wpList_storeB rfl 228 (.tmp 6) (.tmp 31) rfl st 0 16 _ _ rfl rfl H5.out size65 ?_; intro w5 h1 h2; have HS5 := Lib.hid h1; have HK5 := Lib.hid (H4.out.chg h2 HSG.out); have HC5 := Lib.hid (H6.out.thenNew h2 HSL.out); have hw5 := HK5.out.words; clear h1 h2) | (go_at_call 172; refine (add_any g st q (ks n key) _ _ (by have := HQ.out; omega) HK5.out.sch HS5.out HRK.out HSY.out).mono ?_; rintro e w7 ⟨rfl, h1, h2⟩; have HS7 := Lib.hid h1; have HK7 := Lib.hid (HK5.out.chg h2 HSG.out); have HC7 := Lib.hid (HC5.out.thenNew h2 HSL.out); clear h1 h2))
        go_roundw
        case rel => exact ⟨q, by omega, by go_num, HE.out ▸ HS7.out, HK7.out, HC7.out⟩
        case measure => simp [intOf]; omega
    · have hql : ¬ (q : Int) ≤ ((n + 6 : Nat) : Int) := by omega
      have HE := Lib.hid (show Arr wr st 0 16 (enc n (ks n key) b) from by
        have h := H1.out
        obtain rfl : r = n + 6 := by omega
        exact h)
      clear hq H1 HBY2
      have hsa : ∀ W : World, (Instr.sliceAt 228 (.pointer (some ⟨st, 0, none⟩)) none none none).run Tryz.prog W = .ok (.slice (some ⟨st, 0, none⟩) 16 16) W := all_arr 228 16 st 0 Tryz.underlying228 (by decide)
      go_wp2_with (go_at_call 173; refine (last_any g n _ hn8 hw).mono ?_; rintro e w' ⟨rfl, rfl⟩)
      go_ret2
      exact ⟨st, rfl, HSL.out, HE.out, H2.out, H3.out⟩
end Go.Proofs.YthmlcmlpmolmoaaGreatDoor
