/- 11 texts in one, in their order: what the cards need of them. -/
import Derived.Test.YthmlcmlpmolmoaaGreatDoorSk4
import Derived.Laws.BitsAllLaws
namespace Go.Proofs.YthmlcmlpmolmoaaGreatDoor
open Go.RowKit
def valsL (n : Nat) (f : Nat → Value) : List Value := (List.range n).map f
theorem valsL_length (n : Nat) (f : Nat → Value) : (valsL n f).length = n := by simp [valsL]
theorem valsL_at {n : Nat} {f : Nat → Value} {j : Nat} (hj : j < n) : (valsL n f)[j]? = some (f j) := by
  unfold valsL; rw [List.getElem?_map, List.getElem?_range hj]; rfl
theorem valsL_get {n : Nat} {f : Nat → Value} {j : Nat} {u : Value} (h : (valsL n f)[j]? = some u) : j < n ∧ u = f j := by
  rcases Nat.lt_or_ge j n with hj | hj
  · rw [valsL_at hj] at h; exact ⟨hj, (Option.some.inj h).symm⟩
  · rw [List.getElem?_eq_none (by rw [valsL_length]; exact hj)] at h; cases h
theorem valsL_congr {n : Nat} {f g : Nat → Value} (h : ∀ j, j < n → f j = g j) : valsL n f = valsL n g := List.map_congr_left fun j hj => h j (List.mem_range.1 hj)
theorem vals_one {n : Nat} {f : Nat → Value} (h : ∀ j, j < n → (f j).oneCell' = true) : ∀ v ∈ valsL n f, v.oneCell' = true := by
  intro u hu
  obtain ⟨j, hj⟩ := List.getElem?_of_mem hu
  obtain ⟨hk, rfl⟩ := valsL_get hj
  exact h j hk
def ArrV (w : World) (g o n : Nat) (f : Nat → Value) : Prop := ∀ j, j < n → w.cell? ⟨g, o + j, none⟩ = some (f j) ∧ w.frozen? ⟨g, o + j, none⟩ = false
namespace ArrV
variable {w w' : World} {g o n : Nat} {cur f : Nat → Value}
theorem congr (h : ArrV w g o n cur) (e : ∀ j, j < n → cur j = f j) : ArrV w g o n f := fun j hj => by rw [← e j hj]; exact h j hj
theorem cell (h : ArrV w g o n cur) {j k : Nat} (hj : j < n) (hk : k = o + j) : w.cell? ⟨g, k, none⟩ = some (cur j) := by subst hk; exact (h j hj).1
theorem frozen (h : ArrV w g o n cur) {j k : Nat} (hj : j < n) (hk : k = o + j) : w.frozen? ⟨g, k, none⟩ = false := by subst hk; exact (h j hj).2
theorem lt (h : ArrV w g o n cur) (hn : 0 < n) : g < w.heap.size := block_lt (h 0 hn).1
theorem of_block (h : ArrV w g o n cur) (e : w'.heap[g]? = w.heap[g]?) : ArrV w' g o n cur := fun j hj => ⟨(World.cell?_of_block e).trans (h j hj).1, (World.frozen?_of_block e).trans (h j hj).2⟩
theorem drewN (h : ArrV w g o n cur) (k : Nat) : ArrV (w.drewN k) g o n cur := h
theorem drew (h : ArrV w g o n cur) : ArrV w.drew g o n cur := h
theorem keep (h : ArrV w g o n cur) (hb : Below w.heap.size w w') : ArrV w' g o n cur := fun j hj => (h.of_block (hb.block g (h.lt (by omega)))) j hj
theorem alloc (h : ArrV w g o n cur) (ob : Obj) : ArrV (w.alloc ob) g o n cur := h.keep ((Below.refl _ _).alloc (Nat.le_refl _) ob)
theorem chg {K : Nat} (h : ArrV w g o n cur) (hc : Chg K w w') (hK : g ≠ K) : ArrV w' g o n cur := fun j hj => (h.of_block (hc.block g (h.lt (by omega)) hK)) j hj
theorem setOther (h : ArrV w g o n cur) {a : Addr} (ha : g ≠ a.block) (v : Value) : ArrV (w.setCell a v) g o n cur := h.of_block (Below.heap_setCell w a v g ha)
theorem set (h : ArrV w g o n cur) {k i : Nat} (hi : i < n) (hk : k = o + i) (v : Value) : ArrV (w.setCell ⟨g, k, none⟩ v) g o n (fun j => if j = i then v else cur j) := fun j hj => by
  subst hk
  refine ⟨?_, by rw [World.frozen?_setCell]; exact (h j hj).2⟩
  by_cases e : j = i
  · subst e
    rw [World.cell?_setCell_same w _ _ (h j hj).1]
    show _ = some (if j = j then v else cur j)
    rw [if_pos rfl]
  · refine (World.cell?_setCell_other w ⟨g, o + i, none⟩ ⟨g, o + j, none⟩ _ (fun e' => by have := congrArg Addr.off e'; simp at this; omega)).trans ?_
    show _ = some (if j = i then v else cur j)
    rw [if_neg e]; exact (h j hj).1
theorem range (h : ArrV w g o n cur) : w.rangeAt g o (valsL n cur) := fun j v hv => by
  obtain ⟨hj, rfl⟩ := valsL_get hv
  exact (h j hj).1
theorem sub (h : ArrV w g o n cur) {a m o' : Nat} (ha : a + m ≤ n) (ho : o' = o + a) : ArrV w g o' m (fun j => cur (a + j)) := fun j hj => by
  subst ho
  rw [Nat.add_assoc]
  exact h (a + j) (by omega)
theorem there (h : ArrV w g o n cur) : w.there g o n := fun j hj => ⟨by rw [(h j hj).1]; rfl, (h j hj).2⟩
theorem there' (h : ArrV w g o n cur) (f : Nat → Value) : w.there g o (valsL n f).toArray.size := by
  rw [List.size_toArray, valsL_length]; exact h.there
theorem setCells (h : ArrV w g o n cur) (f : Nat → Value) : ArrV (w.setCells g o (valsL n f)) g o n f := fun j hj => by
  refine ⟨?_, ?_⟩
  · exact World.rangeAt_setCells_same w g o (valsL n f) (by rw [valsL_length]; exact h.there) j _ (valsL_at hj)
  · rw [World.frozen?_setCells]; exact (h j hj).2
end ArrV
theorem arrV_made (w : World) (c : Array Value) (t : TypeId) (n : Nat) (f : Nat → Value) (hc : c = (valsL n f).toArray) : ArrV (w.alloc (.cells c t)) w.heap.size 0 n f := fun j hj => by
  subst hc
  refine ⟨(World.cell?_alloc_at _ _ _ _ rfl).trans ?_, World.frozen?_alloc_at _ _ _ _ rfl⟩
  show (valsL n f).toArray[0 + j]? = _
  rw [Nat.zero_add, List.getElem?_toArray]
  exact valsL_at hj
def RowV (w : World) (g : Nat) (t : TypeId) (n : Nat) (f : Nat → Value) : Prop := w.heap[g]? = some (.cells (valsL n f).toArray t (0, 0))
namespace RowV
variable {w w' : World} {g n : Nat} {t : TypeId} {cur f : Nat → Value}
theorem lt (h : RowV w g t n cur) : g < w.heap.size := (Array.getElem?_eq_some_iff.1 h).1
theorem of_block (h : RowV w g t n cur) (e : w'.heap[g]? = w.heap[g]?) : RowV w' g t n cur := e.trans h
theorem drewN (h : RowV w g t n cur) (k : Nat) : RowV (w.drewN k) g t n cur := h
theorem drew (h : RowV w g t n cur) : RowV w.drew g t n cur := h
theorem keep (h : RowV w g t n cur) (hb : Below w.heap.size w w') : RowV w' g t n cur := h.of_block (hb.block g h.lt)
theorem alloc (h : RowV w g t n cur) (o : Obj) : RowV (w.alloc o) g t n cur := h.of_block (Below.heap_alloc w o g h.lt)
theorem chg {K : Nat} (h : RowV w g t n cur) (hc : Chg K w w') (hK : g ≠ K) : RowV w' g t n cur := h.of_block (hc.block g h.lt hK)
theorem setOther (h : RowV w g t n cur) {a : Addr} (ha : g ≠ a.block) (v : Value) : RowV (w.setCell a v) g t n cur := h.of_block (Below.heap_setCell w a v g ha)
theorem congr (h : RowV w g t n cur) (e : ∀ j, j < n → cur j = f j) : RowV w g t n f := by
  unfold RowV at *; rw [← valsL_congr e]; exact h
theorem arr (h : RowV w g t n cur) : ArrV w g 0 n cur := fun j hj => by
  rw [Nat.zero_add]
  refine ⟨?_, ?_⟩
  · unfold RowV at h
    have e : (valsL n cur)[j]? = some (cur j) := valsL_at hj
    simp [World.cell?, h, e]
  · unfold RowV at h
    simp [World.frozen?, h]
theorem cell (h : RowV w g t n cur) {i : Nat} (hi : i < n) : w.cell? ⟨g, i, none⟩ = some (cur i) := h.arr.cell hi (Nat.zero_add i).symm
theorem frozen (h : RowV w g t n cur) {i : Nat} (hi : i < n) : w.frozen? ⟨g, i, none⟩ = false := h.arr.frozen hi (Nat.zero_add i).symm
theorem set (h : RowV w g t n cur) (i : Nat) (v : Value) : RowV (w.setCell ⟨g, i, none⟩ v) g t n (fun j => if j = i then v else cur j) := by
  unfold RowV at *
  rw [show (w.setCell ⟨g, i, none⟩ v).heap[g]? = some (.cells ((valsL n cur).toArray.setIfInBounds i v) t (0, 0)) by simp [World.setCell, Array.getElem?_modify, h]]
  congr 2
  apply Array.ext'
  apply List.ext_getElem?
  intro j
  simp only [List.setIfInBounds_toArray, List.getElem?_set, valsL_length]
  rcases Nat.lt_or_ge j n with hj | hj
  · rw [valsL_at hj, valsL_at hj]
    by_cases e : i = j
    · subst e; simp [hj]
    · have e2 : ¬ j = i := fun h => e h.symm
      simp [e, e2]
  · rw [List.getElem?_eq_none (by rw [valsL_length]; exact hj), List.getElem?_eq_none (by rw [valsL_length]; exact hj)]
    by_cases e : i = j
    · subst e; simp [Nat.not_lt.2 hj]
    · simp [e]
end RowV
theorem rowV_made (w : World) (c : Array Value) (t : TypeId) (n : Nat) (f : Nat → Value) (hc : c = (valsL n f).toArray) : RowV (w.alloc (.cells c t)) w.heap.size t n f := by
  subst hc; exact heap_alloc_new w _
def putV (off k : Nat) (f cur : Nat → Value) (j : Nat) : Value := if off ≤ j ∧ j < off + k then f (j - off) else cur j
theorem splice_vals (m off k : Nat) (f cur : Nat → Value) (h : off + k ≤ m) : splice (valsL m cur) off (valsL k f) = valsL m (putV off k f cur) := by
  unfold splice valsL
  apply List.ext_getElem?
  intro j
  simp only [List.length_map, List.length_range, List.getElem?_append, List.getElem?_take, List.getElem?_drop, List.length_take, List.getElem?_map]
  rw [Nat.min_eq_left (show off ≤ m by omega)]
  unfold putV
  by_cases h1 : j < off
  · rw [if_pos h1, if_pos h1, List.getElem?_range (by omega)]
    simp only [Option.map_some]
    rw [if_neg (by omega)]
  · rw [if_neg h1]
    by_cases h2 : j < off + k
    · rw [if_pos (by omega), List.getElem?_range (by omega), List.getElem?_range (by omega)]
      simp only [Option.map_some]
      rw [if_pos ⟨by omega, h2⟩]
    · rw [if_neg (by omega), show off + k + (j - off - k) = j by omega]
      by_cases hj : j < m
      · rw [List.getElem?_range hj]
        simp only [Option.map_some]
        rw [if_neg (by omega)]
      · rw [List.getElem?_eq_none (by simpa using hj)]; rfl
theorem chg_setRow (w : World) (g : Nat) (cs : Array Value) : Chg g w (w.setRow g cs) := ⟨rfl, rfl, rfl, by simp [World.setRow], fun k _ hk => setRow_other w g k cs hk⟩
theorem step_copyV {ops : Array Oper} {o : Oper} {a : Act} {w : World} {K : Act → World → Prop} {Q : Exit → Act → World → Prop} {E : Prop} (hgd : o.guard = none) (d s : Operand)
    (ho : o.op = .call { callee := .builtin .copy, args := #[d, s], argTypes := #[22, 22] })
    (g off dLen dCap : Nat) (A : Option Addr) (sLen sCap : Nat) (hd : a.eval d = .slice (some ⟨g, off, none⟩) dLen dCap) (hs : a.eval s = .slice A sLen sCap)
    (t : TypeId) (m : Nat) (cur : Nat → Value) (hg : RowV w g t m cur) (f : Nat → Nat) (hA : SlB w A sLen f) (k : Nat) (hk : k = Nat.min sLen dLen) (hfit : off + k ≤ m)
    (h : ∀ w', RowV w' g t m (putV off k (fun j => .int .u8 (f j : Nat)) cur) → Chg g w w' → K (a.put o.dst (goInt k)) w') : if Region.wanted o (yielded ops a.tmps) = true then Oper.wp Tryz.prog o a w K Q else E := by
  have hw : Region.wanted o (yielded ops a.tmps) = true := by simp [Region.wanted, hgd]
  rw [if_pos hw]
  have hl : (bytesL k f).length = k := by simp [bytesL]
  by_cases h0 : k = 0
  · subst h0
    have hrun := run_copy_none (P := Tryz.prog) w 22 22 o.type 5 (some ⟨g, off, none⟩) A dLen dCap sLen sCap Tryz.underlying22 sizeOf8 hk.symm
    unfold Oper.wp
    simp [execOp, ho, resolve, invoke, builtin, hd, hs, hrun, Result.andThen]
    refine h w ?_ (Chg.refl _ _)
    exact hg.congr fun j _ => by unfold putV; rw [if_neg (by omega)]
  · obtain ⟨_, ad, rfl, hsrc⟩ := copy_parts (k := k) hA (by rw [hk]; exact Nat.min_le_left _ _) (dp := some ⟨g, off, none⟩) (g := g) (off := off) (fun _ => rfl) (by rw [hl]; omega)
    have hrun := run_copy_row (P := Tryz.prog) w 22 22 o.type 5 g off dLen dCap ad sLen sCap (valsL m cur).toArray t (bytesL k f) Tryz.underlying22 sizeOf8 hg (by rw [hl, hk]) hsrc (by rw [hl]; simpa [valsL] using hfit) (bytes_one k f)
    unfold Oper.wp
    simp [execOp, ho, resolve, invoke, builtin, hd, hs, hrun, Result.andThen]
    rw [hl]
    refine h _ ?_ (chg_setRow w g _)
    unfold RowV
    rw [← splice_vals m off k _ cur hfit]
    have e : valsL k (fun j => Value.int .u8 (f j : Nat)) = bytesL k f := rfl
    rw [e]
    simpa [splice, hl] using setRow_heap w g _ _ t _ hg
end Go.Proofs.YthmlcmlpmolmoaaGreatDoor
namespace Go.Proofs.YthmlcmlpmolmoaaGreatDoor
def rr (n x : Nat) : Nat := x / 2 ^ n ||| x * 2 ^ (32 - n) % 4294967296
def chn (e f g : Nat) : Nat := (e &&& f) ^^^ ((4294967295 - e) &&& g)
def maj (a b c : Nat) : Nat := ((a &&& b) ^^^ (a &&& c)) ^^^ (b &&& c)
def bs1 (e : Nat) : Nat := (rr 6 e ^^^ rr 11 e) ^^^ rr 25 e
def bs0 (a : Nat) : Nat := (rr 2 a ^^^ rr 13 a) ^^^ rr 22 a
def ls0 (x : Nat) : Nat := (rr 7 x ^^^ rr 18 x) ^^^ x / 8
def ls1 (x : Nat) : Nat := (rr 17 x ^^^ rr 19 x) ^^^ x / 1024
theorem rr_lt {n x : Nat} (hx : x < 4294967296) : rr n x < 4294967296 := by
  refine Nat.or_lt_two_pow (n := 32) ?_ (Nat.mod_lt _ (by decide))
  exact Nat.lt_of_le_of_lt (Nat.div_le_self _ _) hx
theorem xor32 {a b : Nat} (ha : a < 4294967296) (hb : b < 4294967296) : a ^^^ b < 4294967296 := Nat.xor_lt_two_pow (n := 32) ha hb
theorem or32 {a b : Nat} (ha : a < 4294967296) (hb : b < 4294967296) : a ||| b < 4294967296 := Nat.or_lt_two_pow (n := 32) ha hb
theorem and32 {a b : Nat} (ha : a < 4294967296) : a &&& b < 4294967296 := Nat.lt_of_le_of_lt Nat.and_le_left ha
theorem and32' {a b : Nat} (hb : b < 4294967296) : a &&& b < 4294967296 := Nat.lt_of_le_of_lt Nat.and_le_right hb
theorem chn_lt {e f g : Nat} (hf : f < 4294967296) (hg : g < 4294967296) : chn e f g < 4294967296 := xor32 (and32' hf) (and32' hg)
theorem maj_lt {a b c : Nat} (ha : a < 4294967296) (hb : b < 4294967296) : maj a b c < 4294967296 := xor32 (xor32 (and32 ha) (and32 ha)) (and32 hb)
theorem bs1_lt {x : Nat} (h : x < 4294967296) : bs1 x < 4294967296 := xor32 (xor32 (rr_lt h) (rr_lt h)) (rr_lt h)
theorem bs0_lt {x : Nat} (h : x < 4294967296) : bs0 x < 4294967296 := xor32 (xor32 (rr_lt h) (rr_lt h)) (rr_lt h)
theorem ls0_lt {x : Nat} (h : x < 4294967296) : ls0 x < 4294967296 := xor32 (xor32 (rr_lt h) (rr_lt h)) (by omega)
theorem ls1_lt {x : Nat} (h : x < 4294967296) : ls1 x < 4294967296 := xor32 (xor32 (rr_lt h) (rr_lt h)) (by omega)
theorem not_bit (e i : Nat) (he : e < 4294967296) : (4294967295 - e).testBit i = (decide (i < 32) && !e.testBit i) := by
  have := Nat.testBit_two_pow_sub_succ (n := 32) he i
  rw [show 4294967295 - e = 2 ^ 32 - (e + 1) by omega]
  exact this
theorem chn_or {e f g : Nat} (he : e < 4294967296) : ((e &&& f) ||| ((4294967295 - e) &&& g)) = chn e f g := by
  unfold chn
  apply Nat.eq_of_testBit_eq
  intro i
  rw [Nat.testBit_or, Nat.testBit_xor, Nat.testBit_and, Nat.testBit_and, not_bit e i he]
  cases e.testBit i <;> cases f.testBit i <;> cases g.testBit i <;> simp
theorem maj_or (a b c : Nat) : ((a &&& b) ||| (a &&& c) ||| (b &&& c)) = maj a b c := by
  unfold maj
  apply Nat.eq_of_testBit_eq
  intro i
  simp only [Nat.testBit_or, Nat.testBit_xor, Nat.testBit_and]
  cases a.testBit i <;> cases b.testBit i <;> cases c.testBit i <;> rfl
structure S8 where
  a : Nat
  b : Nat
  c : Nat
  d : Nat
  e : Nat
  f : Nat
  g : Nat
  h : Nat
theorem S8.ext' {s t : S8} (ha : s.a = t.a) (hb : s.b = t.b) (hc : s.c = t.c) (hd : s.d = t.d) (he : s.e = t.e) (hf : s.f = t.f) (hg : s.g = t.g) (hh : s.h = t.h) : s = t := by
  cases s; cases t; simp_all
instance : DecidableEq S8 := fun s t =>
  decidable_of_iff ((s.a = t.a ∧ s.b = t.b) ∧ (s.c = t.c ∧ s.d = t.d) ∧ (s.e = t.e ∧ s.f = t.f) ∧ (s.g = t.g ∧ s.h = t.h))
    ⟨fun ⟨⟨a, b⟩, ⟨c, d⟩, ⟨e, f⟩, ⟨g, h⟩⟩ => S8.ext' a b c d e f g h, fun h => h ▸ ⟨⟨rfl, rfl⟩, ⟨rfl, rfl⟩, ⟨rfl, rfl⟩, ⟨rfl, rfl⟩⟩⟩
structure S8.ok (s : S8) : Prop where
  a : s.a < 4294967296
  b : s.b < 4294967296
  c : s.c < 4294967296
  d : s.d < 4294967296
  e : s.e < 4294967296
  f : s.f < 4294967296
  g : s.g < 4294967296
  h : s.h < 4294967296
def kcL : List Nat := [1116352408, 1899447441, 3049323471, 3921009573, 961987163, 1508970993, 2453635748, 2870763221, 3624381080, 310598401, 607225278, 1426881987, 1925078388, 2162078206, 2614888103, 3248222580, 3835390401, 4022224774, 264347078, 604807628, 770255983, 1249150122, 1555081692, 1996064986, 2554220882, 2821834349, 2952996808, 3210313671, 3336571891, 3584528711, 113926993, 338241895, 666307205, 773529912, 1294757372, 1396182291, 1695183700, 1986661051, 2177026350, 2456956037, 2730485921, 2820302411, 3259730800, 3345764771, 3516065817, 3600352804, 4094571909, 275423344, 430227734, 506948616, 659060556, 883997877, 958139571, 1322822218, 1537002063, 1747873779, 1955562222, 2024104815, 2227730452, 2361852424, 2428436474, 2756734187, 3204031479, 3329325298]
def kc (t : Nat) : Nat := kcL.getD t 0
def st0 : S8 := ⟨1779033703, 3144134277, 1013904242, 2773480762, 1359893119, 2600822924, 528734635, 1541459225⟩
theorem kc_lt (t : Nat) : kc t < 4294967296 := by
  unfold kc
  rcases Nat.lt_or_ge t 64 with h | h
  · exact (show ∀ t, t < 64 → kcL.getD t 0 < 4294967296 by decide +kernel) t h
  · rw [List.getD_eq_getElem?_getD, List.getElem?_eq_none (by exact h)]; decide
theorem st0_ok : st0.ok := ⟨by decide, by decide, by decide, by decide, by decide, by decide, by decide, by decide⟩
def tx (s : S8) (k w : Nat) : Nat := s.h + bs1 s.e + chn s.e s.f s.g + k + w
def ty (s : S8) : Nat := bs0 s.a + maj s.a s.b s.c
def rnd (s : S8) (k w : Nat) : S8 := ⟨(tx s k w + ty s) % 4294967296, s.a, s.b, s.c, (s.d + tx s k w) % 4294967296, s.e, s.f, s.g⟩
theorem rnd_ok {s : S8} (h : s.ok) (k w : Nat) : (rnd s k w).ok := ⟨Nat.mod_lt _ (by decide), h.a, h.b, h.c, Nat.mod_lt _ (by decide), h.e, h.f, h.g⟩
def rs (W : Nat → Nat) (s : S8) : Nat → S8
  | 0 => s
  | t + 1 => rnd (rs W s t) (kc t) (W t)
theorem rs_ok {W : Nat → Nat} {s : S8} (h : s.ok) : ∀ t, (rs W s t).ok
  | 0 => h
  | t + 1 => rnd_ok (rs_ok h t) _ _
theorem rs_congr {W V : Nat → Nat} {s : S8} : ∀ t, (∀ j, j < t → W j = V j) → rs W s t = rs V s t
  | 0, _ => rfl
  | t + 1, h => by rw [rs, rs, rs_congr t (fun j hj => h j (by omega)), h t (Nat.lt_succ_self t)]
def be (b : Nat → Nat) (o : Nat) : Nat := b o * 16777216 + b (o + 1) * 65536 + b (o + 2) * 256 + b (o + 3)
def wn (b : Nat → Nat) : Nat → Nat → Nat
  | 0, j => if j < 16 then be b (4 * j) else 0
  | n + 1, j => if j = 16 + n then (wn b n n + ls0 (wn b n (n + 1)) + wn b n (n + 9) + ls1 (wn b n (n + 14))) % 4294967296 else wn b n j
theorem be_lt {b : Nat → Nat} {o : Nat} (h0 : b o < 256) (h1 : b (o + 1) < 256) (h2 : b (o + 2) < 256) (h3 : b (o + 3) < 256) : be b o < 4294967296 := by unfold be; omega
theorem wn_lt {b : Nat → Nat} (hb : ∀ j, j < 64 → b j < 256) : ∀ n j, wn b n j < 4294967296
  | 0, j => by
    rw [wn]; split
    · exact be_lt (hb _ (by omega)) (hb _ (by omega)) (hb _ (by omega)) (hb _ (by omega))
    · decide
  | n + 1, j => by
    rw [wn]; split
    · exact Nat.mod_lt _ (by decide)
    · exact wn_lt hb n j
theorem wn_congr {b c : Nat → Nat} (h : ∀ j, j < 64 → b j = c j) : ∀ n j, wn b n j = wn c n j
  | 0, j => by
    rw [wn, wn]; split
    · unfold be; rw [h _ (by omega), h _ (by omega), h _ (by omega), h _ (by omega)]
    · rfl
  | n + 1, j => by
    rw [wn, wn, wn_congr h n, wn_congr h n, wn_congr h n, wn_congr h n, wn_congr h n]
def add8 (s t : S8) : S8 := ⟨(s.a + t.a) % 4294967296, (s.b + t.b) % 4294967296, (s.c + t.c) % 4294967296, (s.d + t.d) % 4294967296, (s.e + t.e) % 4294967296, (s.f + t.f) % 4294967296, (s.g + t.g) % 4294967296, (s.h + t.h) % 4294967296⟩
theorem add8_ok (s t : S8) : (add8 s t).ok := ⟨Nat.mod_lt _ (by decide), Nat.mod_lt _ (by decide), Nat.mod_lt _ (by decide), Nat.mod_lt _ (by decide), Nat.mod_lt _ (by decide), Nat.mod_lt _ (by decide), Nat.mod_lt _ (by decide), Nat.mod_lt _ (by decide)⟩
def comp (s : S8) (b : Nat → Nat) : S8 := add8 s (rs (wn b 48) s 64)
theorem comp_congr {s : S8} {b c : Nat → Nat} (h : ∀ j, j < 64 → b j = c j) : comp s b = comp s c := by
  unfold comp
  rw [rs_congr 64 fun j _ => wn_congr h 48 j]
def hs (f : Nat → Nat) : Nat → S8
  | 0 => st0
  | i + 1 => comp (hs f i) (fun j => f (64 * i + j))
theorem hs_ok (f : Nat → Nat) : ∀ i, (hs f i).ok
  | 0 => st0_ok
  | _ + 1 => add8_ok _ _
theorem hs_congr {f g : Nat → Nat} : ∀ i, (∀ j, j < 64 * i → f j = g j) → hs f i = hs g i
  | 0, _ => rfl
  | i + 1, h => by
    rw [hs, hs, hs_congr i fun j hj => h j (by omega)]
    exact comp_congr fun j hj => h _ (by omega)
def at8 (s : S8) (j : Nat) : Nat := [s.a, s.b, s.c, s.d, s.e, s.f, s.g, s.h].getD j 0
theorem at8_lt {s : S8} (h : s.ok) (j : Nat) : at8 s j < 4294967296 := by
  rcases Nat.lt_or_ge j 8 with hj | hj
  · match j, hj with
    | 0, _ => exact h.a
    | 1, _ => exact h.b
    | 2, _ => exact h.c
    | 3, _ => exact h.d
    | 4, _ => exact h.e
    | 5, _ => exact h.f
    | 6, _ => exact h.g
    | 7, _ => exact h.h
  · unfold at8; rw [List.getD_eq_getElem?_getD, List.getElem?_eq_none (by exact hj)]; decide
theorem at8_add (s t : S8) (j : Nat) (hj : j < 8) : at8 (add8 s t) j = (at8 s j + at8 t j) % 4294967296 := by
  match j, hj with
  | 0, _ => rfl
  | 1, _ => rfl
  | 2, _ => rfl
  | 3, _ => rfl
  | 4, _ => rfl
  | 5, _ => rfl
  | 6, _ => rfl
  | 7, _ => rfl
def padL (n : Nat) : Nat := 64 * ((n + 72) / 64)
def padf (n : Nat) (f : Nat → Nat) (j : Nat) : Nat := if j < n then f j else if j = n then 128 else if j < padL n - 8 then 0 else 8 * n / 256 ^ (padL n - 1 - j) % 256
def dig (s : S8) (j : Nat) : Nat := at8 s (j / 4) / 256 ^ (3 - j % 4) % 256
theorem dig_lt (s : S8) (j : Nat) : dig s j < 256 := Nat.mod_lt _ (by decide)
def sha (n : Nat) (f : Nat → Nat) (j : Nat) : Nat := dig (hs (padf n f) ((n + 72) / 64)) j
theorem sha_lt (n : Nat) (f : Nat → Nat) (j : Nat) : sha n f j < 256 := dig_lt _ _
theorem padf_congr {n : Nat} {f g : Nat → Nat} (h : ∀ j, j < n → f j = g j) (j : Nat) : padf n f j = padf n g j := by
  unfold padf
  by_cases e : j < n
  · rw [if_pos e, if_pos e, h j e]
  · rw [if_neg e, if_neg e]
theorem sha_congr {n : Nat} {f g : Nat → Nat} (h : ∀ j, j < n → f j = g j) (j : Nat) : sha n f j = sha n g j := by
  unfold sha
  rw [hs_congr _ fun j _ => padf_congr h j]
end Go.Proofs.YthmlcmlpmolmoaaGreatDoor
namespace Go.Proofs.YthmlcmlpmolmoaaGreatDoor
open Go.RowKit
theorem srot_any (x n : Nat) (w : World) (hx : x < 4294967296) (h1 : 1 ≤ n) (h2 : n ≤ 31) :
    Calls Tryz.prog 237 #[.int .u32 x, .int .i64 (-(n : Int))] w fun e w' => e = .returned (.int .u32 (rr n x : Nat)) ∧ w = w' := by
  obtain ⟨m, hm⟩ : ∃ m, 32 - n = m := ⟨_, rfl⟩
  have hb : bits BinOp.and .u64 (IntKind.u64.wrap (-(n : Int))) 31 = ((m : Nat) : Int) := by
    have e : IntKind.u64.wrap (-(n : Int)) = ((18446744073709551616 - n : Nat) : Int) := by
      simp [IntKind.wrap, IntKind.bits, IntKind.signed]; omega
    rw [e]
    refine (u64_and_nat _ 31 (by omega) (by decide)).trans ?_
    rw [show ((18446744073709551616 - n) &&& 31) = (18446744073709551616 - n) % 32 from Nat.and_two_pow_sub_one_eq_mod _ 5]
    omega
  have hx1 : x * 2 ^ m % 4294967296 < 4294967296 := Nat.mod_lt _ (by decide)
  have hx2 : x / 2 ^ n < 4294967296 := Nat.lt_of_le_of_lt (Nat.div_le_self _ _) hx
  have ho : bits BinOp.or .u32 ((x : Int) * 2 ^ m % 4294967296) ((x : Int) / 2 ^ (32 - m)) = ((x * 2 ^ m % 4294967296 ||| x / 2 ^ n : Nat) : Int) := by
    rw [← u32_or_nat _ _ hx1 hx2, show 32 - m = n by omega]; simp
  have HR := Lib.hid (show rr n x = x * 2 ^ m % 4294967296 ||| x / 2 ^ n by unfold rr; rw [hm, Nat.or_comm])
  have hm31 : (m : Int) ≤ 31 := by omega
  clear hm hx1 hx2
  generalize x * 2 ^ m % 4294967296 ||| x / 2 ^ n = a at *
  go_enter Tryz.func237, Tryz.ntmps237
  go_wp2
  go_ret
  exact ⟨by rw [HR.out]; rfl, rfl⟩
theorem right_any (n x : Nat) (w : World) (hx : x < 4294967296) (h1 : 1 ≤ n) (h2 : n ≤ 31) :
    Calls Tryz.prog 221 #[.int .u32 x, .int .i64 n] w fun e w' => e = .returned (.int .u32 (rr n x : Nat)) ∧ w = w' := by
  have HR := Lib.hid fun w => srot_any x n w hx h1 h2
  have hn : (n : Int) ≤ 31 := by omega
  go_enter Tryz.func221, Tryz.ntmps221
  go_wp2_with (refine (HR.out _).mono ?_; rintro e w' ⟨rfl, rfl⟩)
  go_ret
  exact ⟨rfl, rfl⟩
theorem turn_any (i j k x : Nat) (w : World) (hx : x < 4294967296) (i1 : 1 ≤ i) (i2 : i ≤ 31) (j1 : 1 ≤ j) (j2 : j ≤ 31) (k1 : 1 ≤ k) (k2 : k ≤ 31) :
    Calls Tryz.prog 200 #[.int .u32 x, .int .i64 i, .int .i64 j, .int .i64 k] w fun e w' => e = .returned (.int .u32 ((rr i x ^^^ rr j x) ^^^ rr k x : Nat)) ∧ w = w' := by
  have H1 := Lib.hid fun w => right_any i x w hx i1 i2
  have H2 := Lib.hid fun w => right_any j x w hx j1 j2
  have H3 := Lib.hid fun w => right_any k x w hx k1 k2
  have ha : rr i x < 4294967296 := rr_lt hx
  have hb : rr j x < 4294967296 := rr_lt hx
  have hc : rr k x < 4294967296 := rr_lt hx
  generalize rr i x = a at *
  generalize rr j x = b at *
  generalize rr k x = c at *
  have hx1 := u32_xor_nat a b ha hb
  have hx2 := u32_xor_nat (a ^^^ b) c (xor32 ha hb) hc
  have hab := xor32 ha hb
  have habc := xor32 hab hc
  go_enter Tryz.func200, Tryz.ntmps200
  go_wp2_with fail
  refine (H1.out _).mono ?_; rintro e w' ⟨rfl, rfl⟩
  go_wp2_with fail
  refine (H2.out _).mono ?_; rintro e w' ⟨rfl, rfl⟩
  go_wp2_with fail
  refine (H3.out _).mono ?_; rintro e w' ⟨rfl, rfl⟩
  go_wp2_with fail
  go_ret
  exact ⟨rfl, rfl⟩
theorem or_add (k a b : Nat) (hb : b < 2 ^ k) : a * 2 ^ k ||| b = a * 2 ^ k + b := by
  rw [Nat.mul_comm, Nat.two_pow_add_eq_or_of_lt hb]
theorem word_or (b0 b1 b2 b3 : Nat) (h0 : b0 < 256) (h1 : b1 < 256) (h2 : b2 < 256) (h3 : b3 < 256) :
    ∃ x1 x2 x3 : Nat, bits BinOp.or .u32 ((b0 : Int) * 16777216) ((b1 : Int) * 65536) = (x1 : Int) ∧ bits BinOp.or .u32 (x1 : Int) ((b2 : Int) * 256) = (x2 : Int) ∧ bits BinOp.or .u32 (x2 : Int) (b3 : Int) = (x3 : Int) ∧
      x3 = b0 * 16777216 + b1 * 65536 + b2 * 256 + b3 := by
  refine ⟨b0 * 16777216 + b1 * 65536, b0 * 16777216 + b1 * 65536 + b2 * 256, b0 * 16777216 + b1 * 65536 + b2 * 256 + b3, ?_, ?_, ?_, rfl⟩
  · rw [show b0 * 16777216 + b1 * 65536 = b0 * 2 ^ 24 ||| b1 * 65536 from (or_add 24 b0 (b1 * 65536) (by omega)).symm]
    exact u32_or_nat (b0 * 16777216) (b1 * 65536) (by omega) (by omega)
  · rw [show b0 * 16777216 + b1 * 65536 + b2 * 256 = (b0 * 256 + b1) * 2 ^ 16 ||| b2 * 256 by rw [or_add 16 _ _ (by omega)]; omega]
    rw [show b0 * 16777216 + b1 * 65536 = (b0 * 256 + b1) * 2 ^ 16 by omega]
    exact u32_or_nat _ (b2 * 256) (by omega) (by omega)
  · rw [show b0 * 16777216 + b1 * 65536 + b2 * 256 + b3 = (b0 * 65536 + b1 * 256 + b2) * 2 ^ 8 ||| b3 by rw [or_add 8 _ _ (by omega)]; omega]
    rw [show b0 * 16777216 + b1 * 65536 + b2 * 256 = (b0 * 65536 + b1 * 256 + b2) * 2 ^ 8 by omega]
    exact u32_or_nat _ b3 (by omega) (by omega)
set_option maxRecDepth 100000 in
theorem wordAt_any (A : Option Addr) (n c : Nat) (b : Nat → Nat) (w : World) (hA : SlB w A n b) (hn : 4 ≤ n) (hn2 : n ≤ 4611686018427387904) :
    Calls Tryz.prog 220 #[.slice A n c] w fun e w' => e = .returned (.int .u32 (be b 0 : Nat)) ∧ ∃ n, w' = w.drewN n := by
  obtain ⟨B, o, rfl, hB, hc⟩ := hA (by omega)
  obtain ⟨h0, c0⟩ := hc 0 (by omega)
  obtain ⟨h1, c1⟩ := hc 1 (by omega)
  obtain ⟨h2, c2⟩ := hc 2 (by omega)
  obtain ⟨h3, c3⟩ := hc 3 (by omega)
  have HR := Lib.hid (show be b 0 = b 0 * 16777216 + b 1 * 65536 + b 2 * 256 + b 3 from rfl)
  clear hc
  generalize b 0 = b0 at *
  generalize b 1 = b1 at *
  generalize b 2 = b2 at *
  generalize b 3 = b3 at *
  rw [Nat.add_zero] at c0
  have hn4 : (4 : Int) ≤ n := by omega
  have hn5 : (n : Int) ≤ 4611686018427387904 := by omega
  obtain ⟨x1, x2, x3, o1, o2, o3, e3⟩ := word_or b0 b1 b2 b3 h0 h1 h2 h3
  have HE := Lib.hid e3
  clear e3
  go_enter Tryz.func220, Tryz.ntmps220
  go_wp2_with fail
  go_quiet (fail)
  go_wp2_with fail
  go_ret
  exact ⟨by rw [HR.out, ← HE.out]; rfl, nq, rfl⟩
def putw (a x : Nat) (cur : Nat → Nat) (j : Nat) : Nat := if a ≤ j ∧ j < a + 4 then x / 256 ^ (3 - (j - a)) % 256 else cur j
set_option maxHeartbeats 800000 in
theorem putWord_any (g O a o N n c x : Nat) (w : World) (hx : x < 4294967296) (hn : 4 ≤ n) (hn2 : n ≤ 4611686018427387904) (cur : Nat → Nat) (h : Arr w g O N cur) (ho : o = O + a) (ha : a + 4 ≤ N) :
    Calls Tryz.prog 167 #[.slice (some ⟨g, o, none⟩) n c, .int .u32 x] w fun e w' => e = .returned (.tuple #[]) ∧ (Arr w' g O N (putw a x cur) ∧ Chg g w w') := by
  have hn4 : (4 : Int) ≤ n := by omega
  have hn5 : (n : Int) ≤ 4611686018427387904 := by omega
  have c0 := h.cell (j := a) (k := o) (by omega) (by omega)
  have c1 := h.cell (j := a + 1) (k := o + 1) (by omega) (by omega)
  have c2 := h.cell (j := a + 2) (k := o + 2) (by omega) (by omega)
  have c3 := h.cell (j := a + 3) (k := o + 3) (by omega) (by omega)
  have f0 := h.frozen (j := a) (k := o) (by omega) (by omega)
  have f1 := h.frozen (j := a + 1) (k := o + 1) (by omega) (by omega)
  have f2 := h.frozen (j := a + 2) (k := o + 2) (by omega) (by omega)
  have f3 := h.frozen (j := a + 3) (k := o + 3) (by omega) (by omega)
  have H := Lib.hid h
  have HO := Lib.hid ho
  clear h ho
  go_enter Tryz.func167, Tryz.ntmps167
  go_wp2_with fail
  go_end0
  refine ⟨rfl, ?_, ((((Chg.refl _ _).setCell (a := ⟨g, o, none⟩) (Or.inl rfl) _).setCell (a := ⟨g, o + 1, none⟩) (Or.inl rfl) _).setCell (a := ⟨g, o + 2, none⟩) (Or.inl rfl) _).setCell (a := ⟨g, o + 3, none⟩) (Or.inl rfl) _⟩
  have hO := HO.out
  refine (((((H.out.set (i := a) (by omega) (by omega) (x / 16777216) (by simp)).set (i := a + 1) (by omega) (by omega) (x / 65536 % 256) (by simp)).set (i := a + 2) (by omega) (by omega) (x / 256 % 256) (by simp)).set (i := a + 3) (by omega) (by omega) (x % 256) (by simp)).congr fun j _ => ?_)
  unfold putw
  by_cases h0 : j = a
  · subst h0; rw [if_neg (by omega), if_neg (by omega), if_neg (by omega), if_pos rfl, if_pos ⟨Nat.le_refl _, by omega⟩, Nat.sub_self]; show x / 16777216 = x / 16777216 % 256; omega
  by_cases h1 : j = a + 1
  · subst h1; rw [if_neg (by omega), if_neg (by omega), if_pos rfl, if_pos (by omega), Nat.add_sub_cancel_left]
  by_cases h2 : j = a + 2
  · subst h2; rw [if_neg (by omega), if_pos rfl, if_pos (by omega), Nat.add_sub_cancel_left]
  by_cases h3 : j = a + 3
  · subst h3; rw [if_pos rfl, if_pos (by omega), Nat.add_sub_cancel_left]; show x % 256 = x / 256 ^ 0 % 256; simp
  rw [if_neg h3, if_neg h2, if_neg h1, if_neg h0, if_neg (by omega)]
end Go.Proofs.YthmlcmlpmolmoaaGreatDoor
namespace Go.Proofs.YthmlcmlpmolmoaaGreatDoor
open Go.RowKit
structure GT (w : World) : Prop where
  k : ∀ i, i < 64 → w.cell? ⟨4, i, none⟩ = some (.int .u32 (kc i : Nat))
  h : ∀ i, i < 8 → w.cell? ⟨1, i, none⟩ = some (.int .u32 (at8 st0 i : Nat))
namespace GT
variable {w w' : World}
theorem ltk (h : GT w) : 4 < w.heap.size := block_lt (h.k 0 (by decide))
theorem lth (h : GT w) : 1 < w.heap.size := block_lt (h.h 0 (by decide))
theorem keep (h : GT w) (hb : Below w.heap.size w w') : GT w' := ⟨fun i hi => (hb.cell (p := ⟨_, i, none⟩) h.ltk).trans (h.k i hi), fun i hi => (hb.cell (p := ⟨_, i, none⟩) h.lth).trans (h.h i hi)⟩
theorem chg {K : Nat} (h : GT w) (hc : Chg K w w') (hK : 4 ≠ K ∧ 1 ≠ K) : GT w' := ⟨fun i hi => (hc.cell h.ltk hK.1).trans (h.k i hi), fun i hi => (hc.cell h.lth hK.2).trans (h.h i hi)⟩
theorem drewN (h : GT w) (n : Nat) : GT (w.drewN n) := ⟨h.k, h.h⟩
theorem alloc (h : GT w) (o : Obj) : GT (w.alloc o) := h.keep ((Below.refl _ _).alloc (Nat.le_refl _) o)
end GT
end Go.Proofs.YthmlcmlpmolmoaaGreatDoor
namespace Go.Proofs.YthmlcmlpmolmoaaGreatDoor
open Go.RowKit
theorem rowV_new {W : World} {c : Array Value} {t : TypeId} {n g : Nat} {f : Nat → Value} (hc : c = (valsL n f).toArray) (hg : g = W.heap.size) : RowV (W.alloc (.cells c t)) g t n f := by
  subst hg; exact rowV_made W c t n f hc
theorem sl_from (t : TypeId) (n g o l : Nat) (hu : Tryz.prog.underlying t = some (.array n 5)) (hl : l < n) (li : Int) (el : li = (l : Nat)) (w : World) :
    (Instr.sliceAt t (.pointer (some ⟨g, o, none⟩)) (some (.int .i64 li)) none none).run Tryz.prog w = .ok (.slice (some ⟨g, o + l, none⟩) (n - l) (n - l)) w := by
  subst el
  have he : Tryz.prog.elem t = 5 := by simp [Program.elem, hu]
  have hn : Tryz.prog.arrayLen t = n := by simp [Program.arrayLen, hu]
  rw [run_sliceAt_array_l (h0 := by omega) (h1 := by rw [hn]; omega) (ht := by rw [hn, he]; exact hu), he, sizeU8]
  show Result.ok (slicedAt ⟨g, o, none⟩ _ _ _ 1) w = _
  rw [hn, Int.toNat_natCast]
  unfold slicedAt
  rw [if_neg (by omega), Go.WideShapes.add_plain, Nat.mul_one]
def wz (b : Nat → Nat) (k j : Nat) : Nat := if j < k then be b (4 * j) else 0
theorem wz_step (b : Nat → Nat) (k j x : Nat) (hx : be b (4 * k) = x) : (if j = k then Value.int .u32 (x : Nat) else .int .u32 (wz b k j : Nat)) = .int .u32 (wz b (k + 1) j : Nat) := by
  subst hx
  unfold wz
  by_cases e : j = k
  · subst e; rw [if_pos rfl, if_pos (Nat.lt_succ_self _)]
  · rw [if_neg e]
    by_cases h : j < k
    · rw [if_pos h, if_pos (by omega)]
    · rw [if_neg h, if_neg (by omega)]
theorem wn_step (b : Nat → Nat) (n j x : Nat) (hx : x = (wn b n n + ls0 (wn b n (n + 1)) + wn b n (n + 9) + ls1 (wn b n (n + 14))) % 4294967296) : (if j = 16 + n then Value.int .u32 (x : Nat) else .int .u32 (wn b n j : Nat)) = .int .u32 (wn b (n + 1) j : Nat) := by
  subst hx
  rw [wn]
  by_cases e : j = 16 + n
  · rw [if_pos e, if_pos e]
  · rw [if_neg e, if_neg e]
theorem size64 : (Tryz.prog.info? 249).map (·.size) = some 64 := by kernel_rfl
theorem results_cellV {fn : Func} {p : Tmp} {ty : TypeId} (h : fn.results = #[.cell p ty]) (tmps : Array Value) (w : World) (b o n : Nat) (f : Nat → Value) (hp : tmps.getD p undef = .pointer (some ⟨b, o, none⟩)) (hc : ArrV w b o n f)
    (d : TypeDesc) (hu : Tryz.prog.underlying ty = some d) (hd : d.isRow = true) (hi : (Tryz.prog.info? ty).map (·.size) = some n) : (results fn tmps).run Tryz.prog w = .ok (.agg (valsL n f).toArray) w := by
  have hp' : tmps[p]?.getD undef = .pointer (some ⟨b, o, none⟩) := by simpa using hp
  have hl := run_loadVar_mid (P := Tryz.prog) w b o ty (valsL n f) d hc.range hu hd (by rw [valsL_length]; exact hi)
  simp [results, h, hp', asAddr, hl]
set_option maxRecDepth 100000 in
set_option maxHeartbeats 1600000 in
theorem stretch_any (g : Nat) (b : Nat → Nat) (w : World) (hb : By 64 b) (hB : Arr w g 8 64 b) :
    Calls Tryz.prog 199 #[.pointer (some ⟨g, 0, none⟩)] w fun e w' => e = .returned (.agg (valsL 64 fun j => .int .u32 (wn b 48 j : Nat)).toArray) ∧ Below w.heap.size w w' := by
  have HB := Lib.hid hB
  have HY := Lib.hid hb
  clear hB hb
  go_enter Tryz.func199, Tryz.ntmps199
  go_wp2_with fail
  go_loopw [10] (fun v wr => ∃ k : Nat, k ≤ 16 ∧ v = .int .i64 k ∧ RowV wr w.heap.size 249 64 (fun _ => .int .u32 0) ∧ RowV wr (w.heap.size + 1) 249 64 (fun j => .int .u32 (wz b k j : Nat)) ∧ Arr wr g 8 64 b ∧ Below w.heap.size w wr) (fun v _ => 16 - (intOf v).toNat)
  case atStart =>
    refine ⟨0, by decide, rfl, ?_, rowV_new rfl (by simp), (HB.out.alloc _).alloc _, ((Below.refl _ _).alloc (Nat.le_refl _) _).alloc (by simp) _⟩
    refine RowV.alloc ?_ _
    exact rowV_new rfl rfl
  case round =>
    obtain ⟨k, hk, rfl, h1, h2, h3, h4⟩ := hrel
    have H1 := Lib.hid h1
    have H2 := Lib.hid h2
    have H3 := Lib.hid h3
    have H4 := Lib.hid h4
    clear h1 h2 h3 h4
    by_cases hlt : k < 16
    · have hsl := sl_from 194 64 g 8 (4 * k) Tryz.underlying194 (by omega) ((k : Int) * 4) (by omega)
      have HS := Lib.hid (((H3.out.sub (a := 4 * k) (m := 64 - 4 * k) (by omega) rfl).slB (fun j hj => HY.out _ (by omega))))
      have hki : (k : Int) < 16 := by omega
      go_wp2_with fail
      refine (wordAt_any _ _ _ _ _ HS.out (by omega) (by omega)).mono ?_
      rintro e w2 ⟨rfl, n2, rfl⟩
      obtain ⟨x, hx⟩ : ∃ x, be b (4 * k) = x := ⟨_, rfl⟩
      have hx2 : be (fun j => b (4 * k + j)) 0 = x := hx
      rw [hx2]
      have HX := Lib.hid hx
      clear hx hx2
      have hc := (H2.out.drewN n2).cell (i := k) (by omega)
      have hf := (H2.out.drewN n2).frozen (i := k) (by omega)
      have HR := Lib.hid ((H2.out.drewN n2).set k (.int .u32 (x : Nat)))
      have HZ := Lib.hid ((H1.out.drewN n2).setOther (a := ⟨w.heap.size + 1, k, none⟩) (by simp) (.int .u32 (x : Nat)))
      have HW := Lib.hid ((drawn H4.out n2).setCell (p := ⟨w.heap.size + 1, k, none⟩) (Nat.le_succ _) (.int .u32 (x : Nat)))
      have HA := Lib.hid ((H3.out.drewN n2).setOther (a := ⟨w.heap.size + 1, k, none⟩) (by have := HB.out.lt (by decide); show g ≠ w.heap.size + 1; omega) (.int .u32 (x : Nat)))
      go_wp2_with fail
      go_roundw
      case rel => exact ⟨k + 1, by omega, by go_num, HZ.out, HR.out.congr fun j _ => wz_step b k j x HX.out, HA.out, HW.out⟩
      case measure => simp [intOf]; omega
    · obtain rfl : k = 16 := by omega
      have HR := Lib.hid (H2.out.congr (f := fun j => .int .u32 (wn b 0 j : Nat)) fun j _ => rfl)
      clear H2 hk hlt
      rw [show ((16 : Nat) : Int) = 16 from rfl]
      go_wp2_with fail
      generalize wr = wq at *
      go_loopw [5] (fun v wr => ∃ n : Nat, n ≤ 48 ∧ v = .int .i64 ((16 + n : Nat) : Int) ∧ RowV wr w.heap.size 249 64 (fun _ => .int .u32 0) ∧ RowV wr (w.heap.size + 1) 249 64 (fun j => .int .u32 (wn b n j : Nat)) ∧ Below w.heap.size w wr) (fun v _ => 64 - (intOf v).toNat)
      case atStart => exact ⟨0, Nat.zero_le _, rfl, H1.out, HR.out, H4.out⟩
      case round =>
        obtain ⟨n, hn, rfl, h1, h2, h3⟩ := hrel
        have G1 := Lib.hid h1
        have G2 := Lib.hid h2
        have G3 := Lib.hid h3
        clear h1 h2 h3 HR H1 H4
        by_cases hlt : n < 48
        · obtain ⟨t, ht⟩ : ∃ t, 16 + n = t := ⟨_, rfl⟩
          have ht1 : 16 ≤ t := by omega
          have ht2 : t < 64 := by omega
          have ci2 := G2.out.cell (i := t - 2) (by omega)
          have ci15 := G2.out.cell (i := t - 15) (by omega)
          have ci16 := G2.out.cell (i := t - 16) (by omega)
          have ci7 := G2.out.cell (i := t - 7) (by omega)
          have l2 := wn_lt HY.out n (t - 2)
          have l15 := wn_lt HY.out n (t - 15)
          have l16 := wn_lt HY.out n (t - 16)
          have l7 := wn_lt HY.out n (t - 7)
          have HE := Lib.hid (show (wn b n (t - 16) + ls0 (wn b n (t - 15)) + wn b n (t - 7) + ls1 (wn b n (t - 2))) % 4294967296 = (wn b n n + ls0 (wn b n (n + 1)) + wn b n (n + 9) + ls1 (wn b n (n + 14))) % 4294967296 by
            rw [show t - 16 = n by omega, show t - 15 = n + 1 by omega, show t - 7 = n + 9 by omega, show t - 2 = n + 14 by omega])
          have HN := Lib.hid ht
          have hf := G2.out.frozen (i := t) (by omega)
          have hc := G2.out.cell (i := t) (by omega)
          rw [ht]
          clear ht hn hlt
          generalize wn b n (t - 2) = x2 at *
          generalize wn b n (t - 15) = x15 at *
          generalize wn b n (t - 16) = x16 at *
          generalize wn b n (t - 7) = x7 at *
          go_wp2_with fail
          go_quiet (fail)
          have ci16 : (wr.drewN nq).cell? ⟨w.heap.size + 1, t - 16, none⟩ = some (.int .u32 (x16 : Nat)) := ci16
          have ci7 : (wr.drewN nq).cell? ⟨w.heap.size + 1, t - 7, none⟩ = some (.int .u32 (x7 : Nat)) := ci7
          have hc : (wr.drewN nq).cell? ⟨w.heap.size + 1, t, none⟩ = some (.int .u32 (wn b n t : Nat)) := hc
          have hf : (wr.drewN nq).frozen? ⟨w.heap.size + 1, t, none⟩ = false := hf
          have K1 := Lib.hid (G1.out.drewN nq)
          have K2 := Lib.hid (G2.out.drewN nq)
          have K3 := Lib.hid (drawn G3.out nq)
          clear G1 G2 G3
          generalize wr.drewN nq = w2 at *
          go_wp2_with fail
          refine (right_any 7 x15 _ l15 (by decide) (by decide)).mono ?_
          rintro e w3 ⟨rfl, rfl⟩
          go_wp2_with fail
          refine (right_any 18 x15 _ l15 (by decide) (by decide)).mono ?_
          rintro e w3 ⟨rfl, rfl⟩
          have hxa := u32_xor_nat _ _ (rr_lt (n := 7) l15) (rr_lt (n := 18) l15)
          have hxb : bits BinOp.xor .u32 ((rr 7 x15 ^^^ rr 18 x15 : Nat) : Int) ((x15 : Int) / 8) = ((ls0 x15 : Nat) : Int) := u32_xor_nat _ (x15 / 8) (xor32 (rr_lt l15) (rr_lt l15)) (by omega)
          have hl0 := ls0_lt l15
          generalize rr 7 x15 ^^^ rr 18 x15 = a1 at *
          generalize rr 7 x15 = a2 at *
          generalize rr 18 x15 = a3 at *
          generalize ls0 x15 = s0 at *
          go_wp2_with fail
          refine (right_any 17 x2 _ l2 (by decide) (by decide)).mono ?_
          rintro e w3 ⟨rfl, rfl⟩
          go_wp2_with fail
          refine (right_any 19 x2 _ l2 (by decide) (by decide)).mono ?_
          rintro e w3 ⟨rfl, rfl⟩
          have hxc := u32_xor_nat _ _ (rr_lt (n := 17) l2) (rr_lt (n := 19) l2)
          have hxd : bits BinOp.xor .u32 ((rr 17 x2 ^^^ rr 19 x2 : Nat) : Int) ((x2 : Int) / 1024) = ((ls1 x2 : Nat) : Int) := u32_xor_nat _ (x2 / 1024) (xor32 (rr_lt l2) (rr_lt l2)) (by omega)
          have hl1 := ls1_lt l2
          generalize rr 17 x2 ^^^ rr 19 x2 = a4 at *
          generalize rr 17 x2 = a5 at *
          generalize rr 19 x2 = a6 at *
          generalize ls1 x2 = s1 at *
          go_wp2_with fail
          go_region
          have hval : ((x16 : Int) + (s0 : Int) + (x7 : Int) + (s1 : Int)) % 4294967296 = (((x16 + s0 + x7 + s1) % 4294967296 : Nat) : Int) := by omega
          rw [hval]
          have R2 := Lib.hid ((K2.out.set t (.int .u32 ((x16 + s0 + x7 + s1) % 4294967296 : Nat))).drew)
          have R1 := Lib.hid ((K1.out.setOther (a := ⟨w.heap.size + 1, t, none⟩) (by simp) (.int .u32 ((x16 + s0 + x7 + s1) % 4294967296 : Nat))).drew)
          have R3 := Lib.hid (drawn (K3.out.setCell (p := ⟨w.heap.size + 1, t, none⟩) (Nat.le_succ _) (.int .u32 ((x16 + s0 + x7 + s1) % 4294967296 : Nat))) 1)
          have R3' := Lib.hid (show Below w.heap.size w (w2.setCell ⟨w.heap.size + 1, t, none⟩ (.int .u32 ((x16 + s0 + x7 + s1) % 4294967296 : Nat))).drew from R3.out)
          clear R3
          generalize (w2.setCell ⟨w.heap.size + 1, t, none⟩ (.int .u32 ((x16 + s0 + x7 + s1) % 4294967296 : Nat))).drew = w3 at *
          go_wp2_with fail
          go_roundw
          case rel => exact ⟨n + 1, by have := HN.out; omega, by rw [← HN.out]; go_num, R1.out, R2.out.congr fun j _ => by
              rw [← HN.out]
              exact wn_step b n j _ HE.out, R3'.out⟩
          case measure => have := HN.out; simp [intOf]; omega
        · obtain rfl : n = 48 := by omega
          have HL := Lib.hid G2.out.arr.range
          have HL1 := Lib.hid G1.out.arr
          clear hn hlt G1 G2
          go_wp2_with (first | (refine wpList_load_mid rfl 249 (.tmp 3) rfl (w.heap.size + 1) 0 rfl _ _ HL.out Tryz.underlying249 rfl (by rw [valsL_length]; exact size64) ?_) |
            (refine wpList_store_mid rfl 249 (.tmp 2) (.tmp 66) rfl w.heap.size 0 (valsL 64 fun j => Value.int .u32 (wn b 48 j : Nat)).toArray rfl rfl (HL1.out.there' _) (by rw [List.size_toArray, valsL_length]; exact size64) (all_oneCell_toArray (vals_one fun _ _ => rfl)) ?_))
          have HR := Lib.hid (HL1.out.setCells (fun j => Value.int .u32 (wn b 48 j : Nat)))
          have HC := Lib.hid (setCells_below w wr w.heap.size w.heap.size (Nat.le_refl _) (valsL 64 fun j => Value.int .u32 (wn b 48 j : Nat)) 0 G3.out)
          refine bodyPost_ret (results_cellV rfl _ _ w.heap.size 0 64 _ rfl HR.out _ Tryz.underlying249 rfl size64) rfl ⟨rfl, HC.out⟩
end Go.Proofs.YthmlcmlpmolmoaaGreatDoor
namespace Go.Proofs.YthmlcmlpmolmoaaGreatDoor
open Go.RowKit
theorem xor_max (e : Nat) (he : e < 4294967296) : 4294967295 ^^^ e = 4294967295 - e := by
  apply Nat.eq_of_testBit_eq
  intro i
  rw [Nat.testBit_xor, not_bit e i he, show (4294967295 : Nat) = 2 ^ 32 - 1 from rfl, Nat.testBit_two_pow_sub_one]
  by_cases h : i < 32
  · simp [h]
  · have h32 : 2 ^ 32 ≤ 2 ^ i := Nat.pow_le_pow_right (by decide) (by omega)
    have : e.testBit i = false := Nat.testBit_lt_two_pow (Nat.lt_of_lt_of_le he h32)
    simp [h, this]
theorem sizeU32 (w : World) : (sizeOf 75).run Tryz.prog w = .ok 1 w := by
  have h : (Tryz.prog.info? 75).map (·.size) = some 1 := by kernel_rfl
  cases hq : Tryz.prog.info? 75 with
  | none => rw [hq] at h; cases h
  | some i =>
    rw [hq] at h
    have hs : i.size = 1 := by simpa using h
    simp [sizeOf, typeInfo, hq, hs]
theorem index_vals (t : TypeId) (n : Nat) (f : Nat → Value) (k : Nat) (hu : Tryz.prog.underlying t = some (.array n 75)) (hk : k < n) (w : World) :
    (Instr.index t (.agg (valsL n f).toArray) (.int .i64 (k : Nat))).run Tryz.prog w = .ok (f k) w := by
  have hz := sizeU32 w
  unfold Instr.index
  simp [asIntOf, Sem.run_bind, run_underlying hu w, hz, part]
  rw [if_pos hk, valsL_at hk]
  rfl
theorem wpList_storeV {ops : Array Oper} {rest : List Oper} {op : Oper} {a : Act} {w : World} {Q : Exit → Act → World → Prop} (hgd : op.guard = none) (ty : TypeId) (x y : Operand) (ho : op.op = .store ty x y)
    (b o n : Nat) (f cur : Nat → Value) (hx : a.eval x = .pointer (some ⟨b, o, none⟩)) (hy : a.eval y = .agg (valsL n f).toArray) (hc : ArrV w b o n cur) (h1 : ∀ j, j < n → (f j).oneCell' = true) (hi : (Tryz.prog.info? ty).map (·.size) = some n)
    (h : ∀ w', ArrV w' b o n f → Chg b w w' → wpList Tryz.prog ops Q rest (a.put op.dst undef) w') : wpList Tryz.prog ops Q (op :: rest) a w := by
  refine wpList_store_mid hgd ty x y ho b o (valsL n f).toArray hx hy (hc.there' f) (by rw [List.size_toArray, valsL_length]; exact hi) (all_oneCell_toArray (vals_one h1)) ?_
  rw [List.toList_toArray]
  exact h _ (hc.setCells f) (Chg.setCells b (Or.inl rfl) _ _ w (Chg.refl _ _))
abbrev z64 : Array Value := #[.int .u32 0, .int .u32 0, .int .u32 0, .int .u32 0, .int .u32 0, .int .u32 0, .int .u32 0, .int .u32 0, .int .u32 0, .int .u32 0, .int .u32 0, .int .u32 0, .int .u32 0, .int .u32 0, .int .u32 0, .int .u32 0, .int .u32 0, .int .u32 0, .int .u32 0, .int .u32 0, .int .u32 0, .int .u32 0, .int .u32 0, .int .u32 0, .int .u32 0, .int .u32 0, .int .u32 0, .int .u32 0, .int .u32 0, .int .u32 0, .int .u32 0, .int .u32 0, .int .u32 0, .int .u32 0, .int .u32 0, .int .u32 0, .int .u32 0, .int .u32 0, .int .u32 0, .int .u32 0, .int .u32 0, .int .u32 0, .int .u32 0, .int .u32 0, .int .u32 0, .int .u32 0, .int .u32 0, .int .u32 0, .int .u32 0, .int .u32 0, .int .u32 0, .int .u32 0, .int .u32 0, .int .u32 0, .int .u32 0, .int .u32 0, .int .u32 0, .int .u32 0, .int .u32 0, .int .u32 0, .int .u32 0, .int .u32 0, .int .u32 0, .int .u32 0]
def hv (s : S8) (b : Nat → Nat) (n : Nat) (j : Nat) : Value := if j < 8 then .int .u32 (at8 s j : Nat) else if j < 72 then .int .u8 (b (j - 8) : Nat) else .int .i64 (n : Nat)
theorem hv_state (s : S8) (b : Nat → Nat) (n j : Nat) (hj : j < 8) : hv s b n j = .int .u32 (at8 s j : Nat) := if_pos hj
theorem hv_block (s : S8) (b : Nat → Nat) (n j : Nat) (hj : j < 64) : hv s b n (8 + j) = .int .u8 (b j : Nat) := by
  unfold hv; rw [if_neg (by omega), if_pos (by omega), Nat.add_sub_cancel_left]
theorem hv_arr {w : World} {g : Nat} {t : TypeId} {s : S8} {b : Nat → Nat} {n : Nat} (h : RowV w g t 73 (hv s b n)) : Arr w g 8 64 b := fun j hj => by
  have := h.arr (8 + j) (by omega)
  rw [Nat.zero_add, hv_block _ _ _ _ hj] at this
  exact this
theorem arrV_zero (w : World) : ArrV (w.alloc (.cells z64 249)) w.heap.size 0 64 (fun _ => .int .u32 0) := arrV_made w _ _ 64 _ rfl
def hvp (s t : S8) (b : Nat → Nat) (n k : Nat) (j : Nat) : Value := if j < k then .int .u32 (at8 (add8 s t) j : Nat) else hv s b n j
theorem hvp_step (s t : S8) (b : Nat → Nat) (n k j : Nat) : (if j = k then Value.int .u32 (at8 (add8 s t) k : Nat) else hvp s t b n k j) = hvp s t b n (k + 1) j := by
  unfold hvp
  by_cases e : j = k
  · subst e; rw [if_pos rfl, if_pos (Nat.lt_succ_self _)]
  · rw [if_neg e]
    by_cases h : j < k
    · rw [if_pos h, if_pos (by omega)]
    · rw [if_neg h, if_neg (by omega)]
theorem hvp_all (s t : S8) (b : Nat → Nat) (n j : Nat) : hvp s t b n 8 j = hv (add8 s t) b n j := by
  unfold hvp
  by_cases h : j < 8
  · rw [if_pos h, hv_state _ _ _ _ h]
  · rw [if_neg h]; unfold hv; rw [if_neg h, if_neg h]
theorem eight_lit (T : S8) : (Value.agg #[.int .u32 (T.a : Nat), .int .u32 (T.b : Nat), .int .u32 (T.c : Nat), .int .u32 (T.d : Nat), .int .u32 (T.e : Nat), .int .u32 (T.f : Nat), .int .u32 (T.g : Nat), .int .u32 (T.h : Nat)]) = .agg (valsL 8 fun j => .int .u32 (at8 T j : Nat)).toArray := rfl
theorem index_eight (T : S8) (k : Nat) (hk : k < 8) (w : World) : (Instr.index 221 (.agg #[.int .u32 (T.a : Nat), .int .u32 (T.b : Nat), .int .u32 (T.c : Nat), .int .u32 (T.d : Nat), .int .u32 (T.e : Nat), .int .u32 (T.f : Nat), .int .u32 (T.g : Nat), .int .u32 (T.h : Nat)]) (.int .i64 (k : Nat))).run Tryz.prog w = .ok (.int .u32 (at8 T k : Nat)) w := by
  rw [eight_lit]
  exact index_vals 221 8 (fun j => .int .u32 (at8 T j : Nat)) k Tryz.underlying221 hk w
set_option maxRecDepth 100000 in
set_option maxHeartbeats 1600000 in
theorem sadd_any (g n : Nat) (s : S8) (b : Nat → Nat) (w : World) (hs : s.ok) (hb : By 64 b) (hr : RowV w g 223 73 (hv s b n)) (ht : GT w) (hg : 4 ≠ g ∧ 1 ≠ g) :
    Calls Tryz.prog 165 #[.pointer (some ⟨g, 0, none⟩)] w fun e w' => e = .returned (.tuple #[]) ∧ (RowV w' g 223 73 (hv (comp s b) b n) ∧ Chg g w w') := by
  have HR := Lib.hid hr
  have HY := Lib.hid hb
  have HT := Lib.hid ht
  have HG := Lib.hid hg
  have HS := Lib.hid hs
  clear hr hb ht hg hs
  go_enter Tryz.func165, Tryz.ntmps165
  go_wp2_with fail
  refine (stretch_any g b w HY.out (hv_arr HR.out)).mono ?_
  rintro e w1 ⟨rfl, h1⟩
  have HR1 := Lib.hid (HR.out.keep h1)
  have HT1 := Lib.hid (HT.out.keep h1)
  have HC1 := Lib.hid (Chg.of_below (K := g) h1)
  have HWL := Lib.hid (fun j (hj : j < 64) => wn_lt HY.out 48 j)
  clear h1
  obtain ⟨V, hV⟩ : ∃ V, (Value.agg (valsL 64 fun j => .int .u32 (wn b 48 j : Nat)).toArray) = V := ⟨_, rfl⟩
  rw [hV]
  have HV := Lib.hid hV
  clear hV
  have HA1 := Lib.hid (arrV_zero w1)
  go_wp2_with (refine wpList_storeV rfl 249 (.tmp 2) (.tmp 18) rfl w1.heap.size 0 64 _ _ rfl HV.out.symm HA1.out (fun _ _ => rfl) size64 ?_; intro w2 h1 h2; have HA2 := Lib.hid h1; have HC2 := Lib.hid h2; clear h1 h2)
  have hne : g ≠ w1.heap.size := Nat.ne_of_lt HR1.out.lt
  have HR2 := Lib.hid ((HR1.out.alloc (.cells z64 249)).chg HC2.out hne)
  have HT2 := Lib.hid ((HT1.out.alloc (.cells z64 249)).chg HC2.out ⟨Nat.ne_of_lt HT1.out.ltk, Nat.ne_of_lt HT1.out.lth⟩)
  have HC3 := Lib.hid ((HC1.out.alloc (.cells z64 249)).thenNew HC2.out HC1.out.size)
  have HRG := Lib.hid HA2.out.range
  have HN := Lib.hid hne
  clear HC2 HC1 HT1 HR1 HA1 HA2 HT HR hne
  generalize w1.heap.size = L at *
  clear w1
  have c0 : w2.cell? ⟨g, 0, none⟩ = some (.int .u32 (s.a : Nat)) := HR2.out.cell (i := 0) (by decide)
  have c1 : w2.cell? ⟨g, 1, none⟩ = some (.int .u32 (s.b : Nat)) := HR2.out.cell (i := 1) (by decide)
  have c2 : w2.cell? ⟨g, 2, none⟩ = some (.int .u32 (s.c : Nat)) := HR2.out.cell (i := 2) (by decide)
  have c3 : w2.cell? ⟨g, 3, none⟩ = some (.int .u32 (s.d : Nat)) := HR2.out.cell (i := 3) (by decide)
  go_quiet (fail)
  have HR3 := Lib.hid (HR2.out.drewN nq)
  have HT3 := Lib.hid (HT2.out.drewN nq)
  have HC4 := Lib.hid (HC3.out.drewN nq)
  have HRG3 := Lib.hid (show (w2.drewN nq).rangeAt L 0 _ from HRG.out)
  clear HR2 HT2 HC3 HRG c0 c1 c2 c3
  generalize w2.drewN nq = w3 at *
  have c0 : w3.cell? ⟨g, 4, none⟩ = some (.int .u32 (s.e : Nat)) := HR3.out.cell (i := 4) (by decide)
  have c1 : w3.cell? ⟨g, 5, none⟩ = some (.int .u32 (s.f : Nat)) := HR3.out.cell (i := 5) (by decide)
  have c2 : w3.cell? ⟨g, 6, none⟩ = some (.int .u32 (s.g : Nat)) := HR3.out.cell (i := 6) (by decide)
  have c3 : w3.cell? ⟨g, 7, none⟩ = some (.int .u32 (s.h : Nat)) := HR3.out.cell (i := 7) (by decide)
  go_wp2_with fail
  go_quiet (fail)
  have HR4 := Lib.hid (HR3.out.drewN nq)
  have HT4 := Lib.hid (HT3.out.drewN nq)
  have HC5 := Lib.hid (HC4.out.drewN nq)
  have HRG4 := Lib.hid (show (w3.drewN nq).rangeAt L 0 _ from HRG3.out)
  clear HR3 HT3 HC4 HRG3 c0 c1 c2 c3
  generalize w3.drewN nq = w4 at *
  go_wp2_with ((refine wpList_load_mid rfl 249 (.tmp 2) rfl L 0 rfl _ _ HRG4.out Tryz.underlying249 rfl (by rw [valsL_length]; exact size64) ?_); rw [HV.out])
  go_loopw [3, 4, 5, 6, 7, 8, 9, 10, 60] (fun va vb vc vd ve vf vg vh v wr => ∃ k : Nat, k ≤ 64 ∧ v = .int .i64 k ∧ va = .int .u32 ((rs (wn b 48) s k).a : Nat) ∧ vb = .int .u32 ((rs (wn b 48) s k).b : Nat) ∧ vc = .int .u32 ((rs (wn b 48) s k).c : Nat) ∧ vd = .int .u32 ((rs (wn b 48) s k).d : Nat) ∧
    ve = .int .u32 ((rs (wn b 48) s k).e : Nat) ∧ vf = .int .u32 ((rs (wn b 48) s k).f : Nat) ∧ vg = .int .u32 ((rs (wn b 48) s k).g : Nat) ∧ vh = .int .u32 ((rs (wn b 48) s k).h : Nat) ∧
    RowV wr g 223 73 (hv s b n) ∧ GT wr ∧ Chg g w wr) (fun _ _ _ _ _ _ _ _ v _ => 64 - (intOf v).toNat)
  case atStart => exact ⟨0, Nat.zero_le _, rfl, rfl, rfl, rfl, rfl, rfl, rfl, rfl, rfl, HR4.out, HT4.out, HC5.out⟩
  case round =>
    obtain ⟨k, hk, rfl, rfl, rfl, rfl, rfl, rfl, rfl, rfl, rfl, h1, h2, h3⟩ := hrel
    have H1 := Lib.hid h1
    have H2 := Lib.hid h2
    have H3 := Lib.hid h3
    clear h1 h2 h3 HR4 HT4 HC5 HRG4
    by_cases hlt : k < 64
    · have hsok := rs_ok (W := wn b 48) HS.out k
      have HXa := Lib.hid (show (rs (wn b 48) s (k + 1)).a = (((rs (wn b 48) s k).h + bs1 (rs (wn b 48) s k).e + chn (rs (wn b 48) s k).e (rs (wn b 48) s k).f (rs (wn b 48) s k).g + kc k + wn b 48 k) + (bs0 (rs (wn b 48) s k).a + maj (rs (wn b 48) s k).a (rs (wn b 48) s k).b (rs (wn b 48) s k).c)) % 4294967296 from rfl)
      have HXb := Lib.hid (show (rs (wn b 48) s (k + 1)).b = (rs (wn b 48) s k).a from rfl)
      have HXc := Lib.hid (show (rs (wn b 48) s (k + 1)).c = (rs (wn b 48) s k).b from rfl)
      have HXd := Lib.hid (show (rs (wn b 48) s (k + 1)).d = (rs (wn b 48) s k).c from rfl)
      have HXe := Lib.hid (show (rs (wn b 48) s (k + 1)).e = ((rs (wn b 48) s k).d + ((rs (wn b 48) s k).h + bs1 (rs (wn b 48) s k).e + chn (rs (wn b 48) s k).e (rs (wn b 48) s k).f (rs (wn b 48) s k).g + kc k + wn b 48 k)) % 4294967296 from rfl)
      have HXf := Lib.hid (show (rs (wn b 48) s (k + 1)).f = (rs (wn b 48) s k).e from rfl)
      have HXg := Lib.hid (show (rs (wn b 48) s (k + 1)).g = (rs (wn b 48) s k).f from rfl)
      have HXh := Lib.hid (show (rs (wn b 48) s (k + 1)).h = (rs (wn b 48) s k).g from rfl)
      have la := hsok.a
      have lb := hsok.b
      have lc' := hsok.c
      have ld := hsok.d
      have le := hsok.e
      have lf := hsok.f
      have lg := hsok.g
      have lh := hsok.h
      have lk := kc_lt k
      have lw := HWL.out k hlt
      have ck := H2.out.k k hlt
      have hix := index_vals 249 64 (fun j => .int .u32 (wn b 48 j : Nat)) k Tryz.underlying249 hlt
      rw [HV.out] at hix
      clear hsok
      generalize (rs (wn b 48) s k).a = xa at *
      generalize (rs (wn b 48) s k).b = xb at *
      generalize (rs (wn b 48) s k).c = xc at *
      generalize (rs (wn b 48) s k).d = xd at *
      generalize (rs (wn b 48) s k).e = xe at *
      generalize (rs (wn b 48) s k).f = xf at *
      generalize (rs (wn b 48) s k).g = xg at *
      generalize (rs (wn b 48) s k).h = xh at *
      generalize kc k = xk at *
      generalize wn b 48 k = xw at *
      have HTE := Lib.hid fun w => turn_any 6 11 25 xe w le (by decide) (by decide) (by decide) (by decide) (by decide) (by decide)
      have HTA := Lib.hid fun w => turn_any 2 13 22 xa w la (by decide) (by decide) (by decide) (by decide) (by decide) (by decide)
      rw [show (rr 6 xe ^^^ rr 11 xe) ^^^ rr 25 xe = bs1 xe from rfl] at HTE
      rw [show (rr 2 xa ^^^ rr 13 xa) ^^^ rr 22 xa = bs0 xa from rfl] at HTA
      have ls1 := bs1_lt le
      have ls0 := bs0_lt la
      have p1 := u32_and_nat xe xf le lf
      have p2 : bits BinOp.xor .u32 IntKind.u32.max (xe : Int) = ((4294967295 - xe : Nat) : Int) := (u32_xor_nat 4294967295 xe (by decide) le).trans (by rw [xor_max xe le])
      have hsg : IntKind.u32.signed = false := rfl
      have ln : 4294967295 - xe < 4294967296 := by omega
      have p3 := u32_and_nat (4294967295 - xe) xg ln lg
      have p4 : bits BinOp.xor .u32 ((xe &&& xf : Nat) : Int) ((4294967295 - xe &&& xg : Nat) : Int) = ((chn xe xf xg : Nat) : Int) := u32_xor_nat _ _ (and32' lf) (and32' lg)
      have lc := chn_lt (e := xe) lf lg
      have q1 := u32_and_nat xa xb la lb
      have q2 := u32_and_nat xa xc la lc'
      have q3 := u32_xor_nat _ _ (and32 (b := xb) la) (and32 (b := xc) la)
      have q4 := u32_and_nat xb xc lb lc'
      have q5 : bits BinOp.xor .u32 (((xa &&& xb) ^^^ (xa &&& xc) : Nat) : Int) ((xb &&& xc : Nat) : Int) = ((maj xa xb xc : Nat) : Int) := u32_xor_nat _ _ (xor32 (and32 la) (and32 la)) (and32 lb)
      have lm := maj_lt (c := xc) la lb
      generalize bs1 xe = s1 at *
      generalize bs0 xa = s0 at *
      generalize chn xe xf xg = cc at *
      generalize maj xa xb xc = mm at *
      generalize (xa &&& xb) ^^^ (xa &&& xc) = v1 at *
      generalize xe &&& xf = v2 at *
      generalize 4294967295 - xe &&& xg = v3 at *
      generalize 4294967295 - xe = v4 at *
      generalize xa &&& xb = v5 at *
      generalize xa &&& xc = v6 at *
      generalize xb &&& xc = v7 at *
      go_wp2_with fail
      go_quiet ((go_at_call 200; exact Calls.quiet_of_same (same_flip (HTE.out _))))
      obtain ⟨X, hX⟩ : ∃ X : Nat, (xh + s1 + cc + xk + xw) % 4294967296 = X := ⟨_, rfl⟩
      have hXi : (((xh : Int) + (s1 : Int) + (cc : Int) + (xk : Int)) % 4294967296 + (xw : Int)) % 4294967296 = (X : Int) := by omega
      have lX : X < 4294967296 := by omega
      rw [hXi]
      have HX := Lib.hid hX
      have K1 := Lib.hid (H1.out.drewN nq)
      have K2 := Lib.hid (H2.out.drewN nq)
      have K3 := Lib.hid (H3.out.drewN nq)
      clear hX hXi p1 p2 p3 p4 ck hix H1 H2 H3
      generalize wr.drewN nq = w5 at *
      go_wp2_with fail
      refine (HTA.out _).mono ?_
      rintro e w6 ⟨rfl, rfl⟩
      go_wp2_with fail
      go_roundw
      case rel => exact ⟨k + 1, by omega, by go_num, by
        rw [HXa.out]; exact congrArg _ (by have := HX.out; omega), by rw [HXb.out], by rw [HXc.out], by rw [HXd.out], by
        rw [HXe.out]; exact congrArg _ (by have := HX.out; omega), by rw [HXf.out], by rw [HXg.out], by rw [HXh.out], K1.out, K2.out, K3.out⟩
      case measure => simp [intOf]; omega
    · obtain rfl : k = 64 := by omega
      have HE := Lib.hid (show comp s b = add8 s (rs (wn b 48) s 64) from rfl)
      have TOK := Lib.hid (rs_ok (W := wn b 48) HS.out 64)
      generalize rs (wn b 48) s 64 = T at *
      have HR5 := Lib.hid (H1.out.congr (f := hvp s T b n 0) fun j _ => (if_neg (Nat.not_lt_zero j)).symm)
      clear H1 H2
      rw [show ((64 : Nat) : Int) = 64 from rfl]
      go_wp2_with fail
      go_loopw [119] (fun v wx => ∃ k : Nat, k ≤ 8 ∧ v = .int .i64 k ∧ RowV wx g 223 73 (hvp s T b n k) ∧ Chg g w wx) (fun v _ => 8 - (intOf v).toNat)
      case atStart => exact ⟨0, Nat.zero_le _, rfl, HR5.out, H3.out⟩
      case round =>
        obtain ⟨k, hk, rfl, h1, h2⟩ := hrel
        have H1 := Lib.hid h1
        have H2 := Lib.hid h2
        clear h1 h2 HR5 H3
        by_cases hlt : k < 8
        · have hix := index_eight T k hlt
          have hc := H1.out.cell (i := k) (by omega)
          have hf := H1.out.frozen (i := k) (by omega)
          rw [show hvp s T b n k k = .int .u32 (at8 s k : Nat) by unfold hvp; rw [if_neg (Nat.lt_irrefl k), hv_state _ _ _ _ hlt]] at hc
          have l1 := at8_lt HS.out k
          have l2 := at8_lt TOK.out k
          have HA := Lib.hid (at8_add s T k hlt)
          generalize at8 s k = y1 at *
          generalize at8 T k = y2 at *
          go_wp2_with fail
          go_region
          have hval : ((y1 : Int) + (y2 : Int)) % 4294967296 = (((y1 + y2) % 4294967296 : Nat) : Int) := by omega
          rw [hval, ← HA.out]
          have K1 := Lib.hid ((H1.out.set k (.int .u32 (at8 (add8 s T) k : Nat))).drew)
          have K2 := Lib.hid ((H2.out.setCell (a := ⟨g, k, none⟩) (Or.inl rfl) (.int .u32 (at8 (add8 s T) k : Nat))).drew)
          clear hval hc hf
          generalize (wr.setCell ⟨g, k, none⟩ (.int .u32 (at8 (add8 s T) k : Nat))).drew = w6 at *
          go_wp2_with fail
          go_roundw
          case rel => exact ⟨k + 1, by omega, by go_num, K1.out.congr fun j _ => hvp_step s T b n k j, K2.out⟩
          case measure => simp [intOf]; omega
        · obtain rfl : k = 8 := by omega
          go_wp2_with fail
          go_end0
          refine ⟨rfl, ?_, H2.out⟩
          rw [HE.out]
          exact H1.out.congr fun j _ => hvp_all s T b n j
end Go.Proofs.YthmlcmlpmolmoaaGreatDoor
namespace Go.Proofs.YthmlcmlpmolmoaaGreatDoor
open Go.RowKit
def HM (w : World) (g n : Nat) (f : Nat → Nat) : Prop := ∃ b, RowV w g 223 73 (hv (hs f (n / 64)) b n) ∧ ∀ j, j < n % 64 → b j = f (64 * (n / 64) + j)
namespace HM
variable {w w' : World} {g n : Nat} {f f' : Nat → Nat}
theorem lt (h : HM w g n f) : g < w.heap.size := by obtain ⟨b, h, _⟩ := h; exact h.lt
theorem of_block (h : HM w g n f) (e : w'.heap[g]? = w.heap[g]?) : HM w' g n f := by obtain ⟨b, h, r⟩ := h; exact ⟨b, h.of_block e, r⟩
theorem keep (h : HM w g n f) (hb : Below w.heap.size w w') : HM w' g n f := h.of_block (hb.block g h.lt)
theorem chg {K : Nat} (h : HM w g n f) (hc : Chg K w w') (hK : g ≠ K) : HM w' g n f := h.of_block (hc.block g h.lt hK)
theorem drewN (h : HM w g n f) (k : Nat) : HM (w.drewN k) g n f := h
theorem alloc (h : HM w g n f) (o : Obj) : HM (w.alloc o) g n f := h.keep ((Below.refl _ _).alloc (Nat.le_refl _) o)
theorem congr (h : HM w g n f) (e : ∀ j, j < n → f j = f' j) : HM w g n f' := by
  obtain ⟨b, h, r⟩ := h
  refine ⟨b, ?_, fun j hj => by rw [r j hj, e _ (by omega)]⟩
  rw [← hs_congr (f := f) (g := f') (n / 64) fun j hj => e j (by omega)]
  exact h
theorem count (h : HM w g n f) : w.cell? ⟨g, 72, none⟩ = some (.int .i64 (n : Nat)) := by obtain ⟨b, h, _⟩ := h; exact h.cell (i := 72) (by decide)
end HM
def offs (n0 : Nat) (n : Nat → Nat) : Nat → Nat
  | 0 => n0
  | i + 1 => offs n0 n i + n i
theorem offs_le (n0 : Nat) (n : Nat → Nat) (i : Nat) : ∀ d, offs n0 n i ≤ offs n0 n (i + d)
  | 0 => Nat.le_refl _
  | d + 1 => Nat.le_trans (offs_le n0 n i d) (by show _ ≤ offs n0 n (i + d) + n (i + d); omega)
structure Parts (w : World) (g k : Nat) (A : Nat → Option Addr) (n c : Nat → Nat) (f : Nat → Nat → Nat) : Prop where
  cells : ∀ j, j < k → w.cell? ⟨g, j, none⟩ = some (.slice (A j) (n j) (c j))
  rows : ∀ j, j < k → SlB w (A j) (n j) (f j)
theorem SlB.chg {w w' : World} {A : Option Addr} {n K : Nat} {bs : Nat → Nat} (h : SlB w A n bs) (hc : Chg K w w') (hK : 0 < n → ∀ B o, A = some ⟨B, o, none⟩ → B ≠ K) : SlB w' A n bs := fun hn => by
  obtain ⟨B, o, hA, hB, h⟩ := h hn
  exact ⟨B, o, hA, Nat.lt_of_lt_of_le hB hc.size, fun j hj => ⟨(h j hj).1, (hc.cell hB (hK hn B o hA)).trans (h j hj).2⟩⟩
theorem Parts.chg {w w' : World} {g k K : Nat} {A : Nat → Option Addr} {n c : Nat → Nat} {f : Nat → Nat → Nat} (h : Parts w g k A n c f) (hc : Chg K w w') (hg : g ≠ K) (hK : ∀ i, i < k → 0 < n i → ∀ B o, A i = some ⟨B, o, none⟩ → B ≠ K) : Parts w' g k A n c f :=
  ⟨fun j hj => (hc.cell (block_lt (a := ⟨g, 0, none⟩) (h.cells 0 (by omega))) hg).trans (h.cells j hj), fun j hj => (h.rows j hj).chg hc (hK j hj)⟩
theorem Parts.drewN {w : World} {g k : Nat} {A : Nat → Option Addr} {n c : Nat → Nat} {f : Nat → Nat → Nat} (h : Parts w g k A n c f) (m : Nat) : Parts (w.drewN m) g k A n c f := ⟨h.cells, h.rows⟩
def putH (q k : Nat) (f b : Nat → Nat) (j : Nat) : Nat := if q ≤ j ∧ j < q + k then f (j - q) else b j
theorem putV_hv (s : S8) (b f : Nat → Nat) (n q k j : Nat) (hq : q + k ≤ 64) : putV (8 + q) k (fun j => .int .u8 (f j : Nat)) (hv s b n) j = hv s (putH q k f b) n j := by
  unfold putV hv putH
  by_cases h8 : j < 8
  · rw [if_neg (by omega), if_pos h8, if_pos h8]
  · by_cases h72 : j < 72
    · rw [if_neg h8, if_neg h8, if_pos h72, if_pos h72]
      by_cases h : 8 + q ≤ j ∧ j < 8 + q + k
      · rw [if_pos h, if_pos (by omega), show j - (8 + q) = j - 8 - q by omega]
      · rw [if_neg h, if_neg (by omega)]
    · rw [if_neg h8, if_neg h8, if_neg h72, if_neg h72, if_neg (by omega)]
theorem set_hv (s : S8) (b : Nat → Nat) (n m j : Nat) (hj : j < 73) : (if j = 72 then Value.int .i64 (m : Nat) else hv s b n j) = hv s b m j := by
  unfold hv
  by_cases h : j = 72
  · subst h; rfl
  · rw [if_neg h]
    by_cases h8 : j < 8
    · rw [if_pos h8, if_pos h8]
    · rw [if_neg h8, if_neg h8, if_pos (by omega), if_pos (by omega)]
theorem hiA_block {w : World} {A : Option Addr} {n c k : Nat} {f : Nat → Nat} (h : SlB w A n f) (hn : 0 < n) {B o : Nat} (e : hiA A c k = some ⟨B, o, none⟩) : ∃ o', A = some ⟨B, o', none⟩ := by
  obtain ⟨B0, o0, rfl, _, _⟩ := h hn
  unfold hiA at e
  split at e
  · exact ⟨_, e⟩
  · rw [Option.map_some, Go.WideShapes.add_plain] at e
    injection e with e
    injection e with e1 _ _
    exact ⟨o0, by rw [e1]⟩
theorem hB5' {g : Nat} {w w' : World} (h : Chg g w.drew w') : Chg g w w' := ⟨h.os, h.tape, h.output, h.size, h.block⟩
theorem hm_part {w : World} {g N k : Nat} {F b f : Nat → Nat} (hr : RowV w g 223 73 (hv (hs F (N / 64)) (putH (N % 64) k f b) (N + k))) (hb : ∀ j, j < N % 64 → b j = F (64 * (N / 64) + j)) (hf : ∀ j, j < k → F (N + j) = f j) (hk : N % 64 + k < 64) : HM w g (N + k) F := by
  refine ⟨putH (N % 64) k f b, ?_, fun j hj => ?_⟩
  · rw [show (N + k) / 64 = N / 64 by omega]; exact hr
  · rw [show (N + k) / 64 = N / 64 by omega]
    unfold putH
    by_cases h : N % 64 ≤ j ∧ j < N % 64 + k
    · rw [if_pos h, ← hf _ (by omega), show N + (j - N % 64) = 64 * (N / 64) + j by omega]
    · rw [if_neg h]; exact hb j (by omega)
theorem full_block {N k : Nat} {F b f : Nat → Nat} (hb : ∀ j, j < N % 64 → b j = F (64 * (N / 64) + j)) (hf : ∀ j, j < k → F (N + j) = f j) (hk : N % 64 + k = 64) (j : Nat) (hj : j < 64) : putH (N % 64) k f b j = F (64 * (N / 64) + j) := by
  unfold putH
  by_cases h : N % 64 ≤ j ∧ j < N % 64 + k
  · rw [if_pos h, ← hf _ (by omega), show N + (j - N % 64) = 64 * (N / 64) + j by omega]
  · rw [if_neg h]; exact hb j (by omega)
theorem hm_full {w : World} {g N k : Nat} {F b f : Nat → Nat} (hr : RowV w g 223 73 (hv (comp (hs F (N / 64)) (putH (N % 64) k f b)) (putH (N % 64) k f b) (N + k))) (hb : ∀ j, j < N % 64 → b j = F (64 * (N / 64) + j)) (hf : ∀ j, j < k → F (N + j) = f j) (hk : N % 64 + k = 64) : HM w g (N + k) F := by
  refine ⟨putH (N % 64) k f b, ?_, fun j hj => by omega⟩
  rw [show (N + k) / 64 = N / 64 + 1 by omega, hs, ← comp_congr (full_block hb hf hk)]
  exact hr
set_option maxRecDepth 100000 in
set_option maxHeartbeats 3200000 in
theorem write_any (g n0 gp k cap : Nat) (A : Nat → Option Addr) (n c : Nat → Nat) (f : Nat → Nat → Nat) (F : Nat → Nat) (w : World) (hk : k ≤ 1000) (hN : offs n0 n k ≤ 1000000000000000) (hp : Parts w gp k A n c f) (hcap : ∀ i, i < k → n i ≤ c i)
    (hF : ∀ i, i < k → ∀ j, j < n i → F (offs n0 n i + j) = f i j) (hm : HM w g n0 F) (hY : By (offs n0 n k) F) (ht : GT w) (hg : 4 ≠ g ∧ 1 ≠ g) (hgp : gp ≠ g)
    (hA : ∀ i, i < k → 0 < n i → ∀ B o, A i = some ⟨B, o, none⟩ → B ≠ g) :
    Calls Tryz.prog 140 #[.pointer (some ⟨g, 0, none⟩), .slice (some ⟨gp, 0, none⟩) k cap] w fun e w' => e = .returned (.tuple #[]) ∧ (HM w' g (offs n0 n k) F ∧ Chg g w w') := by
  have HP := Lib.hid hp
  have HF := Lib.hid hF
  have HH := Lib.hid hm
  have HY := Lib.hid hY
  have HT := Lib.hid ht
  have HG := Lib.hid hg
  have HGP := Lib.hid hgp
  have HA := Lib.hid hA
  have HCP := Lib.hid hcap
  have HN := Lib.hid hN
  clear hp hF hm hY ht hg hgp hA hN hcap
  go_enter Tryz.func140, Tryz.ntmps140
  go_wp2_with fail
  go_loopw [9] (fun v wr => ∃ i : Nat, i ≤ k ∧ v = .int .i64 i ∧ HM wr g (offs n0 n i) F ∧ Chg g w wr) (fun v _ => k - (intOf v).toNat)
  case atStart => exact ⟨0, Nat.zero_le _, rfl, HH.out, Chg.refl _ _⟩
  case round =>
    obtain ⟨i, hi, rfl, h1, h2⟩ := hrel
    have H1 := Lib.hid h1
    have H2 := Lib.hid h2
    clear h1 h2 HH
    by_cases hlt : i < k
    · have HPr := Lib.hid (HP.out.chg H2.out HGP.out HA.out)
      have hcell := HPr.out.cells i hlt
      have HS := Lib.hid (HPr.out.rows i hlt)
      have HFi := Lib.hid (HF.out i hlt)
      have HAi := Lib.hid (HA.out i hlt)
      have HCi := Lib.hid (HCP.out i hlt)
      have HO := Lib.hid (show offs n0 n (i + 1) = offs n0 n i + n i from rfl)
      have HNi := Lib.hid (show offs n0 n i + n i ≤ 1000000000000000 by
        have := offs_le n0 n (i + 1) (k - (i + 1))
        rw [show i + 1 + (k - (i + 1)) = k by omega] at this
        have h3 := HN.out
        have h4 := HO.out
        omega)
      have HYi := Lib.hid (show By (offs n0 n i + n i) F from fun j hj => HY.out j (by
        have := offs_le n0 n (i + 1) (k - (i + 1))
        rw [show i + 1 + (k - (i + 1)) = k by omega] at this
        have h4 := HO.out
        omega))
      obtain ⟨N1, hN1⟩ : ∃ N1, offs n0 n (i + 1) = N1 := ⟨_, rfl⟩
      rw [hN1] at HO
      have HN1 := Lib.hid hN1
      clear hN1
      generalize offs n0 n i = N0 at *
      generalize hAA : A i = Ai at *
      generalize hnn : n i = ni at *
      generalize hcc : c i = ci at *
      generalize f i = fi at *
      have hni : ni ≤ 1000000000000000 := by have := HNi.out; omega
      clear hAA hnn hcc
      go_wp2_with fail
      go_loopw [5] (fun v wr => ∃ (d : Nat) (A' : Option Addr) (c' : Nat), d ≤ ni ∧ v = .slice A' (ni - d) c' ∧ SlB wr A' (ni - d) (fun j => fi (d + j)) ∧ ni - d ≤ c' ∧ (0 < ni - d → ∀ B o, A' = some ⟨B, o, none⟩ → B ≠ g) ∧ HM wr g (N0 + d) F ∧ Chg g w wr) (fun v _ => lenOf v)
      case atStart => exact ⟨0, Ai, ci, Nat.zero_le _, rfl, HS.out.congr fun j _ => by rw [Nat.zero_add], HCi.out, HAi.out, H1.out, H2.out⟩
      case round =>
        obtain ⟨d, A', c', hd, rfl, h1, h2, h3, h4, h5⟩ := hrel
        have G1 := Lib.hid h1
        have G2 := Lib.hid h2
        have G3 := Lib.hid h3
        have G4 := Lib.hid h4
        have G5 := Lib.hid h5
        clear h1 h2 h3 h4 h5 H1 H2 HPr hcell HS
        obtain ⟨m, hm⟩ : ∃ m, ni - d = m := ⟨_, rfl⟩
        rw [hm] at G1 G2 G3 ⊢
        by_cases hdl : d < ni
        · have hm0 : (0 : Int) < m := by omega
          have hm1 : (m : Int) ≤ 1000000000000000 := by omega
          obtain ⟨N, hN⟩ : ∃ N, N0 + d = N := ⟨_, rfl⟩
          rw [hN] at G4
          obtain ⟨b, hrow, hbb⟩ := G4.out
          have HR := Lib.hid hrow
          have HB := Lib.hid hbb
          have hN2 : N ≤ 1000000000000000 := by have := HNi.out; omega
          have hNi0 : (0 : Int) ≤ N := by omega
          have hNi1 : (N : Int) ≤ 1000000000000000 := by omega
          have hcnt : wr.cell? ⟨g, 72, none⟩ = some (.int .i64 (N : Nat)) := HR.out.cell (i := 72) (by decide)
          have hq1 := Int.tmod_eq_emod_of_nonneg (b := 64) hNi0
          have hsl := sl_from 194 64 g 8 (N % 64) Tryz.underlying194 (by omega) ((N : Int).tmod 64) (by omega)
          obtain ⟨e, he⟩ : ∃ e, Nat.min m (64 - N % 64) = e := ⟨_, rfl⟩
          have hem : e ≤ m := by rw [← he]; exact Nat.min_le_left _ _
          have heq : e ≤ 64 - N % 64 := by rw [← he]; exact Nat.min_le_right _ _
          have he0 : 0 < e := by
            rw [← he]
            have : N % 64 < 64 := Nat.mod_lt _ (by decide)
            exact Nat.lt_min.2 ⟨by omega, by omega⟩
          have HE := Lib.hid he
          have hei : (e : Int) ≤ m := by omega
          obtain ⟨A2, hA2⟩ : ∃ A2, hiA A' c' e = A2 := ⟨_, rfl⟩
          have hsh := fun w => run_hi w A' m c' e hem
          rw [hA2] at hsh
          obtain ⟨x, hx⟩ : ∃ x, N + e = x := ⟨_, rfl⟩
          have hNe : (N : Int) + (e : Int) = (x : Nat) := by omega
          have hx0 : (0 : Int) ≤ x := by omega
          have hx1 : (x : Int) ≤ 2000000000000000 := by omega
          have HX := Lib.hid hx
          have HA2 := Lib.hid hA2
          clear hrow hbb G4 he hq1 hx hA2
          go_wp2_with fail
          go_region_law ((refine step_copyV rfl (.tmp 24) (.tmp 25) rfl g (8 + N % 64) _ _ A' m c' rfl rfl 223 73 _ (by first | exact HR.out | exact HR.out.drew) _ (by first | exact G1.out | exact G1.out.drewN 1) e HE.out.symm (by omega) ?_); intro w5 hr5 hb5; have HR5 := Lib.hid (hr5.congr fun j _ => putV_hv _ _ _ _ _ _ j (by omega)); have HB5 := Lib.hid hb5; clear hr5 hb5)
          have G6 := Lib.hid (G5.out.trans (hB5' HB5.out))
          have hcnt : w5.cell? ⟨g, 72, none⟩ = some (.int .i64 (N : Nat)) := HR5.out.cell (i := 72) (by decide)
          have hfr : w5.frozen? ⟨g, 72, none⟩ = false := HR5.out.frozen (i := 72) (by decide)
          have HR6 := Lib.hid ((HR5.out.set 72 (.int .i64 (x : Nat))).congr fun j hj => set_hv _ _ _ x j hj)
          have G7 := Lib.hid (G6.out.setCell (a := ⟨g, 72, none⟩) (Or.inl rfl) (.int .i64 (x : Nat)))
          have G8 := Lib.hid (((((G1.out.chg (hB5' HB5.out) G3.out).chg ((Chg.refl g w5).setCell (a := ⟨g, 72, none⟩) (Or.inl rfl) (.int .i64 (x : Nat))) G3.out).hiA (k := e) hem G2.out).congr (f' := fun j => fi ((d + e) + j)) fun j _ => by rw [Nat.add_assoc]))
          rw [HA2.out] at G8
          have G9 := Lib.hid (show 0 < m - e → ∀ B o, A2 = some ⟨B, o, none⟩ → B ≠ g from fun h B o hB => by
            obtain ⟨o', ho⟩ := hiA_block (c := c') (k := e) G1.out (by omega) (by rw [HA2.out]; exact hB)
            exact G3.out (by omega) B o' ho)
          have HFe := Lib.hid (show ∀ j, j < e → F (N + j) = fi (d + j) from fun j hj => by
            rw [← HFi.out (d + j) (by omega), ← hN, Nat.add_assoc])
          have HM1 := Lib.hid (show m - e = ni - (d + e) by omega)
          have HM2 := Lib.hid (show d + e ≤ ni by omega)
          have HM3 := Lib.hid (show x = N0 + (d + e) by have := HX.out; omega)
          have HM4 := Lib.hid (show m - e ≤ c' - e by have := G2.out; omega)
          have HM5 := Lib.hid (show m - e < m by omega)
          clear hsl HB5 G1 HR hN HE hm hm0 hm1
          by_cases hfull : N % 64 + e = 64
          · have hz : ((x : Int) % 64 == 0) = true := by have := HX.out; simp; omega
            have HFU := Lib.hid (full_block HB.out HFe.out hfull)
            have HYF := Lib.hid (show By 64 (putH (N % 64) e (fun j => fi (d + j)) b) from fun j hj => by
              rw [HFU.out j hj]; exact HYi.out _ (by have := HX.out; have := HM3.out; have := HM2.out; omega))
            have HFL := Lib.hid hfull
            clear hfull
            have HTq := Lib.hid (HT.out.chg G7.out HG.out)
            go_wp2_with fail
            refine (sadd_any g x _ _ _ (hs_ok F (N / 64)) HYF.out HR6.out HTq.out HG.out).mono ?_
            rintro e2 w6 ⟨rfl, h1, h2⟩
            have HM6 := Lib.hid (show HM w6 g x F by
              have := HX.out
              subst this
              exact hm_full h1 HB.out HFe.out HFL.out)
            have G10 := Lib.hid (G7.out.trans h2)
            have G11 := Lib.hid (G8.out.chg h2 G9.out)
            clear h1 h2
            go_wp2_with fail
            exact ⟨⟨d + e, A2, c' - e, HM2.out, by rw [HM1.out], by rw [← HM1.out]; exact G11.out, by rw [← HM1.out]; exact HM4.out, by rw [← HM1.out]; exact G9.out, by rw [← HM3.out]; exact HM6.out, G10.out⟩, HM5.out⟩
          · have hz : ((x : Int) % 64 == 0) = false := by have := HX.out; simp; omega
            have HFL := Lib.hid hfull
            clear hfull
            have HM6 := Lib.hid (show HM (w5.setCell ⟨g, 72, none⟩ (.int .i64 (x : Nat))) g x F by
              have := HX.out
              subst this
              exact hm_part HR6.out HB.out HFe.out (by have := HFL.out; omega))
            go_wp2_with fail
            exact ⟨⟨d + e, A2, c' - e, HM2.out, by rw [HM1.out], by rw [← HM1.out]; exact G8.out, by rw [← HM1.out]; exact HM4.out, by rw [← HM1.out]; exact G9.out, by rw [← HM3.out]; exact HM6.out, G7.out⟩, HM5.out⟩
        · obtain rfl : d = ni := by omega
          obtain rfl : m = 0 := by omega
          have HX := Lib.hid (show N0 + d = N1 from HO.out.symm)
          rw [HX.out] at G4
          go_wp2_with fail
          go_roundw
          case rel => exact ⟨i + 1, by omega, by go_num, by rw [HN1.out]; exact G4.out, G5.out⟩
          case measure => simp [intOf]; omega
    · obtain rfl : i = k := by omega
      go_wp2_with fail
      go_end0
      exact ⟨rfl, H1.out, H2.out⟩
end Go.Proofs.YthmlcmlpmolmoaaGreatDoor
namespace Go.Proofs.YthmlcmlpmolmoaaGreatDoor
open Go.RowKit
theorem sl_to (t : TypeId) (n g o h : Nat) (hu : Tryz.prog.underlying t = some (.array n 5)) (hh : h ≤ n) (hi : Int) (eh : hi = (h : Nat)) (w : World) :
    (Instr.sliceAt t (.pointer (some ⟨g, o, none⟩)) none (some (.int .i64 hi)) none).run Tryz.prog w = .ok (.slice (some ⟨g, o, none⟩) h n) w := by
  subst eh
  have he : Tryz.prog.elem t = 5 := by simp [Program.elem, hu]
  have hn : Tryz.prog.arrayLen t = n := by simp [Program.arrayLen, hu]
  rw [run_sliceAt_array_h (h0 := by omega) (h2 := by rw [hn]; omega) (ht := by rw [hn, he]; exact hu), he, sizeU8]
  show Result.ok (slicedAt ⟨g, o, none⟩ _ _ _ 1) w = _
  rw [hn, Int.toNat_natCast]
  unfold slicedAt
  split
  · simp
  · rw [Go.WideShapes.add_plain]; simp
theorem run_parts2 (w : World) (A0 : Option Addr) (n0 c0 : Nat) (A1 : Option Addr) (n1 c1 : Nat) : (Instr.buildSlice 32 2 #[(0, .slice A0 n0 c0), (1, .slice A1 n1 c1)]).run Tryz.prog w = .ok (.slice (some ⟨w.heap.size, 0, none⟩) 2 2) (w.alloc (.cells #[.slice A0 n0 c0, .slice A1 n1 c1] 22)) := by go_simp
theorem sl_all (t : TypeId) (n g o : Nat) (hu : Tryz.prog.underlying t = some (.array n 5)) (w : World) :
    (Instr.sliceAt t (.pointer (some ⟨g, o, none⟩)) none none none).run Tryz.prog w = .ok (.slice (some ⟨g, o, none⟩) n n) w := by
  have he : Tryz.prog.elem t = 5 := by simp [Program.elem, hu]
  have hn : Tryz.prog.arrayLen t = n := by simp [Program.arrayLen, hu]
  rw [run_sliceAt_array_all (ht := by rw [hn, he]; exact hu), he, sizeU8]
  show Result.ok (slicedAt ⟨g, o, none⟩ _ _ _ 1) w = _
  rw [hn]
  unfold slicedAt
  split
  · simp
  · rw [Go.WideShapes.add_plain]; simp
theorem arr_new {W : World} {c : Array Value} {t : TypeId} {n g : Nat} {f : Nat → Nat} (hc : c = (bytesL n f).toArray) (hg : g = W.heap.size) : Arr (W.alloc (.cells c t)) g 0 n f := by
  subst hg; exact arr_made W c t n f hc
def pd (j : Nat) : Nat := if j = 0 then 128 else 0
theorem pd_lit : (#[.int .u8 128, .int .u8 0, .int .u8 0, .int .u8 0, .int .u8 0, .int .u8 0, .int .u8 0, .int .u8 0, .int .u8 0, .int .u8 0, .int .u8 0, .int .u8 0, .int .u8 0, .int .u8 0, .int .u8 0, .int .u8 0, .int .u8 0, .int .u8 0, .int .u8 0, .int .u8 0, .int .u8 0, .int .u8 0, .int .u8 0, .int .u8 0, .int .u8 0, .int .u8 0, .int .u8 0, .int .u8 0, .int .u8 0, .int .u8 0, .int .u8 0, .int .u8 0, .int .u8 0, .int .u8 0, .int .u8 0, .int .u8 0, .int .u8 0, .int .u8 0, .int .u8 0, .int .u8 0, .int .u8 0, .int .u8 0, .int .u8 0, .int .u8 0, .int .u8 0, .int .u8 0, .int .u8 0, .int .u8 0, .int .u8 0, .int .u8 0, .int .u8 0, .int .u8 0, .int .u8 0, .int .u8 0, .int .u8 0, .int .u8 0, .int .u8 0, .int .u8 0, .int .u8 0, .int .u8 0, .int .u8 0, .int .u8 0, .int .u8 0, .int .u8 0] : Array Value) = (bytesL 64 pd).toArray := rfl
def lnb (x1 x2 : Nat) (j : Nat) : Nat := putw 4 x2 (putw 0 x1 (fun _ => 0)) j
theorem lnb_eq (n j : Nat) (hj : j < 8) : lnb (8 * n / 4294967296) (8 * n % 4294967296) j = 8 * n / 256 ^ (7 - j) % 256 := by
  unfold lnb putw
  have hh : j = 0 ∨ j = 1 ∨ j = 2 ∨ j = 3 ∨ j = 4 ∨ j = 5 ∨ j = 6 ∨ j = 7 := by omega
  rcases hh with rfl | rfl | rfl | rfl | rfl | rfl | rfl | rfl <;> simp <;> omega
theorem pad_offs (n z : Nat) (hz : (119 - n % 64) % 64 = z) : n + (1 + z) + 8 = padL n := by unfold padL; omega
theorem pad_first (n z : Nat) (f : Nat → Nat) (hz : (119 - n % 64) % 64 = z) (j : Nat) (hj : j < 1 + z) : padf n f (n + j) = pd j := by
  have h := pad_offs n z hz
  unfold padf pd
  rw [if_neg (by omega)]
  by_cases e : j = 0
  · rw [if_pos (by omega), if_pos e]
  · rw [if_neg (by omega), if_pos (by omega), if_neg e]
theorem pad_last (n z : Nat) (f : Nat → Nat) (hz : (119 - n % 64) % 64 = z) (j : Nat) (hj : j < 8) : padf n f (n + (1 + z) + j) = lnb (8 * n / 4294967296) (8 * n % 4294967296) j := by
  have h := pad_offs n z hz
  unfold padf
  rw [if_neg (by omega), if_neg (by omega), if_neg (by omega), lnb_eq n j hj, show padL n - 1 - (n + (1 + z) + j) = 7 - j by omega]
theorem padf_by (n : Nat) (f : Nat → Nat) (m : Nat) (hf : By n f) : By m (padf n f) := fun j _ => by
  unfold padf
  by_cases h : j < n
  · rw [if_pos h]; exact hf j h
  · rw [if_neg h]; split
    · decide
    · split
      · decide
      · exact Nat.mod_lt _ (by decide)
def t2 {α : Type} (x y : α) (j : Nat) : α := if j = 0 then x else y
theorem two_of {j : Nat} (h : j < 2) : j = 0 ∨ j = 1 := by omega
set_option maxRecDepth 100000 in
set_option maxHeartbeats 1600000 in
theorem pad_any (g n : Nat) (f : Nat → Nat) (w : World) (hn : n ≤ 100000000000000) (hm : HM w g n f) (hf : By n f) (ht : GT w) (hg : 4 ≠ g ∧ 1 ≠ g) :
    Calls Tryz.prog 166 #[.pointer (some ⟨g, 0, none⟩)] w fun e w' => e = .returned (.tuple #[]) ∧ (HM w' g (padL n) (padf n f) ∧ Chg g w w') := by
  have HH := Lib.hid hm
  have HY := Lib.hid hf
  have HT := Lib.hid ht
  have HG := Lib.hid hg
  have hcnt := hm.count
  have hni : (n : Int) ≤ 100000000000000 := by omega
  have hn0 : (0 : Int) ≤ n := by omega
  have hgl := HH.out.lt
  obtain ⟨x1, hx1⟩ : ∃ x1, 8 * n / 4294967296 = x1 := ⟨_, rfl⟩
  obtain ⟨x2, hx2⟩ : ∃ x2, 8 * n % 4294967296 = x2 := ⟨_, rfl⟩
  have hy1 : (n : Int) * 8 / 4294967296 = (x1 : Nat) := by omega
  have hy2 : (n : Int) * 8 % 4294967296 = (x2 : Nat) := by omega
  have HX1 := Lib.hid hx1
  have HX2 := Lib.hid hx2
  obtain ⟨z, hz⟩ : ∃ z, (119 - n % 64) % 64 = z := ⟨_, rfl⟩
  have hz1 : (119 - (n : Int) % 64) % 64 = (z : Nat) := by omega
  have hz2 : (z : Int) ≤ 63 := by omega
  have HZ := Lib.hid hz
  have lx1 : x1 < 4294967296 := by omega
  have lx2 : x2 < 4294967296 := by omega
  clear hm hf ht hg hx1 hx2 hz
  go_enter Tryz.func166, Tryz.ntmps166
  go_wp2_with fail
  refine (putWord_any (w.heap.size + 1) 0 0 0 8 8 8 x1 _ lx1 (by decide) (by decide) (fun _ => 0) (arr_new rfl (by simp)) rfl (by decide)).mono ?_
  rintro e w3 ⟨rfl, h1, h2⟩
  have HL := Lib.hid h1
  have HP := Lib.hid (show Arr w3 w.heap.size 0 64 pd from (((arr_new pd_lit rfl).alloc _).chg h2 (Nat.ne_of_lt (Nat.lt_succ_self _))))
  have HC := Lib.hid (show Chg g w w3 from (((Chg.refl g w).alloc _).alloc _).thenNew h2 (Nat.le_succ _))
  have HH3 := Lib.hid (show HM w3 g n f from ((HH.out.alloc _).alloc _).chg h2 (by omega))
  have HT3 := Lib.hid (show GT w3 from ((HT.out.alloc _).alloc _).chg h2 ⟨by have := HT.out.ltk; omega, by have := HT.out.lth; omega⟩)
  clear h1 h2
  go_wp2_with fail
  refine (putWord_any (w.heap.size + 1) 0 4 4 8 4 4 x2 _ lx2 (by decide) (by decide) _ HL.out rfl (by decide)).mono ?_
  rintro e w4 ⟨rfl, h1, h2⟩
  have HL4 := Lib.hid h1
  have HP4 := Lib.hid (HP.out.chg h2 (Nat.ne_of_lt (Nat.lt_succ_self _)))
  have HC4 := Lib.hid (HC.out.thenNew h2 (Nat.le_succ _))
  have HH4 := Lib.hid (HH3.out.chg h2 (by omega))
  have HT4 := Lib.hid (HT3.out.chg h2 ⟨by have := HT.out.ltk; omega, by have := HT.out.lth; omega⟩)
  have HSZ := Lib.hid (show w.heap.size + 1 < w4.heap.size from h1.lt (by decide))
  clear h1 h2 HL HP HC HH3 HT3 hy1 hy2 hcnt
  have hsl := sl_to 194 64 w.heap.size 0 (1 + z) Tryz.underlying194 (by omega) (IntKind.i64.wrap (1 + (z : Int))) (by rw [IntKind.wrap_i64]; omega)
  have hsa := sl_all 107 8 (w.heap.size + 1) 0 Tryz.underlying107
  have hbl := fun w' => run_parts2 w' (some ⟨w.heap.size, 0, none⟩) (1 + z) 64 (some ⟨w.heap.size + 1, 0, none⟩) 8 8
  have HW := Lib.hid (write_any g n w4.heap.size 2 2 (t2 (some ⟨w.heap.size, 0, none⟩) (some ⟨w.heap.size + 1, 0, none⟩)) (t2 (1 + z) 8) (t2 64 8) (t2 pd (lnb x1 x2)) (padf n f)
    (w4.drew.alloc (.cells #[.slice (some ⟨w.heap.size, 0, none⟩) (1 + z) 64, .slice (some ⟨w.heap.size + 1, 0, none⟩) 8 8] 22)) (by decide) (by show n + (1 + z) + 8 ≤ _; omega)
    ⟨fun j hj => by rcases two_of hj with rfl | rfl <;> exact (World.cell?_alloc_at _ _ _ _ rfl).trans rfl, fun j hj => by
      rcases two_of hj with rfl | rfl
      · exact SlB.keep (w := w4.drew) (((HP4.out.drew.sub (a := 0) (m := 1 + z) (o' := 0) (by omega) rfl).slB (fun j _ => by unfold pd; split <;> decide)).congr fun j _ => by rw [Nat.zero_add]; rfl) ((Below.refl _ _).alloc (Nat.le_refl _) _)
      · exact SlB.keep (w := w4.drew) (HL4.out.drew.slB (fun j hj => by
          show lnb x1 x2 j < 256
          rw [← HX1.out, ← HX2.out, lnb_eq n j hj]; exact Nat.mod_lt _ (by decide))) ((Below.refl _ _).alloc (Nat.le_refl _) _)⟩
    (fun i hi => by
      rcases two_of hi with rfl | rfl
      · show 1 + z ≤ 64; omega
      · exact Nat.le_refl 8)
    (fun i hi j hj => by
      rcases two_of hi with rfl | rfl
      · exact pad_first n z f HZ.out j hj
      · show padf n f (n + (1 + z) + j) = lnb x1 x2 j
        rw [← HX1.out, ← HX2.out]; exact pad_last n z f HZ.out j hj)
    (HM.alloc (w := w4.drew) (HH4.out.congr fun j hj => by unfold padf; rw [if_pos hj]) _) (padf_by n f _ HY.out) (GT.alloc (w := w4.drew) (HT4.out.drewN 1) _) HG.out (by have := HH4.out.lt; omega)
    (fun i hi _ B o hB => by
      rcases two_of hi with rfl | rfl
      · have hB : (some ⟨w.heap.size, 0, none⟩ : Option Addr) = some ⟨B, o, none⟩ := hB
        injection hB with hB; injection hB with h1 _ _; omega
      · have hB : (some ⟨w.heap.size + 1, 0, none⟩ : Option Addr) = some ⟨B, o, none⟩ := hB
        injection hB with hB; injection hB with h1 _ _; omega))
  rw [show offs n (t2 (1 + z) 8) 2 = padL n from pad_offs n z HZ.out] at HW
  have HC5 := Lib.hid ((HC4.out.drew).alloc (.cells #[.slice (some ⟨w.heap.size, 0, none⟩) (1 + z) 64, .slice (some ⟨w.heap.size + 1, 0, none⟩) 8 8] 22))
  clear hz1
  go_wp2_with fail
  go_region_with (go_at_call 140; refine HW.out.mono ?_; rintro e w5 ⟨rfl, h1, h2⟩; have HR := Lib.hid h1; have HC6 := Lib.hid h2; clear h1 h2)
  all_goals
    go_end0
    exact ⟨rfl, HR.out, HC5.out.trans HC6.out⟩
end Go.Proofs.YthmlcmlpmolmoaaGreatDoor
namespace Go.Proofs.YthmlcmlpmolmoaaGreatDoor
open Go.RowKit
theorem sizeHash : (Tryz.prog.info? 223).map (·.size) = some 73 := by kernel_rfl
theorem size8w : (Tryz.prog.info? 221).map (·.size) = some 8 := by kernel_rfl
def s80 : S8 := ⟨0, 0, 0, 0, 0, 0, 0, 0⟩
theorem zeroHash : (Tryz.prog.info? 223).map (·.zero) = some (some (.agg (valsL 73 (hv s80 (fun _ => 0) 0)).toArray)) := by kernel_rfl
theorem zero_hash (w : World) : (zeroValue 223).run Tryz.prog w = .ok (.agg (valsL 73 (hv s80 (fun _ => 0) 0)).toArray) w := by
  have h := zeroHash
  cases hq : Tryz.prog.info? 223 with
  | none => rw [hq] at h; cases h
  | some i =>
    rw [hq] at h
    have hs : i.zero = some (.agg (valsL 73 (hv s80 (fun _ => 0) 0)).toArray) := by simpa using h
    simp [zeroValue, typeInfo, hq, hs]
theorem hv_one (s : S8) (b : Nat → Nat) (n j : Nat) : (hv s b n j).oneCell' = true := by
  unfold hv; split
  · rfl
  · split <;> rfl
theorem setCells_shape (g : Nat) (t : TypeId) (fr : Nat × Nat) : ∀ (vs : List Value) (o : Nat) (w : World) (c : Array Value), w.heap[g]? = some (.cells c t fr) → ∃ c', (w.setCells g o vs).heap[g]? = some (.cells c' t fr) ∧ c'.size = c.size
  | [], _, _, c, h => ⟨c, h, rfl⟩
  | v :: r, o, w, c, h => by
    rw [World.setCells]
    obtain ⟨c', h1, h2⟩ := setCells_shape g t fr r (o + 1) (w.setCell ⟨g, o, none⟩ v) (c.setIfInBounds o v) (by simp [World.setCell, Array.getElem?_modify, h])
    exact ⟨c', h1, by rw [h2]; simp⟩
theorem RowV.of_arr {w : World} {g n : Nat} {t : TypeId} {f : Nat → Value} {c : Array Value} (h : w.heap[g]? = some (.cells c t (0, 0))) (hc : c.size = n) (ha : ArrV w g 0 n f) : RowV w g t n f := by
  unfold RowV
  rw [h]
  congr 2
  apply Array.ext'
  apply List.ext_getElem?
  intro j
  rcases Nat.lt_or_ge j n with hj | hj
  · have := (ha j hj).1
    rw [Nat.zero_add] at this
    rw [show (valsL n f).toArray.toList = valsL n f from rfl, valsL_at hj]
    simpa [World.cell?, h] using this
  · rw [List.getElem?_eq_none (by simpa [hc] using hj), List.getElem?_eq_none (by simpa [valsL] using hj)]
theorem RowV.setCells {w : World} {g n : Nat} {t : TypeId} {cur : Nat → Value} (h : RowV w g t n cur) (f : Nat → Value) : RowV (w.setCells g 0 (valsL n f)) g t n f := by
  obtain ⟨c', h1, h2⟩ := setCells_shape g t (0, 0) (valsL n f) 0 w _ h
  exact RowV.of_arr h1 (by rw [h2]; simp [valsL]) (h.arr.setCells f)
theorem wpList_storeW {ops : Array Oper} {rest : List Oper} {op : Oper} {a : Act} {w : World} {Q : Exit → Act → World → Prop} (hgd : op.guard = none) (ty : TypeId) (x y : Operand) (ho : op.op = .store ty x y)
    (b : Nat) (t : TypeId) (n : Nat) (f cur : Nat → Value) (hx : a.eval x = .pointer (some ⟨b, 0, none⟩)) (hy : a.eval y = .agg (valsL n f).toArray) (hc : RowV w b t n cur) (h1 : ∀ j, j < n → (f j).oneCell' = true) (hi : (Tryz.prog.info? ty).map (·.size) = some n)
    (h : ∀ w', RowV w' b t n f → Chg b w w' → wpList Tryz.prog ops Q rest (a.put op.dst undef) w') : wpList Tryz.prog ops Q (op :: rest) a w := by
  refine wpList_store_mid hgd ty x y ho b 0 (valsL n f).toArray hx hy (hc.arr.there' f) (by rw [List.size_toArray, valsL_length]; exact hi) (all_oneCell_toArray (vals_one h1)) ?_
  rw [List.toList_toArray]
  exact h _ (hc.setCells f) (Chg.setCells b (Or.inl rfl) _ _ w (Chg.refl _ _))
def sdg (s : S8) (k j : Nat) : Nat := if j < 4 * k then dig s j else 0
theorem dg_step (s : S8) (k j : Nat) : putw (4 * k) (at8 s k) (sdg s k) j = sdg s (k + 1) j := by
  unfold putw sdg
  by_cases h : 4 * k ≤ j ∧ j < 4 * k + 4
  · rw [if_pos h, if_pos (by omega)]
    unfold dig
    rw [show j / 4 = k by omega, show j % 4 = j - 4 * k by omega]
  · rw [if_neg h]
    by_cases h2 : j < 4 * k
    · rw [if_pos h2, if_pos (by omega)]
    · rw [if_neg h2, if_neg (by omega)]
set_option maxRecDepth 100000 in
set_option maxHeartbeats 3200000 in
theorem hsum_any (g n : Nat) (f : Nat → Nat) (w : World) (hn : n ≤ 100000000000000) (hm : HM w g n f) (hf : By n f) (ht : GT w) :
    Calls Tryz.prog 141 #[.pointer (some ⟨g, 0, none⟩)] w fun e w' => ∃ d, e = .returned (.slice (some ⟨d, 0, none⟩) 32 32) ∧ w.heap.size ≤ d ∧ Arr w' d 0 32 (sha n f) ∧ Below w.heap.size w w' := by
  obtain ⟨b, hr, hb⟩ := hm
  have HR := Lib.hid hr
  have HB := Lib.hid hb
  have HY := Lib.hid hf
  have HT := Lib.hid ht
  have hz := zero_hash
  clear hr hb hf ht
  go_enter Tryz.func141, Tryz.ntmps141
  have HR1 := Lib.hid (rowV_made w _ 223 73 (hv s80 (fun _ => 0) 0) rfl)
  go_wp2_with (first | (refine wpList_load_mid rfl 223 (.tmp 8) rfl g 0 rfl _ _ HR.out.arr.range Tryz.underlying223 rfl (by rw [valsL_length]; exact sizeHash) ?_) |
    (refine wpList_storeW rfl 223 (.tmp 3) (.tmp 9) rfl w.heap.size 223 73 _ _ rfl rfl HR1.out (fun j _ => hv_one _ _ _ j) sizeHash ?_; intro w2 h1 h2; have HR2 := Lib.hid h1; have HC2 := Lib.hid h2; clear h1 h2))
  have hltk := HT.out.ltk
  have hlth := HT.out.lth
  have HT2 := Lib.hid ((HT.out.alloc (.cells (valsL 73 (hv s80 (fun _ => 0) 0)).toArray 223)).chg HC2.out ⟨by omega, by omega⟩)
  have HG := Lib.hid (show 4 ≠ w.heap.size ∧ 1 ≠ w.heap.size from ⟨by omega, by omega⟩)
  have HB2 := Lib.hid (show Below w.heap.size w w2 from ((Below.refl _ _).alloc (Nat.le_refl _) _).trans (HC2.out.below (by simp) (Nat.le_refl _)))
  have HM2 := Lib.hid (show HM w2 w.heap.size n f from ⟨b, HR2.out, HB.out⟩)
  clear HR1 HR2 HC2 hltk hlth
  refine (pad_any w.heap.size n f w2 hn HM2.out HY.out HT2.out HG.out).mono ?_
  rintro e w3 ⟨rfl, ⟨b3, hr3, _⟩, h2⟩
  have HB3 := Lib.hid (HB2.out.trans (h2.below HB2.out.size (Nat.le_refl _)))
  rw [show padL n / 64 = (n + 72) / 64 by unfold padL; omega] at hr3
  have HS := Lib.hid (hs_ok (padf n f) ((n + 72) / 64))
  have HD := Lib.hid (show ∀ j, sha n f j = dig (hs (padf n f) ((n + 72) / 64)) j from fun _ => rfl)
  generalize hs (padf n f) ((n + 72) / 64) = s at *
  have HR3 := Lib.hid hr3
  clear hr3 h2 HM2 HT2 HB2 hz
  have hmk : ∀ W : World, (Instr.makeSlice 22 (.int .i64 32) (.int .i64 32)).run Tryz.prog W = .ok (.slice (some ⟨W.heap.size, 0, none⟩) 32 32) (W.alloc (.cells (madeCells #[.int .u8 0] 32) 5)) := mk8 32 (by decide)
  have HRG := Lib.hid (show (w3.alloc (.cells (madeCells #[.int .u8 0] 32) 5)).rangeAt w.heap.size 0 (valsL 8 fun j => .int .u32 (at8 s j : Nat)) from
    (((HR3.out.arr.sub (a := 0) (m := 8) (o' := 0) (by decide) rfl).congr fun j hj => by rw [Nat.zero_add]; exact hv_state _ _ _ _ hj).alloc _).range)
  have HA4 := Lib.hid (show Arr (w3.alloc (.cells (madeCells #[.int .u8 0] 32) 5)) w3.heap.size 0 32 (sdg s 0) from arr_new (by
    apply Array.ext'
    rw [toList_madeCells_one]; rfl) rfl)
  have HB4 := Lib.hid (HB3.out.alloc HB3.out.size (.cells (madeCells #[.int .u8 0] 32) 5))
  have HSZ := Lib.hid HB3.out.size
  go_wp2_with (refine wpList_load_mid rfl 221 (.tmp 12) rfl w.heap.size 0 rfl _ _ HRG.out Tryz.underlying221 rfl (by rw [valsL_length]; exact size8w) ?_)
  generalize w3.heap.size = D at *
  generalize w3.alloc (.cells (madeCells #[.int .u8 0] 32) 5) = w4 at *
  clear hmk HR3 HRG HB3
  go_loopw [14] (fun v wr => ∃ k : Nat, k ≤ 8 ∧ v = .int .i64 k ∧ Arr wr D 0 32 (sdg s k) ∧ Below w.heap.size w wr) (fun v _ => 8 - (intOf v).toNat)
  case atStart => exact ⟨0, Nat.zero_le _, rfl, HA4.out, HB4.out⟩
  case round =>
    obtain ⟨k, hk, rfl, h1, h2⟩ := hrel
    have H1 := Lib.hid h1
    have H2 := Lib.hid h2
    clear h1 h2 HA4 HB4
    by_cases hlt : k < 8
    · have hix := index_vals 221 8 (fun j => .int .u32 (at8 s j : Nat)) k Tryz.underlying221 hlt
      have hsh : ∀ W : World, (Instr.sliceAt 22 (.slice (some ⟨D, 0, none⟩) 32 32) (some (.int .i64 ((k : Int) * 4))) none none).run Tryz.prog W = .ok (.slice (some ⟨D, 4 * k, none⟩) (32 - 4 * k) (32 - 4 * k)) W := fun W => by
        have h := run_hi W (some ⟨D, 0, none⟩) 32 32 (4 * k) (by omega)
        rw [show ((4 * k : Nat) : Int) = (k : Int) * 4 by omega] at h
        rw [h]
        unfold hiA
        rw [if_neg (by omega), Option.map_some, Go.WideShapes.add_plain, Nat.zero_add, Nat.mul_one]
      have hki : (k : Int) < 8 := by omega
      go_wp2_with fail
      refine (putWord_any D 0 (4 * k) (4 * k) 32 (32 - 4 * k) (32 - 4 * k) (at8 s k) _ (at8_lt HS.out k) (by omega) (by omega) _ H1.out (Nat.zero_add _).symm (by omega)).mono ?_
      rintro e w5 ⟨rfl, h1, h2⟩
      have K1 := Lib.hid (h1.congr fun j _ => dg_step s k j)
      have K2 := Lib.hid (H2.out.trans (h2.below H2.out.size HSZ.out))
      clear h1 h2
      go_wp2_with fail
      go_roundw
      case rel => exact ⟨k + 1, by omega, by go_num, K1.out, K2.out⟩
      case measure => simp [intOf]; omega
    · obtain rfl : k = 8 := by omega
      go_wp2_with fail
      go_ret
      exact ⟨D, rfl, HSZ.out, H1.out.congr fun j hj => by rw [HD.out]; exact if_pos hj, H2.out⟩
end Go.Proofs.YthmlcmlpmolmoaaGreatDoor
namespace Go.Proofs.YthmlcmlpmolmoaaGreatDoor
open Go.RowKit
theorem st0_lit : valsL 8 (fun j => Value.int .u32 (at8 st0 j : Nat)) = [.int .u32 1779033703, .int .u32 3144134277, .int .u32 1013904242, .int .u32 2773480762, .int .u32 1359893119, .int .u32 2600822924, .int .u32 528734635, .int .u32 1541459225] := rfl
theorem zero_lit : (valsL 73 (hv s80 (fun _ => 0) 0)).toArray = #[Value.int .u32 0, Value.int .u32 0, Value.int .u32 0, Value.int .u32 0, Value.int .u32 0, Value.int .u32 0, Value.int .u32 0, Value.int .u32 0, Value.int .u8 0, Value.int .u8 0, Value.int .u8 0, Value.int .u8 0, Value.int .u8 0, Value.int .u8 0, Value.int .u8 0, Value.int .u8 0, Value.int .u8 0, Value.int .u8 0, Value.int .u8 0, Value.int .u8 0, Value.int .u8 0, Value.int .u8 0, Value.int .u8 0, Value.int .u8 0, Value.int .u8 0, Value.int .u8 0, Value.int .u8 0, Value.int .u8 0, Value.int .u8 0, Value.int .u8 0, Value.int .u8 0, Value.int .u8 0, Value.int .u8 0, Value.int .u8 0, Value.int .u8 0, Value.int .u8 0, Value.int .u8 0, Value.int .u8 0, Value.int .u8 0, Value.int .u8 0, Value.int .u8 0, Value.int .u8 0, Value.int .u8 0, Value.int .u8 0, Value.int .u8 0, Value.int .u8 0, Value.int .u8 0, Value.int .u8 0, Value.int .u8 0, Value.int .u8 0, Value.int .u8 0, Value.int .u8 0, Value.int .u8 0, Value.int .u8 0, Value.int .u8 0, Value.int .u8 0, Value.int .u8 0, Value.int .u8 0, Value.int .u8 0, Value.int .u8 0, Value.int .u8 0, Value.int .u8 0, Value.int .u8 0, Value.int .u8 0, Value.int .u8 0, Value.int .u8 0, Value.int .u8 0, Value.int .u8 0, Value.int .u8 0, Value.int .u8 0, Value.int .u8 0, Value.int .u8 0, Value.int .i64 0] := rfl
theorem new_lit : (#[Value.int .u32 1779033703, Value.int .u32 3144134277, Value.int .u32 1013904242, Value.int .u32 2773480762, Value.int .u32 1359893119, Value.int .u32 2600822924, Value.int .u32 528734635, Value.int .u32 1541459225, Value.int .u8 0, Value.int .u8 0, Value.int .u8 0, Value.int .u8 0, Value.int .u8 0, Value.int .u8 0, Value.int .u8 0, Value.int .u8 0, Value.int .u8 0, Value.int .u8 0, Value.int .u8 0, Value.int .u8 0, Value.int .u8 0, Value.int .u8 0, Value.int .u8 0, Value.int .u8 0, Value.int .u8 0, Value.int .u8 0, Value.int .u8 0, Value.int .u8 0, Value.int .u8 0, Value.int .u8 0, Value.int .u8 0, Value.int .u8 0, Value.int .u8 0, Value.int .u8 0, Value.int .u8 0, Value.int .u8 0, Value.int .u8 0, Value.int .u8 0, Value.int .u8 0, Value.int .u8 0, Value.int .u8 0, Value.int .u8 0, Value.int .u8 0, Value.int .u8 0, Value.int .u8 0, Value.int .u8 0, Value.int .u8 0, Value.int .u8 0, Value.int .u8 0, Value.int .u8 0, Value.int .u8 0, Value.int .u8 0, Value.int .u8 0, Value.int .u8 0, Value.int .u8 0, Value.int .u8 0, Value.int .u8 0, Value.int .u8 0, Value.int .u8 0, Value.int .u8 0, Value.int .u8 0, Value.int .u8 0, Value.int .u8 0, Value.int .u8 0, Value.int .u8 0, Value.int .u8 0, Value.int .u8 0, Value.int .u8 0, Value.int .u8 0, Value.int .u8 0, Value.int .u8 0, Value.int .u8 0, Value.int .i64 0] : Array Value) = (valsL 73 (hv st0 (fun _ => 0) 0)).toArray := rfl
set_option maxRecDepth 100000 in
theorem snew_any (f : Nat → Nat) (w : World) (ht : GT w) :
    Calls Tryz.prog 139 #[] w fun e w' => e = .returned (.pointer (some ⟨w.heap.size, 0, none⟩)) ∧ HM w' w.heap.size 0 f ∧ Below w.heap.size w w' := by
  have HRG := Lib.hid (show w.rangeAt 1 0 [.int .u32 1779033703, .int .u32 3144134277, .int .u32 1013904242, .int .u32 2773480762, .int .u32 1359893119, .int .u32 2600822924, .int .u32 528734635, .int .u32 1541459225] from by
    rw [← st0_lit]
    intro j v hv
    obtain ⟨hj, rfl⟩ := valsL_get hv
    rw [Nat.zero_add]; exact ht.h j hj)
  have hz := zero_hash
  rw [zero_lit] at hz
  clear ht
  go_enter Tryz.func139, Tryz.ntmps139
  go_wp2_with (refine wpList_load_mid rfl 221 (.global 1) rfl 1 0 rfl _ _ HRG.out Tryz.underlying221 rfl size8w ?_)
  go_ret
  refine ⟨rfl, ⟨fun _ => 0, ?_, fun j hj => absurd hj (by simp)⟩, (Below.refl _ _).alloc (Nat.le_refl _) _⟩
  exact rowV_new new_lit rfl
theorem Parts.keep {w w' : World} {g k : Nat} {A : Nat → Option Addr} {n c : Nat → Nat} {f : Nat → Nat → Nat} (h : Parts w g k A n c f) (hb : Below w.heap.size w w') : Parts w' g k A n c f :=
  ⟨fun j hj => (hb.cell (p := ⟨g, j, none⟩) (block_lt (a := ⟨g, j, none⟩) (h.cells j hj))).trans (h.cells j hj), fun j hj => (h.rows j hj).keep hb⟩
theorem Parts.apart {w : World} {g k K : Nat} {A : Nat → Option Addr} {n c : Nat → Nat} {f : Nat → Nat → Nat} (h : Parts w g k A n c f) (hK : w.heap.size ≤ K) : ∀ i, i < k → 0 < n i → ∀ B o, A i = some ⟨B, o, none⟩ → B ≠ K := fun i hi hn B o e => by
  obtain ⟨B', o', e', hB, _⟩ := h.rows i hi hn
  rw [e] at e'
  injection e' with e'
  injection e' with e1 _ _
  omega
set_option maxHeartbeats 800000 in
theorem sum_any (gp k cap : Nat) (A : Nat → Option Addr) (n c : Nat → Nat) (f : Nat → Nat → Nat) (F : Nat → Nat) (w : World) (hk0 : 0 < k) (hk : k ≤ 1000) (hN : offs 0 n k ≤ 100000000000000) (hp : Parts w gp k A n c f) (hcap : ∀ i, i < k → n i ≤ c i)
    (hF : ∀ i, i < k → ∀ j, j < n i → F (offs 0 n i + j) = f i j) (hY : By (offs 0 n k) F) (ht : GT w) :
    Calls Tryz.prog 137 #[.slice (some ⟨gp, 0, none⟩) k cap] w fun e w' => ∃ d, e = .returned (.slice (some ⟨d, 0, none⟩) 32 32) ∧ w.heap.size ≤ d ∧ Arr w' d 0 32 (sha (offs 0 n k) F) ∧ Below w.heap.size w w' := by
  have HP := Lib.hid hp
  have HF := Lib.hid hF
  have HY := Lib.hid hY
  have HT := Lib.hid ht
  have HCP := Lib.hid hcap
  have HN := Lib.hid hN
  have HGP := Lib.hid (block_lt (a := ⟨gp, 0, none⟩) (hp.cells 0 hk0))
  clear hp hF hY ht hcap hN
  go_enter Tryz.func137, Tryz.ntmps137
  go_wp2_with fail
  refine (snew_any F w HT.out).mono ?_
  rintro e w1 ⟨rfl, h1, h2⟩
  have HM1 := Lib.hid h1
  have HB1 := Lib.hid h2
  have HT1 := Lib.hid (HT.out.keep h2)
  have HP1 := Lib.hid (HP.out.keep h2)
  have HG := Lib.hid (show 4 ≠ w.heap.size ∧ 1 ≠ w.heap.size from ⟨Nat.ne_of_lt HT.out.ltk, Nat.ne_of_lt HT.out.lth⟩)
  clear h1 h2
  go_wp2_with fail
  refine (write_any w.heap.size 0 gp k cap A n c f F w1 hk (by have := HN.out; omega) HP1.out HCP.out HF.out HM1.out HY.out HT1.out HG.out (Nat.ne_of_lt HGP.out) (HP.out.apart (Nat.le_refl _))).mono ?_
  rintro e w2 ⟨rfl, h1, h2⟩
  have HM2 := Lib.hid h1
  have HB2 := Lib.hid (HB1.out.trans (h2.below HB1.out.size (Nat.le_refl _)))
  have HT2 := Lib.hid (HT1.out.chg h2 HG.out)
  clear h1 h2
  go_wp2_with fail
  refine (hsum_any w.heap.size (offs 0 n k) F w2 HN.out HM2.out HY.out HT2.out).mono ?_
  rintro e w3 ⟨d, rfl, h1, h2, h3⟩
  have HD := Lib.hid (Nat.le_trans HB2.out.size h1)
  have HR := Lib.hid h2
  have HB3 := Lib.hid (HB2.out.trans (h3.mono HB2.out.size))
  clear h1 h2 h3
  go_wp2_with fail
  go_ret
  exact ⟨d, rfl, HD.out, HR.out, HB3.out⟩
end Go.Proofs.YthmlcmlpmolmoaaGreatDoor
namespace Go.Proofs.YthmlcmlpmolmoaaGreatDoor
open Go.RowKit
theorem parts1 {W : World} (A : Option Addr) (n c : Nat) (f : Nat → Nat) (hA : SlB W A n f) : Parts (W.alloc (.cells #[.slice A n c] 22)) W.heap.size 1 (fun _ => A) (fun _ => n) (fun _ => c) (fun _ => f) :=
  ⟨fun j hj => by
    obtain rfl : j = 0 := by omega
    exact (World.cell?_alloc_at _ _ _ _ rfl).trans rfl, fun _ _ => hA.keep ((Below.refl _ _).alloc (Nat.le_refl _) _)⟩
theorem parts2 {W : World} (A0 A1 : Option Addr) (n0 n1 c0 c1 : Nat) (f0 f1 : Nat → Nat) (h0 : SlB W A0 n0 f0) (h1 : SlB W A1 n1 f1) :
    Parts (W.alloc (.cells #[.slice A0 n0 c0, .slice A1 n1 c1] 22)) W.heap.size 2 (t2 A0 A1) (t2 n0 n1) (t2 c0 c1) (t2 f0 f1) :=
  ⟨fun j hj => by rcases two_of hj with rfl | rfl <;> exact (World.cell?_alloc_at _ _ _ _ rfl).trans rfl, fun j hj => by
    rcases two_of hj with rfl | rfl
    · exact h0.keep ((Below.refl _ _).alloc (Nat.le_refl _) _)
    · exact h1.keep ((Below.refl _ _).alloc (Nat.le_refl _) _)⟩
def q3 {α : Type} (x y z : α) (j : Nat) : α := if j = 0 then x else if j = 1 then y else z
def Dig (W : World) (n : Nat) (F : Nat → Nat) (e : Ending) (w' : World) : Prop :=
  ∃ d, e = .returned (.slice (some ⟨d, 0, none⟩) 32 32) ∧ W.heap.size ≤ d ∧ Arr w' d 0 32 (sha n F) ∧ Below W.heap.size W w'
theorem Dig.of {W0 W : World} {n : Nat} {F : Nat → Nat} {e : Ending} {w' : World} (h : ∃ d, e = .returned (.slice (some ⟨d, 0, none⟩) 32 32) ∧ W.heap.size ≤ d ∧ Arr w' d 0 32 (sha n F) ∧ Below W.heap.size W w') (hb : Below W0.heap.size W0 W) : Dig W0 n F e w' := by
  obtain ⟨d, he, hd, ha, hb'⟩ := h
  exact ⟨d, he, Nat.le_trans hb.size hd, ha, hb.trans (hb'.mono hb.size)⟩
theorem Dig.as {W : World} {n m : Nat} {F F' : Nat → Nat} {e : Ending} {w' : World} (h : Dig W n F e w') (hn : n = m) (hF : ∀ j, j < n → F j = F' j) : Dig W m F' e w' := by
  subst hn
  obtain ⟨d, he, hd, ha, hb'⟩ := h
  exact ⟨d, he, hd, ha.congr fun j _ => sha_congr hF j, hb'⟩
theorem sum1_any (W : World) (A : Option Addr) (n c : Nat) (f : Nat → Nat) (hn : n ≤ 100000000000000) (hc : n ≤ c) (hA : SlB W A n f) (ht : GT W) :
    Calls Tryz.prog 137 #[.slice (some ⟨W.heap.size, 0, none⟩) 1 1] (W.alloc (.cells #[.slice A n c] 22)) (Dig W n f) := by
  refine (sum_any W.heap.size 1 1 _ _ _ _ f _ (by decide) (by decide) (by show 0 + n ≤ _; omega) (parts1 A n c f hA) (fun _ _ => hc) (fun i hi j hj => ?_) (fun j hj => hA.byte (by have : j < 0 + n := hj; omega)) (ht.alloc _)).mono fun e w' h => (Dig.of h ((Below.refl _ _).alloc (Nat.le_refl _) _)).as (Nat.zero_add n) fun _ _ => rfl
  obtain rfl : i = 0 := by omega
  show f (0 + j) = f j
  rw [Nat.zero_add]
end Go.Proofs.YthmlcmlpmolmoaaGreatDoor
