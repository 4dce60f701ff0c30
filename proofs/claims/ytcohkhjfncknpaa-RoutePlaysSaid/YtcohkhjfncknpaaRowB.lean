/- A row of bytes known whole; copy into it; bytes.Equal's text of two rows. -/
import Derived.Test.YtcohkhjfncknpaaAppB
import Derived.Laws.CopyOwn
import Derived.Lib.SmallJoins
namespace Go.Proofs.Ytcohkhjfncknpaa
open Go.RowKit

/-- block g is a row of m bytes of the call's own -/
def RowB (w : World) (g m : Nat) (cur : Nat → Nat) : Prop := w.heap[g]? = some (.cells (bytesL m cur).toArray 5 (0, 0))
namespace RowB
variable {w w' : World} {g m : Nat} {cur f : Nat → Nat}
theorem lt (h : RowB w g m cur) : g < w.heap.size := (Array.getElem?_eq_some_iff.1 h).1
theorem of_block (h : RowB w g m cur) (e : w'.heap[g]? = w.heap[g]?) : RowB w' g m cur := e.trans h
theorem drewN (h : RowB w g m cur) (k : Nat) : RowB (w.drewN k) g m cur := h
theorem drew (h : RowB w g m cur) : RowB w.drew g m cur := h
theorem below (h : RowB w g m cur) {B : Nat} (hb : Below B w w') (hB : g < B) : RowB w' g m cur := h.of_block (hb.block g hB)
theorem keep (h : RowB w g m cur) (hb : Below w.heap.size w w') : RowB w' g m cur := h.below hb h.lt
theorem alloc (h : RowB w g m cur) (o : Obj) : RowB (w.alloc o) g m cur := h.of_block (Below.heap_alloc w o g h.lt)
theorem congr (h : RowB w g m cur) (e : ∀ j, j < m → cur j = f j) : RowB w g m f := by
  have : bytesL m cur = bytesL m f := List.map_congr_left fun j hj => by rw [e j (List.mem_range.1 hj)]
  unfold RowB at *; rw [← this]; exact h
theorem rowIs (h : RowB w g m cur) : w.rowIs g 5 m (fun j => .int .u8 (cur j : Nat)) := by
  refine ⟨_, h, by simp [bytesL], fun i hi => ?_⟩
  rw [List.getElem?_toArray]
  unfold bytesL
  rw [List.getElem?_map, List.getElem?_range hi]; rfl
theorem rowX (h : RowB w g m cur) : RowX w g 5 m (fun j => .int .u8 (cur j : Nat)) := RowX.of_rowIs h.rowIs
theorem cell (h : RowB w g m cur) {i : Nat} (hi : i < m) : w.cell? ⟨g, i, none⟩ = some (.int .u8 (cur i : Nat)) := h.rowIs.cell hi
theorem frozen (h : RowB w g m cur) (i : Nat) : w.frozen? ⟨g, i, none⟩ = false := h.rowIs.frozen i
theorem slB (h : RowB w g m cur) {off n : Nat} (hn : off + n ≤ m) (hc : ∀ j, j < m → cur j < 256) : SlB w (some ⟨g, off, none⟩) n (fun j => cur (off + j)) := fun _ =>
  ⟨g, off, rfl, h.lt, fun j hj => ⟨hc _ (by omega), h.cell (by omega)⟩⟩
theorem slB0 (h : RowB w g m cur) {n : Nat} (hn : n ≤ m) (hc : ∀ j, j < m → cur j < 256) : SlB w (some ⟨g, 0, none⟩) n cur := fun _ =>
  ⟨g, 0, rfl, h.lt, fun j hj => ⟨hc _ (by omega), by rw [Nat.zero_add]; exact h.cell (by omega)⟩⟩
theorem set (h : RowB w g m cur) (i : Nat) (x : Nat) (v : Value) (hv : v = .int .u8 (x : Nat)) : RowB (w.setCell ⟨g, i, none⟩ v) g m (fun j => if j = i then x else cur j) := by
  subst hv
  unfold RowB at *
  rw [show (w.setCell ⟨g, i, none⟩ (.int .u8 (x : Nat))).heap[g]? = some (.cells ((bytesL m cur).toArray.setIfInBounds i (.int .u8 (x : Nat))) 5 (0, 0)) by simp [World.setCell, Array.getElem?_modify, h]]
  congr 2
  apply Array.ext'
  apply List.ext_getElem?
  intro j
  simp only [List.setIfInBounds_toArray, List.getElem?_set]
  unfold bytesL
  by_cases hj : j < m
  · rw [List.getElem?_map, List.getElem?_range hj, List.getElem?_map, List.getElem?_range hj]
    by_cases e : i = j
    · subst e; simp [hj]
    · have e2 : ¬ j = i := fun h => e h.symm
      simp [e, e2]
  · rw [List.getElem?_map, List.getElem?_eq_none (by simpa using hj), List.getElem?_map, List.getElem?_eq_none (by simpa using hj)]
    by_cases e : i = j
    · subst e; simp [hj]
    · simp [e]
end RowB
theorem rowB_made (w : World) (n : Nat) : RowB (w.alloc (.cells (madeCells #[.int .u8 0] n) 5)) w.heap.size n (fun _ => 0) := by
  unfold RowB
  rw [heap_alloc_new]
  congr 2
  apply Array.ext'
  rw [toList_madeCells_one]
  unfold bytesL
  show List.replicate n (Value.int .u8 0) = (List.range n).map fun _ => Value.int .u8 0
  rw [List.map_const', List.length_range]

/-- k bytes laid over a row from a place on -/
def putB (off k : Nat) (f cur : Nat → Nat) (j : Nat) : Nat := if off ≤ j ∧ j < off + k then f (j - off) else cur j
theorem putB_lt {off k m : Nat} {f cur : Nat → Nat} (hf : ∀ j, j < k → f j < 256) (hc : ∀ j, j < m → cur j < 256) (j : Nat) (hj : j < m) : putB off k f cur j < 256 := by
  unfold putB; split
  · exact hf _ (by omega)
  · exact hc j hj
theorem splice_bytes (m off k : Nat) (f cur : Nat → Nat) (h : off + k ≤ m) : splice (bytesL m cur) off (bytesL k f) = bytesL m (putB off k f cur) := by
  unfold splice bytesL
  apply List.ext_getElem?
  intro j
  simp only [List.length_map, List.length_range, List.getElem?_append, List.getElem?_take, List.getElem?_drop, List.length_take, List.getElem?_map]
  rw [Nat.min_eq_left (show off ≤ m by omega)]
  unfold putB
  by_cases h1 : j < off
  · rw [if_pos h1, if_pos h1, List.getElem?_range (by omega)]
    simp only [Option.map_some]
    rw [if_neg (by omega)]
  · rw [if_neg h1]
    by_cases h2 : j < off + k
    · rw [if_pos (by omega), List.getElem?_range (by omega), List.getElem?_range (by omega)]
      simp only [Option.map_some]
      rw [if_pos ⟨by omega, h2⟩]
    · rw [if_neg (by omega), show off + k + (j - off - k) = j by omega]
      by_cases hj : j < m
      · rw [List.getElem?_range hj]
        simp only [Option.map_some]
        rw [if_neg (by omega)]
      · rw [List.getElem?_eq_none (by simpa using hj)]; rfl

theorem sizeOf8 : (Try.prog.info? 5).map (·.size) = some 1 := by kernel_rfl
theorem copy_parts {w : World} {A : Option Addr} {sLen k : Nat} {f : Nat → Nat} (hA : SlB w A sLen f) (hk : k ≤ sLen) {dp : Option Addr} {g off : Nat} (hd : 0 < k → dp = some ⟨g, off, none⟩) :
    0 < (bytesL k f).length → dp = some ⟨g, off, none⟩ ∧ ∃ ad, A = some ad ∧ ∀ j v, (bytesL k f)[j]? = some v → w.cell? (ad.add j) = some v := fun h => by
  have h0 : 0 < k := by simpa [bytesL] using h
  obtain ⟨B, o, hA', _, hc⟩ := hA (by omega)
  refine ⟨hd h0, _, hA', fun j v hj => ?_⟩
  obtain ⟨hjl, rfl⟩ := bytesL_get _ _ j v hj
  rw [Go.WideShapes.add_plain]
  exact (hc j (by omega)).2
theorem bytes_one (k : Nat) (f : Nat → Nat) : ∀ v ∈ bytesL k f, v.oneCell' = true := by
  intro u hu
  obtain ⟨j, hj⟩ := List.getElem?_of_mem hu
  obtain ⟨_, rfl⟩ := bytesL_get _ _ j u hj
  rfl
theorem wpList_copyB {ops : Array Oper} {rest : List Oper} {o : Oper} {a : Act} {Q : Exit → Act → World → Prop} {w : World} (hgd : o.guard = none) (d s : Operand)
    (ho : o.op = .call { callee := .builtin .copy, args := #[d, s], argTypes := #[55, 55] })
    (dp : Option Addr) (dLen dCap : Nat) (A : Option Addr) (sLen sCap : Nat) (hd : a.eval d = .slice dp dLen dCap) (hs : a.eval s = .slice A sLen sCap)
    (g off m : Nat) (cur : Nat → Nat) (hg : RowB w g m cur) (f : Nat → Nat) (hA : SlB w A sLen f) (k : Nat) (hk : k = Nat.min sLen dLen) (hdp : 0 < k → dp = some ⟨g, off, none⟩) (hfit : off + k ≤ m)
    (B : Nat) (w0 : World) (hb : Below B w0 w) (hBg : B ≤ g)
    (h : ∀ w', RowB w' g m (putB off k f cur) → Below B w0 w' → wpList Try.prog ops Q rest (a.put o.dst (goInt k)) w') : wpList Try.prog ops Q (o :: rest) a w := by
  have hl : (bytesL k f).length = k := by simp [bytesL]
  refine wpList_copy_splice hgd d s 55 55 ho 5 Try.underlying55 sizeOf8 dp A dLen dCap sLen sCap hd hs g off (bytesL m cur) 5 hg (bytesL k f) (by rw [hl, hk])
    (copy_parts hA (by rw [hk]; exact Nat.min_le_left _ _) hdp) (by rw [hl]; simpa [bytesL] using hfit) (bytes_one k f) B w0 hb hBg ?_
  intro w' hr hb'
  rw [hl]
  refine h w' ?_ hb'
  unfold RowB
  rw [← splice_bytes m off k f cur hfit]
  exact hr.out
theorem step_copyB {ops : Array Oper} {o : Oper} {a : Act} {w : World} {K : Act → World → Prop} {Q : Exit → Act → World → Prop} {E : Prop} (hgd : o.guard = none) (d s : Operand)
    (ho : o.op = .call { callee := .builtin .copy, args := #[d, s], argTypes := #[55, 55] })
    (dp : Option Addr) (dLen dCap : Nat) (A : Option Addr) (sLen sCap : Nat) (hd : a.eval d = .slice dp dLen dCap) (hs : a.eval s = .slice A sLen sCap)
    (g off m : Nat) (cur : Nat → Nat) (hg : RowB w g m cur) (f : Nat → Nat) (hA : SlB w A sLen f) (k : Nat) (hk : k = Nat.min sLen dLen) (hdp : 0 < k → dp = some ⟨g, off, none⟩) (hfit : off + k ≤ m)
    (B : Nat) (w0 : World) (hb : Below B w0 w) (hBg : B ≤ g)
    (h : ∀ w', RowB w' g m (putB off k f cur) → Below B w0 w' → K (a.put o.dst (goInt k)) w') : if Region.wanted o (yielded ops a.tmps) = true then Oper.wp Try.prog o a w K Q else E := by
  have hl : (bytesL k f).length = k := by simp [bytesL]
  refine step_copy_splice hgd d s 55 55 ho 5 Try.underlying55 sizeOf8 dp A dLen dCap sLen sCap hd hs g off (bytesL m cur) 5 hg (bytesL k f) (by rw [hl, hk])
    (copy_parts hA (by rw [hk]; exact Nat.min_le_left _ _) hdp) (by rw [hl]; simpa [bytesL] using hfit) (bytes_one k f) B w0 hb hBg ?_
  intro w' hr hb'
  rw [hl]
  refine h w' ?_ hb'
  unfold RowB
  rw [← splice_bytes m off k f cur hfit]
  exact hr.out

/-- a row of bytes that grows by append -/
def OwnB (w : World) (base : Nat) (v : Value) (n : Nat) (f : Nat → Nat) : Prop := w.ownsRow base 5 1 v n (bytesL n f)
def lenOf : Value → Nat
  | .slice _ n _ => n
  | _ => 0
namespace OwnB
variable {w w' : World} {base n : Nat} {v : Value} {f g : Nat → Nat}
theorem nil (w : World) (base : Nat) (f : Nat → Nat) : OwnB w base (.slice none 0 0) 0 f := World.ownsRow_nil w base _ 1
theorem empty (w : World) (base : Nat) (f : Nat → Nat) (hb : base ≤ w.heap.size) : OwnB (w.alloc (.cells #[] 5)) base (.slice (some ⟨w.heap.size, 0, none⟩) 0 0) 0 f :=
  World.ownsRow_made w #[] 0 hb (by unfold maxLen; omega) rfl
theorem congr (h : OwnB w base v n f) (e : ∀ j, j < n → f j = g j) : OwnB w base v n g := by
  have : bytesL n f = bytesL n g := List.map_congr_left fun j hj => by rw [e j (List.mem_range.1 hj)]
  unfold OwnB at *; rw [← this]; exact h
theorem alloc (h : OwnB w base v n f) (o : Obj) : OwnB (w.alloc o) base v n f := World.ownsRow.alloc h o
theorem drewN (h : OwnB w base v n f) (k : Nat) : OwnB (w.drewN k) base v n f := h
theorem slice (h : OwnB w base v n f) (hf : ∀ j, j < n → f j < 256) : ∃ A c, v = .slice A n c ∧ SlB w A n f := own_slB h hf
/-- the row's own block, and what is known of it -/
theorem cap_le (h : OwnB w base v n f) : ∃ A c, v = .slice A n c ∧ n ≤ c ∧ c ≤ maxLen ∧ (A = none → n = 0 ∧ c = 0) := by
  rcases h.2 with ⟨rfl, hn⟩ | ⟨g, cap, cur, rfl, _, _, h1, h2, _⟩
  · subst hn; exact ⟨none, 0, rfl, Nat.le_refl _, by unfold maxLen; omega, fun _ => ⟨rfl, rfl⟩⟩
  · exact ⟨_, cap, rfl, h1, h2, fun h => by cases h⟩
theorem keep (h : OwnB w base v n f) (hb : Below w.heap.size w w') : OwnB w' base v n f := by
  rcases h with ⟨h1, h2 | ⟨g, cap, cur, e, hg, hh, r⟩⟩
  · exact ⟨h1, Or.inl h2⟩
  · exact ⟨h1, Or.inr ⟨g, cap, cur, e, hg, (hb.block g (Array.getElem?_eq_some_iff.1 hh).1).trans hh, r⟩⟩
end OwnB
theorem one_slB (w : World) (t : TypeId) (x : Nat) (hx : x < 256) : SlB (w.alloc (.cells #[.int .u8 (x : Nat)] t)) (some ⟨w.heap.size, 0, none⟩) 1 (fun _ => x) := fun _ =>
  ⟨w.heap.size, 0, rfl, by simp, fun j hj => ⟨hx, by
    obtain rfl : j = 0 := by omega
    exact (World.cell?_alloc_at _ _ _ _ rfl).trans rfl⟩⟩
theorem four_slB (w : World) (t : TypeId) (g : Nat → Nat) (hg : ∀ j, g j < 256) : SlB (w.alloc (.cells #[.int .u8 (g 0 : Nat), .int .u8 (g 1 : Nat), .int .u8 (g 2 : Nat), .int .u8 (g 3 : Nat)] t)) (some ⟨w.heap.size, 0, none⟩) 4 g := fun _ =>
  ⟨w.heap.size, 0, rfl, by simp, fun j hj => ⟨hg j, by
    rcases (show j = 0 ∨ j = 1 ∨ j = 2 ∨ j = 3 by omega) with rfl | rfl | rfl | rfl <;> exact (World.cell?_alloc_at _ _ _ _ rfl).trans rfl⟩⟩
/-- a literal's bytes -/
theorem lit_slB (w : World) (t : TypeId) (fr : Nat × Nat) (L : List Nat) (hL : ∀ j, L.getD j 0 < 256) : SlB (w.alloc (.cells (L.map fun x => Value.int .u8 (x : Nat)).toArray t fr)) (some ⟨w.heap.size, 0, none⟩) L.length (fun j => L.getD j 0) := fun _ =>
  ⟨w.heap.size, 0, rfl, by simp, fun j hj => ⟨hL j, by
    refine (Joins.cell_alloc_mark_at w _ t fr _ _ rfl).trans ?_
    show (L.map fun x => Value.int .u8 (x : Nat)).toArray[0 + j]? = some (Value.int .u8 ((L.getD j 0 : Nat) : Int))
    rw [Nat.zero_add, List.getElem?_toArray, List.getElem?_map, List.getD_eq_getElem?_getD, List.getElem?_eq_getElem hj]
    rfl⟩⟩
/-- []byte of a constant -/
theorem kconv (w : World) (C : Array Value) (n c g : Nat) (hg : g = w.heap.size) :
    (convert 55 55 (.slice (some ⟨g, 0, none⟩) n c)).run Try.prog (w.alloc (.cells C 5)) = .ok (.slice (some ⟨g, 0, none⟩) n c) (w.alloc (.cells C 5 (C.size, C.size + 1))) :=
  Joins.run_convert_bytes_const_at (P := Try.prog) w 55 5 C n c g hg Try.underlying55 Try.underlying5
theorem wpList_appO {ops : Array Oper} {rest : List Oper} {o : Oper} {a : Act} {Q : Exit → Act → World → Prop} {w : World} (hgd : o.guard = none) (s x : Operand)
    (ho : o.op = .call { callee := .builtin .append, args := #[s, x], argTypes := #[55, 55] })
    (base : Nat) (v : Value) (n : Nat) (f : Nat → Nat) (hs : a.eval s = v) (hown : OwnB w base v n f)
    (A : Option Addr) (m cap : Nat) (g : Nat → Nat) (hx : a.eval x = .slice A m cap) (hA : SlB w A m g) (hnil : A = none → m = 0 ∧ cap = 0) (hn : n + m ≤ 140737488355328) (hbase : base ≤ w.heap.size)
    (hf : ∀ j, j < n → f j < 256) (hg : ∀ j, j < m → g j < 256)
    (h : ∀ A' c' w', OwnB w' base (.slice A' (n + m) c') (n + m) (catB n f g) → SlB w' A' (n + m) (catB n f g) → n + m ≤ c' ∧ c' ≤ maxLen ∧ (A' = none → n + m = 0 ∧ c' = 0) → Below base w w' → wpList Try.prog ops Q rest (a.put o.dst (.slice A' (n + m) c')) w') : wpList Try.prog ops Q (o :: rest) a w := by
  refine wpList_appB hgd s x ho base v n f hs hown A m cap g hx hA hnil hn hbase ?_
  intro v' w' h1 h2
  obtain ⟨A', c', rfl, hsl⟩ := own_slB h1 (catB_lt hf hg)
  obtain ⟨A2, c2, e, h3⟩ := OwnB.cap_le h1
  cases e
  exact h A' c' w' h1 hsl h3 h2
/-- append, as a run: for a place that is guarded -/
theorem run_appO (w : World) (base : Nat) (v : Value) (n : Nat) (f : Nat → Nat) (hown : OwnB w base v n f) (A : Option Addr) (m cap : Nat) (g : Nat → Nat) (hA : SlB w A m g) (hnil : A = none → m = 0 ∧ cap = 0)
    (hn : n + m ≤ 140737488355328) (hbase : base ≤ w.heap.size) (hf : ∀ j, j < n → f j < 256) (hg : ∀ j, j < m → g j < 256) :
    ∃ A' c' w', (Builtin.append_ #[55, 55] 55 #[v, .slice A m cap]).run Try.prog w = .ok (.slice A' (n + m) c') w' ∧ OwnB w' base (.slice A' (n + m) c') (n + m) (catB n f g) ∧ SlB w' A' (n + m) (catB n f g) ∧
      (n + m ≤ c' ∧ c' ≤ maxLen ∧ (A' = none → n + m = 0 ∧ c' = 0)) ∧ Below base w w' := by
  obtain ⟨i, hi, hz, hsz, hb⟩ := info_parts info8
  have fin : ∀ v' w', (Builtin.append_ #[55, 55] 55 #[v, .slice A m cap]).run Try.prog w = .ok v' w' → OwnB w' base v' (n + m) (catB n f g) → Below base w w' →
      ∃ A' c' w', (Builtin.append_ #[55, 55] 55 #[v, .slice A m cap]).run Try.prog w = .ok (.slice A' (n + m) c') w' ∧ OwnB w' base (.slice A' (n + m) c') (n + m) (catB n f g) ∧ SlB w' A' (n + m) (catB n f g) ∧
      (n + m ≤ c' ∧ c' ≤ maxLen ∧ (A' = none → n + m = 0 ∧ c' = 0)) ∧ Below base w w' := fun v' w' h1 h2 h3 => by
    obtain ⟨A', c', rfl, hsl⟩ := OwnB.slice h2 (catB_lt hf hg)
    obtain ⟨A2, c2, e, h4⟩ := OwnB.cap_le h2
    cases e
    exact ⟨A', c', w', h1, h2, hsl, h4, h3⟩
  cases A with
  | none =>
    obtain ⟨rfl, rfl⟩ := hnil rfl
    refine fin v w (run_append_owned_none (P := Try.prog) (w := w) base 55 55 5 i 1 Try.underlying55 hi v n _ hown) ?_ (Below.refl _ _)
    exact OwnB.congr hown fun j hj => by unfold catB; rw [if_pos (show j < n from hj)]
  | some ad =>
    obtain ⟨v', w', hr, h1, h2, _⟩ := run_append_own (P := Try.prog) w base 55 55 5 i (.int .u8 0) 1 1 Try.underlying55 hi hz hsz hb rfl (by decide) v n _ hown ad m cap (bytesL m g) (by simp [bytesL])
      (fun j u hj => by
        obtain ⟨hjm, rfl⟩ := bytesL_get m g j u hj
        obtain ⟨B, off, e, _, hc⟩ := hA (by omega)
        obtain rfl : ad = ⟨B, off, none⟩ := Option.some.inj e
        rw [Go.WideShapes.add_plain]
        exact (hc j hjm).2) (bytes_one m g) (by unfold maxLen; omega) (by omega) hbase
    rw [bytesL_cat] at h1
    exact fin v' w' hr h1 ((Below.refl base w).grown h2 hbase fun k hk => (hown.lt k hk).1)
/-- append where its run is known, guarded or not -/
theorem wpList_runA {ops : Array Oper} {rest : List Oper} {o : Oper} {a : Act} {Q : Exit → Act → World → Prop} {w : World} (s x : Operand)
    (ho : o.op = .call { callee := .builtin .append, args := #[s, x], argTypes := #[55, 55] }) (ht : o.type = 55) (hw : Region.wanted o (yielded ops a.tmps) = true)
    {v xv v' : Value} {w' : World} (hs : a.eval s = v) (hx : a.eval x = xv) (hrun : (Builtin.append_ #[55, 55] 55 #[v, xv]).run Try.prog w = .ok v' w')
    (h : wpList Try.prog ops Q rest (a.put o.dst v') w') : wpList Try.prog ops Q (o :: rest) a w := by
  refine wpList_step fun K hK => ?_
  rw [if_pos hw]
  unfold Oper.wp
  simp [execOp, ho, ht, resolve, invoke, builtin, hs, hx, hrun, Result.andThen]
  exact hK _ _ h
/-- append in a region that draws its order -/
theorem step_appO {ops : Array Oper} {o : Oper} {a : Act} {w : World} {K : Act → World → Prop} {Q : Exit → Act → World → Prop} {E : Prop} (s x : Operand)
    (ho : o.op = .call { callee := .builtin .append, args := #[s, x], argTypes := #[55, 55] }) (ht : o.type = 55) (hw : Region.wanted o (yielded ops a.tmps) = true)
    (base : Nat) (v : Value) (n : Nat) (f : Nat → Nat) (hs : a.eval s = v) (hown : OwnB w base v n f)
    (A : Option Addr) (m cap : Nat) (g : Nat → Nat) (hx : a.eval x = .slice A m cap) (hA : SlB w A m g) (hnil : A = none → m = 0 ∧ cap = 0) (hn : n + m ≤ 140737488355328) (hbase : base ≤ w.heap.size)
    (hf : ∀ j, j < n → f j < 256) (hg : ∀ j, j < m → g j < 256)
    (h : ∀ A' c' w', OwnB w' base (.slice A' (n + m) c') (n + m) (catB n f g) → SlB w' A' (n + m) (catB n f g) → n + m ≤ c' ∧ c' ≤ maxLen ∧ (A' = none → n + m = 0 ∧ c' = 0) → Below base w w' → K (a.put o.dst (.slice A' (n + m) c')) w') :
    if Region.wanted o (yielded ops a.tmps) = true then Oper.wp Try.prog o a w K Q else E := by
  rw [if_pos hw]
  obtain ⟨A', c', w', hr, h1, h2, h3, h4⟩ := run_appO w base v n f hown A m cap g hA hnil hn hbase hf hg
  unfold Oper.wp
  simp [execOp, ho, ht, resolve, invoke, builtin, hs, hx, hr, Result.andThen]
  exact h A' c' w' h1 h2 h3 h4
end Go.Proofs.Ytcohkhjfncknpaa
