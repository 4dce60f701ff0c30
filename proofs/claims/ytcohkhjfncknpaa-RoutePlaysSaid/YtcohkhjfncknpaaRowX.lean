/- A row of bytes whose first n cells are known and not frozen, whatever stands behind them. -/
import Derived.Test.YtcohkhjfncknpaaBase
namespace Go.Proofs.Ytcohkhjfncknpaa
open Go.RowKit

def RowX (w : World) (b : Nat) (t : TypeId) (n : Nat) (f : Nat → Value) : Prop :=
  ∃ (c : Array Value) (fr : Nat × Nat), w.heap[b]? = some (.cells c t fr) ∧ n ≤ c.size ∧ (fr.2 = 0 ∨ c.size ≤ fr.1) ∧ ∀ i, i < n → c[i]? = some (f i)
namespace RowX
variable {w w' : World} {b : Nat} {t : TypeId} {n : Nat} {f g : Nat → Value}
theorem of_rowIs (h : w.rowIs b t n f) : RowX w b t n f := by
  obtain ⟨c, h1, h2, h3⟩ := h
  exact ⟨c, (0, 0), h1, by omega, Or.inl rfl, h3⟩
theorem cell (h : RowX w b t n f) {i : Nat} (hi : i < n) : w.cell? ⟨b, i, none⟩ = some (f i) := by
  obtain ⟨c, fr, hb, _, _, hc⟩ := h
  simp [World.cell?, hb, hc i hi]
theorem frozen (h : RowX w b t n f) {i : Nat} (hi : i < n) : w.frozen? ⟨b, i, none⟩ = false := by
  obtain ⟨c, ⟨lo, hh⟩, hb, hn, hf, _⟩ := h
  simp only [World.frozen?, hb]
  rcases hf with hf | hf
  · simp only at hf; subst hf; simp
  · simp only at hf
    have : ¬ lo ≤ i := by omega
    simp [this]
theorem lt (h : RowX w b t n f) : b < w.heap.size := by
  obtain ⟨c, fr, hb, _⟩ := h
  obtain ⟨hlt, _⟩ := Array.getElem?_eq_some_iff.1 hb
  exact hlt
theorem congr (h : RowX w b t n f) (e : ∀ i, i < n → f i = g i) : RowX w b t n g := by
  obtain ⟨c, fr, hb, hn, hf, hc⟩ := h
  exact ⟨c, fr, hb, hn, hf, fun i hi => by rw [hc i hi, e i hi]⟩
theorem of_block (h : RowX w b t n f) (e : w'.heap[b]? = w.heap[b]?) : RowX w' b t n f := by
  obtain ⟨c, fr, hb, r⟩ := h
  exact ⟨c, fr, e.trans hb, r⟩
theorem drewN (h : RowX w b t n f) (k : Nat) : RowX (w.drewN k) b t n f := h
theorem drew (h : RowX w b t n f) : RowX w.drew b t n f := h
theorem alloc (h : RowX w b t n f) (o : Obj) : RowX (w.alloc o) b t n f := h.of_block (Below.heap_alloc w o b h.lt)
theorem below (h : RowX w b t n f) {B : Nat} (hb : Below B w w') (hB : b < B) : RowX w' b t n f := h.of_block (hb.block b hB)
theorem keep (h : RowX w b t n f) (hb : Below w.heap.size w w') : RowX w' b t n f := h.below hb h.lt
theorem set (h : RowX w b t n f) (i : Nat) (v : Value) : RowX (w.setCell ⟨b, i, none⟩ v) b t n (fun j => if j = i then v else f j) := by
  obtain ⟨c, fr, hb, hn, hf, hc⟩ := h
  refine ⟨c.setIfInBounds i v, fr, ?_, by simpa using hn, by simpa using hf, fun j hj => ?_⟩
  · simp [World.setCell, Array.getElem?_modify, hb]
  · rw [Array.getElem?_setIfInBounds]
    by_cases e : j = i
    · subst e
      rw [if_pos rfl, if_pos (by omega)]
      show some v = some (if j = j then v else f j)
      rw [if_pos rfl]
    · rw [if_neg (fun h => e h.symm)]
      show c[j]? = some (if j = i then v else f j)
      rw [if_neg e]
      exact hc j hj
theorem setOther (h : RowX w b t n f) {a : Addr} (ha : b ≠ a.block) (v : Value) : RowX (w.setCell a v) b t n f := h.of_block (Below.heap_setCell w a v b ha)
theorem less (h : RowX w b t n f) {m : Nat} (hm : m ≤ n) : RowX w b t m f := by
  obtain ⟨c, fr, hb, hn, hf, hc⟩ := h
  exact ⟨c, fr, hb, by omega, hf, fun i hi => hc i (by omega)⟩
end RowX

/-- string(b), b such a row -/
theorem convRowX {w : World} {g n cap m : Nat} {f : Nat → Value} (h : RowX w g 5 m f) (b : Nat → Nat) (hn : n ≤ m) (hf : ∀ i, i < n → f i = .int .u8 (b i : Nat)) :
    (convert 55 9 (.slice (some ⟨g, 0, none⟩) n cap)).run Try.prog w = .ok (.string (strOf n b)) w := by
  have := run_convert_bytes_arg w _ _ Try.underlying55 Try.underlying5 g 0 n cap ((List.range n).map fun i => ((b i : Nat) : Int)) (by simp) (fun i hi => by
    rw [Nat.zero_add, h.cell (by omega), hf i hi]
    simp [hi]) _ Try.underlying9
  refine this.trans (congrArg (fun s => Result.ok (Value.string s) w) ?_)
  unfold strOfNums strOf
  rw [List.map_map]
  rfl
/-- the text of a string's own bytes -/
theorem strOf_self (s : ByteArray) (d : UInt8) : strOf s.size (fun i => (s.data.toList.getD i d).toNat) = s := by
  apply ByteArray.ext
  apply Array.ext'
  rw [strOf_list]
  apply List.ext_getElem
  · rw [List.length_map, List.length_range, Array.length_toList]; rfl
  · intro i h1 h2
    simp only [List.getElem_map, List.getElem_range]
    rw [List.getD_eq_getElem?_getD, List.getElem?_eq_getElem h2]
    simp only [Option.getD_some, chr, UInt8.ofNat_toNat]
theorem strOf_at (n : Nat) (b : Nat → Nat) (d : UInt8) (i : Nat) (h : i < n) (hb : b i < 256) : ((strOf n b).data.toList.getD i d).toNat = b i := by
  rw [strOf_list, List.getD_eq_getElem?_getD, List.getElem?_map, List.getElem?_range h]
  simp only [Option.map_some, Option.getD_some]
  exact chr_toNat _ hb

/-- the bytes of a text: closed to the walk -/
def by_ (s : ByteArray) (i : Nat) : Nat := (s.data.toList.getD i 0).toNat
theorem by_lt (s : ByteArray) (i : Nat) : by_ s i < 256 := by unfold by_; exact UInt8.toNat_lt _
theorem strOf_by (s : ByteArray) : strOf s.size (by_ s) = s := strOf_self s 0
/-- []byte(s) -/
theorem bytesOf (s : ByteArray) (w : World) : ∃ cap W, (convert 9 55 (.string s)).run Try.prog w = .ok (.slice (some ⟨w.heap.size, 0, none⟩) s.size cap) W ∧
    Below w.heap.size w W ∧ w.heap.size < W.heap.size ∧ RowX W w.heap.size 5 s.size (fun i => .int .u8 (by_ s i : Nat)) := by
  refine ⟨_, _, run_bytes_of_string w _ _ _ s Try.underlying9 Try.underlying55 Try.underlying5, ((Below.refl _ _).drew).alloc (Nat.le_refl _) _, ?_, ?_⟩
  · show _ < (w.heap.push _).size
    simp
  · refine ⟨_, _, heap_alloc_new w.drew _, ?_, Or.inr ?_, fun i hi => ?_⟩
    · unfold bytesRow
      rw [Array.size_append, Array.size_map]
      exact Nat.le_add_right _ _
    · exact Nat.le_refl _
    · have hi' : i < s.data.size := hi
      unfold bytesRow
      rw [Array.getElem?_append_left (by rw [Array.size_map]; exact hi'), Array.getElem?_map, Array.getElem?_eq_getElem hi']
      show _ = some (Value.int .u8 ((s.data.toList.getD i 0).toNat : Nat))
      rw [List.getD_eq_getElem?_getD, List.getElem?_eq_getElem (by rw [Array.length_toList]; exact hi')]
      rfl
/-- a slice of bytes that came in: its cells -/
def SlB (w : World) (A : Option Addr) (n : Nat) (bs : Nat → Nat) : Prop :=
  0 < n → ∃ B o, A = some ⟨B, o, none⟩ ∧ B < w.heap.size ∧ ∀ j, j < n → bs j < 256 ∧ w.cell? ⟨B, o + j, none⟩ = some (.int .u8 (bs j : Nat))
theorem SlB.keep {w w' : World} {A : Option Addr} {n : Nat} {bs : Nat → Nat} (h : SlB w A n bs) (hb : Below w.heap.size w w') : SlB w' A n bs := fun hn => by
  obtain ⟨B, o, hA, hB, hc⟩ := h hn
  exact ⟨B, o, hA, Nat.lt_of_lt_of_le hB hb.size, fun j hj => ⟨(hc j hj).1, (hb.cell (p := ⟨B, _, none⟩) hB).trans (hc j hj).2⟩⟩
theorem SlB.drewN {w : World} {A : Option Addr} {n : Nat} {bs : Nat → Nat} (h : SlB w A n bs) (k : Nat) : SlB (w.drewN k) A n bs := h
theorem SlB.nil (w : World) (bs : Nat → Nat) : SlB w none 0 bs := fun h => absurd h (by omega)
theorem SlB.byte {w : World} {A : Option Addr} {n : Nat} {bs : Nat → Nat} (h : SlB w A n bs) {j : Nat} (hj : j < n) : bs j < 256 := by
  obtain ⟨B, o, _, _, hc⟩ := h (by omega); exact (hc j hj).1
theorem SlB.of_rowX {w : World} {g n : Nat} {f : Nat → Value} {bs : Nat → Nat} (h : RowX w g 5 n f) (hf : ∀ j, j < n → bs j < 256 ∧ f j = .int .u8 (bs j : Nat)) : SlB w (some ⟨g, 0, none⟩) n bs := fun _ =>
  ⟨g, 0, rfl, h.lt, fun j hj => ⟨(hf j hj).1, by rw [Nat.zero_add, h.cell hj, (hf j hj).2]⟩⟩
theorem strOfNums_range (k : Nat) (bs : Nat → Nat) : strOfNums ((List.range k).map fun i => ((bs i : Nat) : Int)) = strOf k bs := by
  unfold strOfNums strOf
  rw [List.map_map]
  rfl
/-- string(b[:k]) of a slice that came in -/
theorem convSl {w : World} {A : Option Addr} {n k cap : Nat} {bs : Nat → Nat} (h : SlB w A n bs) (hk : k ≤ n) :
    (convert 55 9 (.slice A k cap)).run Try.prog w = .ok (.string (strOf k bs)) w := by
  by_cases h0 : k = 0
  · subst h0
    have e : strOf 0 bs = ByteArray.empty := rfl
    rw [e]
    cases A with
    | none => exact run_convert_bytes_nil w _ _ Try.underlying55 Try.underlying5 0 cap _ Try.underlying9
    | some a =>
      rw [run_convert_bytes_string w _ _ _ (some a) 0 cap Try.underlying55 Try.underlying5 Try.underlying9]
      exact run_bytesToString w a 0 cap [] (by simp [loadCells, loadCellsFrom])
  · obtain ⟨B, o, rfl, _, hc⟩ := h (by omega)
    have := run_convert_bytes_arg w _ _ Try.underlying55 Try.underlying5 B o k cap ((List.range k).map fun i => ((bs i : Nat) : Int)) (by simp) (fun i hi => by
      rw [(hc i (by omega)).2]; simp [hi]) _ Try.underlying9
    rw [this, strOfNums_range]
/-- where b[:k] and b[k:] begin, as a run has it -/
def loA (A : Option Addr) (c : Nat) : Option Addr := if c = 0 then A else A.map (·.add (0 * 1))
def hiA (A : Option Addr) (c k : Nat) : Option Addr := if c = k then A else A.map (·.add (k * 1))
theorem SlB.loA {w : World} {A : Option Addr} {n : Nat} {f : Nat → Nat} (h : SlB w A n f) (c : Nat) {k : Nat} (hk : k ≤ n) : SlB w (loA A c) k f := fun h0 => by
  obtain ⟨B, o, rfl, hB, hc⟩ := h (by omega)
  refine ⟨B, o, ?_, hB, fun j hj => hc j (by omega)⟩
  unfold Go.Proofs.Ytcohkhjfncknpaa.loA; split
  · rfl
  · rw [Option.map_some, Go.WideShapes.add_plain, Nat.zero_mul, Nat.add_zero]
theorem SlB.hiA {w : World} {A : Option Addr} {n : Nat} {f : Nat → Nat} (h : SlB w A n f) {c k : Nat} (hk : k ≤ n) (hn : n ≤ c) : SlB w (hiA A c k) (n - k) (fun j => f (k + j)) := fun h0 => by
  obtain ⟨B, o, rfl, hB, hc⟩ := h (by omega)
  refine ⟨B, o + k, ?_, hB, fun j hj => by
    have := hc (k + j) (by omega)
    rw [Nat.add_assoc]; exact this⟩
  unfold Go.Proofs.Ytcohkhjfncknpaa.hiA
  rw [if_neg (by omega), Option.map_some, Go.WideShapes.add_plain, Nat.mul_one]
theorem SlB.low {w : World} {A : Option Addr} {n : Nat} {f : Nat → Nat} (h : SlB w A n f) {k : Nat} (hk : k ≤ n) : SlB w A k f := fun h0 => by
  obtain ⟨B, o, e, hB, hc⟩ := h (by omega)
  exact ⟨B, o, e, hB, fun j hj => hc j (by omega)⟩
theorem elemB : Try.prog.elem 55 = 5 := by kernel_rfl
theorem underB : Try.prog.underlying 55 = some (.slice (Try.prog.elem 55)) := by rw [elemB]; exact Try.underlying55
theorem size8 (w : World) : (sizeOf (Try.prog.elem 55)).run Try.prog w = .ok 1 w := by
  rw [elemB]; obtain ⟨i, hi, _, hs, _⟩ := info_parts info8
  simp [sizeOf, typeInfo, hi, hs]
/-- b[:k] -/
theorem run_lo (w : World) (A : Option Addr) (n c k : Nat) (hk : k ≤ c) : (Instr.sliceAt 55 (.slice A n c) none (some (.int .i64 (k : Int))) none).run Try.prog w = .ok (.slice (loA A c) k c) w := by
  rw [run_sliceAt_slice (h := underB), run_slice_h (ht := underB) (h0 := by omega) (h2 := by omega), size8]
  rfl
/-- b[k:] -/
theorem run_hi (w : World) (A : Option Addr) (n c k : Nat) (hk : k ≤ n) : (Instr.sliceAt 55 (.slice A n c) (some (.int .i64 (k : Int))) none none).run Try.prog w = .ok (.slice (hiA A c k) (n - k) (c - k)) w := by
  rw [run_sliceAt_slice (h := underB), run_slice_l (ht := underB) (h0 := by omega) (h1 := by omega), size8]
  rfl
/-- b[l:h] -/
theorem run_mid (w : World) (A : Option Addr) (n c l h : Nat) (hl : l ≤ h) (hh : h ≤ c) : (Instr.sliceAt 55 (.slice A n c) (some (.int .i64 (l : Int))) (some (.int .i64 (h : Int))) none).run Try.prog w = .ok (.slice (hiA A c l) (h - l) (c - l)) w := by
  rw [run_sliceAt_slice (h := underB), run_slice_lh (ht := underB) (h0 := by omega) (h1 := by omega) (h2 := by omega), size8]
  rfl
theorem SlB.mid {w : World} {A : Option Addr} {n c l m : Nat} {f : Nat → Nat} (h : SlB w A n f) (hl : l + m ≤ n) (hn : n ≤ c) : SlB w (Go.Proofs.Ytcohkhjfncknpaa.hiA A c l) m (fun j => f (l + j)) :=
  SlB.low (n := n - l) (h.hiA (c := c) (k := l) (by omega) hn) (by omega)
end Go.Proofs.Ytcohkhjfncknpaa
