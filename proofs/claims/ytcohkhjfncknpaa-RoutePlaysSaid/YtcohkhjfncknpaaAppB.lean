/- append of bytes that came in to a row of the call's own; []byte parameters, opened. -/
import Derived.Test.YtcohkhjfncknpaaRowX
import Derived.Test.YtcohkhjfncknpaaKit
import Derived.Laws.AppendOwnNone
namespace Go.Proofs.Ytcohkhjfncknpaa
set_option maxRecDepth 100000
open Go.RowKit

/-- two rows of bytes, one behind the other -/
def catB (n : Nat) (f g : Nat → Nat) (j : Nat) : Nat := if j < n then f j else g (j - n)
def bytesL (n : Nat) (f : Nat → Nat) : List Value := (List.range n).map fun j => .int .u8 (f j : Nat)
theorem catB_lt {n m : Nat} {f g : Nat → Nat} (hf : ∀ j, j < n → f j < 256) (hg : ∀ j, j < m → g j < 256) (j : Nat) (hj : j < n + m) : catB n f g j < 256 := by
  unfold catB; split
  · exact hf j (by omega)
  · exact hg _ (by omega)
theorem bytesL_cat (n m : Nat) (f g : Nat → Nat) : bytesL n f ++ bytesL m g = bytesL (n + m) (catB n f g) := by
  unfold bytesL
  rw [List.range_add, List.map_append, List.map_map]
  congr 1
  · apply List.map_congr_left
    intro j hj
    rw [catB, if_pos (List.mem_range.1 hj)]
  · apply List.map_congr_left
    intro j _
    show _ = Value.int .u8 ((catB n f g (n + j) : Nat) : Int)
    rw [catB, if_neg (by omega), Nat.add_sub_cancel_left]
theorem bytesL_get (n : Nat) (f : Nat → Nat) (j : Nat) (u : Value) (h : (bytesL n f)[j]? = some u) : j < n ∧ u = .int .u8 (f j : Nat) := by
  unfold bytesL at h
  rw [List.getElem?_map] at h
  rcases Nat.lt_or_ge j n with hj | hj
  · rw [List.getElem?_range hj] at h
    simp only [Option.map_some, Option.some.injEq] at h
    exact ⟨hj, h.symm⟩
  · rw [List.getElem?_eq_none (by simpa using hj)] at h; simp at h

theorem wpList_appB {ops : Array Oper} {rest : List Oper} {o : Oper} {a : Act} {Q : Exit → Act → World → Prop} {w : World} (hgd : o.guard = none) (s x : Operand)
    (ho : o.op = .call { callee := .builtin .append, args := #[s, x], argTypes := #[55, 55] })
    (base : Nat) (v : Value) (n : Nat) (f : Nat → Nat) (hs : a.eval s = v) (hown : w.ownsRow base 5 1 v n (bytesL n f))
    (A : Option Addr) (m cap : Nat) (g : Nat → Nat) (hx : a.eval x = .slice A m cap) (hA : SlB w A m g) (hnil : A = none → m = 0 ∧ cap = 0) (hn : n + m ≤ 140737488355328) (hbase : base ≤ w.heap.size)
    (h : ∀ v' w', w'.ownsRow base 5 1 v' (n + m) (bytesL (n + m) (catB n f g)) → Below base w w' → wpList Try.prog ops Q rest (a.put o.dst v') w') : wpList Try.prog ops Q (o :: rest) a w := by
  obtain ⟨i, hi, hz, hsz, hb⟩ := info_parts info8
  cases A with
  | none =>
    obtain ⟨rfl, rfl⟩ := hnil rfl
    refine wpList_append_own_none hgd s x 55 ho base 5 i 1 Try.underlying55 hi v n _ hs hown hx ?_
    refine h v w ?_ (Below.refl _ _)
    have := bytesL_cat n 0 f g
    rw [show bytesL 0 g = [] from rfl, List.append_nil] at this
    rw [← this]
    exact hown
  | some ad =>
    refine wpList_append_own w hgd s x 55 ho base 5 i (.int .u8 0) 1 1 Try.underlying55 hi hz hsz hb rfl (by decide) v n _ hs hown ad m cap (bytesL m g) hx (by simp [bytesL]) ?_ ?_ (by unfold maxLen; omega) (by omega) hbase ?_
    · intro j u hj
      obtain ⟨hjm, rfl⟩ := bytesL_get m g j u hj
      obtain ⟨B, off, e, _, hc⟩ := hA (by omega)
      obtain rfl : ad = ⟨B, off, none⟩ := Option.some.inj e
      rw [Go.WideShapes.add_plain]
      exact (hc j hjm).2
    · intro u hu
      obtain ⟨j, hj⟩ := List.getElem?_of_mem hu
      obtain ⟨_, rfl⟩ := bytesL_get m g j u hj
      rfl
    · intro v' w' h1 h2 _
      rw [bytesL_cat] at h1
      exact h v' w' h1 ((Below.refl base w).grown h2 hbase fun k hk => (hown.lt k hk).1)

theorem bytesL_first (n : Nat) (f g : Nat → Nat) : bytesL (0 + n) (catB 0 f g) = bytesL n g := by
  rw [Nat.zero_add]
  unfold bytesL
  apply List.map_congr_left
  intro j _
  rw [catB, if_neg (by omega), Nat.sub_zero]
/-- []byte{} -/
theorem own_empty (w : World) : (w.alloc (.cells #[] 5)).ownsRow w.heap.size 5 1 (.slice (some ⟨w.heap.size, 0, none⟩) 0 0) 0 (bytesL 0 (fun _ => 0)) :=
  World.ownsRow_made w #[] 0 (Nat.le_refl _) (by unfold maxLen; omega) rfl
/-- an owned row of bytes, as a slice that came in -/
theorem own_slB {w : World} {base : Nat} {v : Value} {n : Nat} {f : Nat → Nat} (h : w.ownsRow base 5 1 v n (bytesL n f)) (hf : ∀ j, j < n → f j < 256) : ∃ A c, v = .slice A n c ∧ SlB w A n f := by
  rcases h.2 with ⟨rfl, hx⟩ | ⟨g, cap, cur, rfl, hg, hh, r⟩
  · subst hx
    exact ⟨none, 0, rfl, SlB.nil _ _⟩
  · refine ⟨some ⟨g, 0, none⟩, cap, rfl, fun hn => ⟨g, 0, rfl, ?_, fun j hj => ⟨hf j hj, ?_⟩⟩⟩
    · obtain ⟨hlt, _⟩ := Array.getElem?_eq_some_iff.1 hh
      exact hlt
    · rw [Nat.zero_add, h.cellAt j (by omega)]
      unfold bytesL
      rw [List.getElem?_map, List.getElem?_range hj]; rfl

open Go.ChangeShapes Go.WideShapes Go.ChangeAt in
/-- a []byte parameter, opened -/
theorem open_bytes {H : Type} {enc : TypeId × Value → H} {W : World} {base : Nat} {v : Value} {d : DataW H} {p : List MemPlace}
    (hval : Value.okWide Try.prog W .any base 55 v) (h : DataW.Trod enc Try.prog W 0 (fun _ => true) true 55 v d p) :
    ∃ A n c bs, v = .slice A n c ∧ SlB W A n bs ∧ (n ≤ c ∧ (A = none → n = 0 ∧ c = 0) ∧ ∃ els sp, (d = .slice els sp ∧ els.length + sp.length = c) ∨ (d = .nil ∧ c = 0)) := by
  obtain ⟨a0, len, cap, rfl⟩ := okWide_slice Try.underlying55 hval
  obtain ⟨fuel, hf⟩ := h
  rcases open_ints Try.underlying55 Try.underlying5 (show Try.prog.cellsOf 5 = 1 by kernel_rfl) hf with ⟨hcs, hx⟩ | ⟨a, len', cap', zs, hcs, _, hl, hm, hz, hx, hcell, hwz⟩
  · simp only [Value.cells] at hcs
    injection hcs with hcs
    injection hcs with h1 h2 h3
    subst h1 h2 h3
    injection hx with hd _
    exact ⟨none, 0, 0, fun _ => 0, rfl, SlB.nil _ _, Nat.le_refl _, fun _ => ⟨rfl, rfl⟩, [], [], Or.inr ⟨hd, rfl⟩⟩
  · simp only [Value.cells] at hcs
    injection hcs with hcs
    injection hcs with h1 h2 h3
    subst h1 h2 h3
    injection hx with hd _
    have hz' : zs.length = cap := by simpa using hz
    have hsl : SlB W (some a) len (fun j => (zs.getD j 0).toNat) := by
      intro hn
      obtain ⟨b, off, rfl, hc⟩ := ints_at hcell (by omega)
      have hb0 : b < W.heap.size := block_lt (hc 0 (by omega))
      refine ⟨b, off, rfl, hb0, fun j hj => ?_⟩
      have hr := range_u8 hwz j
      rw [← List.getD_eq_getElem?_getD] at hr
      refine ⟨by show (zs.getD j 0).toNat < 256; omega, ?_⟩
      show _ = some (Value.int .u8 ((zs.getD j 0).toNat : Nat))
      rw [hc j (by omega), Int.toNat_of_nonneg hr.1]
    exact ⟨some a, len, cap, _, rfl, hsl, hl, (fun h => by cases h), lits .u8 (zs.take len), lits .u8 (zs.drop len), Or.inl ⟨hd, by simp [lits]; omega⟩⟩
/-- how long a []byte parameter is at most -/
theorem slice_len {H : Type} {ts : List TypeId} {ds : List (DataW H)} (h : (DataW.weightsEach Try.prog ts ds).all (· ≤ reachBytes) = true) {j : Nat} {d : DataW H} (ht : ts[j]? = some 55) (hd : ds[j]? = some d)
    {n c : Nat} {X : Prop} (z : n ≤ c ∧ X ∧ ∃ els sp, (d = .slice els sp ∧ els.length + sp.length = c) ∨ (d = .nil ∧ c = 0)) : n ≤ 140737488351232 := by
  obtain ⟨h1, _, els, sp, h2⟩ := z
  rcases h2 with ⟨rfl, h2⟩ | ⟨_, h2⟩
  · have h3 := sized_slice h ht hd Try.underlying55
    rw [show Try.prog.bytesOf 5 = 1 by kernel_rfl, Nat.mul_one] at h3
    have : reachBytes = 140737488351232 := rfl
    omega
  · omega
end Go.Proofs.Ytcohkhjfncknpaa
