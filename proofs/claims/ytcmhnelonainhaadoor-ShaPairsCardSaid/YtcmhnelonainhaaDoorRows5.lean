/- Rows of bytes that came in, and a row that grows beside a block that changes (layer 5). -/
import Derived.Test.YtcmhnelonainhaaDoorLaw05e
import Derived.Deep.Matrix
namespace Go.Proofs.YtcmhnelonainhaaDoor
open Go.RowKit
/-- a row of rows of bytes that came in -/
def RowsIn (w : World) (AB : Option Addr) (nb : Nat) : Prop :=
  0 < nb → ∃ B o, AB = some ⟨B, o, none⟩ ∧ B < w.heap.size ∧ ∀ j, j < nb → ∃ (R : Option Addr) (l c : Nat) (f : Nat → Nat), w.cell? ⟨B, o + j, none⟩ = some (.slice R l c) ∧ SlB w R l f ∧ l ≤ c ∧ (R = none → l = 0 ∧ c = 0)
open Go.ChangeShapes Go.WideShapes Go.ChangeAt in
/-- a [][]byte parameter, opened -/
theorem open_rows {H : Type} {enc : TypeId × Value → H} {W : World} {base : Nat} {v : Value} {d : DataW H} {p : List MemPlace}
    (hval : Value.okWide Tryd.prog W .any base 28 v) (h : DataW.Trod enc Tryd.prog W 0 (fun _ => true) true 28 v d p) :
    ∃ A n c, v = .slice A n c ∧ RowsIn W A n ∧ (n ≤ c ∧ ∃ els sp, (d = .slice els sp ∧ els.length + sp.length = c) ∨ (d = .nil ∧ c = 0)) := by
  obtain ⟨a0, len, cap, rfl⟩ := okWide_slice Tryd.underlying28 hval
  obtain ⟨fuel, hf⟩ := h
  rcases Deep.open_int_rows Tryd.underlying28 Tryd.underlying22 Tryd.underlying5 (show Tryd.prog.cellsOf 22 = 1 by kernel_rfl) (show Tryd.prog.cellsOf 5 = 1 by kernel_rfl) hf with ⟨hcs, hx⟩ | ⟨a, len', cap', Ar, L, C, Z, hcs, _, hl, hm, hx, hr⟩
  · simp only [Value.cells] at hcs
    injection hcs with hcs
    injection hcs with h1 h2 h3
    subst h1 h2 h3
    injection hx with hd _
    exact ⟨none, 0, 0, rfl, fun h => absurd h (Nat.lt_irrefl 0), Nat.le_refl _, [], [], Or.inr ⟨hd, rfl⟩⟩
  · simp only [Value.cells] at hcs
    injection hcs with hcs
    injection hcs with h1 h2 h3
    subst h1 h2 h3
    injection hx with hd _
    refine ⟨some a, len, cap, rfl, fun hn => ?_, hl, _, _, Or.inl ⟨hd, by simp; omega⟩⟩
    obtain ⟨b, off, spot⟩ := a
    have hspot : spot = none := by simpa [Addr.add] using World.cell?_spot (hr 0 (by omega)).1
    subst hspot
    have hb0 := block_lt (hr 0 (by omega)).1
    refine ⟨b, off, rfl, hb0, fun j hj => ?_⟩
    obtain ⟨k1, k2, k3, k4, k5, k6, k7⟩ := hr j (by omega)
    have hml : maxLen = 9223372036854775807 := by decide
    have k1' : W.cell? ⟨b, off + j, none⟩ = some (.slice (Ar j) (L j) (C j)) := by
      by_cases h0 : j = 0
      · subst h0; simpa [Addr.add] using k1
      · simpa [Addr.add, h0] using k1
    refine ⟨Ar j, L j, C j, fun i => ((Z j).getD i 0).toNat, k1', fun hn2 => ?_, k2, fun h => ⟨by have := k6 h; omega, k6 h⟩⟩
    cases hA : Ar j with
    | none => have := k6 hA; omega
    | some a' =>
      obtain ⟨b2, off2, rfl, hc⟩ := ints_at (fun i hi => (k7 a' hA).2 i (by omega)) (by omega)
      refine ⟨b2, off2, rfl, block_lt (hc 0 (by omega)), fun i hi => ?_⟩
      have hr := range_u8 k5 i
      rw [← List.getD_eq_getElem?_getD] at hr
      refine ⟨by show ((Z j).getD i 0).toNat < 256; omega, ?_⟩
      show _ = some (Value.int .u8 (((Z j).getD i 0).toNat : Nat))
      rw [hc i (by omega), Int.toNat_of_nonneg hr.1]
open Go.ChangeShapes Go.WideShapes Go.ChangeAt in
theorem rows_len {H : Type} {ts : List TypeId} {ds : List (DataW H)} (h : (DataW.weightsEach Tryd.prog ts ds).all (· ≤ reachBytes) = true) {j : Nat} {d : DataW H} (ht : ts[j]? = some 28) (hd : ds[j]? = some d)
    {n c : Nat} (z : n ≤ c ∧ ∃ els sp, (d = .slice els sp ∧ els.length + sp.length = c) ∨ (d = .nil ∧ c = 0)) : n ≤ 140737488351232 := by
  obtain ⟨h1, els, sp, h2⟩ := z
  rcases h2 with ⟨rfl, h2⟩ | ⟨_, h2⟩
  · have h3 := sized_slice h ht hd Tryd.underlying28
    rw [show Tryd.prog.bytesOf 22 = 24 by kernel_rfl] at h3
    have : reachBytes = 140737488351232 := rfl
    omega
  · omega
theorem OwnB.chg {w w' : World} {base n K : Nat} {v : Value} {f : Nat → Nat} (h : OwnB w base v n f) (hc : Chg K w w') (hK : K < base) : OwnB w' base v n f := by
  rcases h with ⟨h1, h2 | ⟨g, cap, cur, e, hg, hh, r⟩⟩
  · exact ⟨h1, Or.inl h2⟩
  · exact ⟨h1, Or.inr ⟨g, cap, cur, e, hg, (hc.block g (Array.getElem?_eq_some_iff.1 hh).1 (by omega)).trans hh, r⟩⟩
end Go.Proofs.YtcmhnelonainhaaDoor
