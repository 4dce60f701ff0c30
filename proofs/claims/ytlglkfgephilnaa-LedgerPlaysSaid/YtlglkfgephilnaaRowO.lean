/- A slice of structs that came in as a parameter, opened: whatever its elements are. -/
import Derived.Test.YtlglkfgephilnaaRowS
import Derived.Test.YtlglkfgephilnaaKit
import Derived.Deep.Slices
import Derived.SizedLaws
namespace Go.Proofs.Ytlglkfgephilnaa
set_option maxRecDepth 100000
open Go.RowKit Go.ChangeShapes Go.WideShapes Go.ChangeAt
theorem open_row {α : Type} {E : Enc α} {Pa : α → Prop} {P : Program} {S T : TypeId} (hS : P.underlying S = some (.slice T)) (hc : P.cellsOf T = E.k) (a1 : α)
    {H : Type} {enc : TypeId × Value → H} {W : World} {base : Nat} {v : Value} {d : DataW H} {p : List MemPlace}
    (dec : ∀ {n : Nat} {cs : List Value} {x : DataW H × List MemPlace}, DataW.trod enc P W 0 (fun _ => true) true n T cs = some x → ∃ a, cs = E.e a ∧ Pa a)
    (hval : Value.okWide P W .any base S v) (h : DataW.Trod enc P W 0 (fun _ => true) true S v d p) :
    ∃ A c F, v = .slice A F.length c ∧ LiS E W A F ∧ (∀ x ∈ F, Pa x) ∧ (F.length ≤ c ∧ (A = none → F.length = 0 ∧ c = 0) ∧ ∃ els sp, (d = .slice els sp ∧ els.length + sp.length = c) ∨ (d = .nil ∧ c = 0)) := by
  obtain ⟨a0, len, cap, rfl⟩ := okWide_slice hS hval
  obtain ⟨fuel, hf⟩ := h
  rcases Deep.open_slice hS hf with ⟨hcs, hx⟩ | ⟨a, len', cap', m, k, DD, Pl, hcs, _, hl, hm, hmm, hx, hi⟩
  · simp only [Value.cells] at hcs
    injection hcs with hcs
    injection hcs with h1 h2 h3
    subst h1 h2 h3
    injection hx with hd _
    exact ⟨none, 0, [], rfl, fun h => absurd h (Nat.lt_irrefl 0), fun x hx => (by cases hx), Nat.le_refl _, fun _ => ⟨rfl, rfl⟩, [], [], Or.inr ⟨hd, rfl⟩⟩
  · simp only [Value.cells] at hcs
    injection hcs with hcs
    injection hcs with h1 h2 h3
    subst h1 h2 h3
    injection hx with hd _
    have hmc : m = cap := by simpa using hmm
    have key : ∀ i, ∃ x : α, i < m → (∀ q u, (E.e x)[q]? = some u → W.cell? ((a.add (i * E.k)).add q) = some u) ∧ Pa x := fun i => by
      by_cases hlt : i < m
      · obtain ⟨cs', hc1, ht'⟩ := hi i hlt
        rw [hc] at hc1
        obtain ⟨x, rfl, hp⟩ := dec ht'
        obtain ⟨_, hlen, hat⟩ := World.cells?_some hc1
        exact ⟨x, fun _ => ⟨fun q u hq => by
          have hq1 := (List.getElem?_eq_some_iff.1 hq).1
          rw [E.len] at hq1
          exact (hat q hq1).trans hq, hp⟩⟩
      · exact ⟨a1, fun h => absurd h hlt⟩
    obtain ⟨X, hX⟩ := Classical.axiomOfChoice key
    have hlF : ((List.range len).map X).length = len := by simp
    refine ⟨some a, cap, (List.range len).map X, by rw [hlF], fun hn => ?_, fun x hx => ?_, by rw [hlF]; exact hl, (fun h => by cases h), _, _, Or.inl ⟨hd, by simp; omega⟩⟩
    · rw [hlF] at hn
      obtain ⟨b, off, spot⟩ := a
      have h00 : ∃ u, (E.e (X 0))[0]? = some u := ⟨_, List.getElem?_eq_getElem (by rw [E.len]; exact E.pos)⟩
      obtain ⟨u0, h00⟩ := h00
      have hc0 := (hX 0 (by omega)).1 0 u0 h00
      have hspot : spot = none := by simpa [Addr.add] using World.cell?_spot hc0
      subst hspot
      have ad : ∀ (q k : Nat), (Addr.mk b q none).add k = ⟨b, q + k, none⟩ := fun q k => Go.WideShapes.add_plain _ _ _
      refine ⟨b, off, rfl, ?_, fun q u hq => ?_⟩
      · rw [ad, ad] at hc0
        exact block_lt hc0
      · have hk := E.pos
        have hql : q < len * E.k := by
          have := (List.getElem?_eq_some_iff.1 hq).1
          rwa [Enc.fl_len, hlF] at this
        have hd : q / E.k < len := by rw [Nat.div_lt_iff_lt_mul hk]; exact hql
        have hm' : q % E.k < E.k := Nat.mod_lt _ hk
        have hx : ((List.range len).map X)[q / E.k]? = some (X (q / E.k)) := by rw [List.getElem?_map, List.getElem?_range hd]; rfl
        have e1 := Enc.fl_get (E := E) hx hm'
        rw [show q / E.k * E.k + q % E.k = q by rw [Nat.mul_comm]; exact Nat.div_add_mod _ _, hq] at e1
        have h5 := (hX (q / E.k) (by omega)).1 (q % E.k) u e1.symm
        rw [ad, ad, Nat.add_assoc, show q / E.k * E.k + q % E.k = q by rw [Nat.mul_comm]; exact Nat.div_add_mod _ _] at h5
        exact h5
    · obtain ⟨i, hi2, rfl⟩ := List.mem_map.1 hx
      exact (hX i (by have := List.mem_range.1 hi2; omega)).2
/-- how many elements there are at most: b their bytes -/
theorem row_len {P : Program} {S T : TypeId} (hS : P.underlying S = some (.slice T)) (b : Nat) (hb : P.bytesOf T = b + 1) {H : Type} {ts : List TypeId} {ds : List (DataW H)} (h : (DataW.weightsEach P ts ds).all (· ≤ reachBytes) = true) {j : Nat} {d : DataW H} (ht : ts[j]? = some S) (hd : ds[j]? = some d)
    {n c : Nat} {X : Prop} (z : n ≤ c ∧ X ∧ ∃ els sp, (d = .slice els sp ∧ els.length + sp.length = c) ∨ (d = .nil ∧ c = 0)) : n ≤ 140737488351232 := by
  obtain ⟨h1, _, els, sp, h2⟩ := z
  rcases h2 with ⟨rfl, h2⟩ | ⟨_, h2⟩
  · have h3 := sized_slice h ht hd hS
    rw [hb, Nat.mul_succ] at h3
    have : reachBytes = 140737488351232 := rfl
    have : 0 ≤ (els.length + sp.length) * b := Nat.zero_le _
    omega
  · omega
end Go.Proofs.Ytlglkfgephilnaa
