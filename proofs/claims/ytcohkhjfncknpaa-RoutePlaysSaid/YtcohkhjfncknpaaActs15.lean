/- A []Act parameter, opened (layer 14). -/
import Derived.Test.YtcohkhjfncknpaaAppB
import Derived.Deep.Slices
namespace Go.Proofs.Ytcohkhjfncknpaa
set_option maxRecDepth 100000
open Go.RowKit Go.ChangeShapes Go.WideShapes Go.ChangeAt
/-- acts that came in: what to do, a number, a text each -/
def ActsIn (w : World) (A : Option Addr) (L : Nat) (D M : Nat → Int) (T : Nat → ByteArray) : Prop :=
  0 < L → ∃ B o, A = some ⟨B, o, none⟩ ∧ B < w.heap.size ∧ ∀ j, j < L → w.cell? ⟨B, o + j * 3, none⟩ = some (.int .i64 (D j)) ∧ w.cell? ⟨B, o + j * 3 + 1, none⟩ = some (.int .i64 (M j)) ∧ w.cell? ⟨B, o + j * 3 + 2, none⟩ = some (.string (T j))
theorem ActsIn.keep {w w' : World} {A : Option Addr} {L : Nat} {D M : Nat → Int} {T : Nat → ByteArray} {base : Nat} (h : ActsIn w A L D M T) (hb : Below base w w') (hw : w.heap.size ≤ base) : ActsIn w' A L D M T := fun hL => by
  obtain ⟨B, o, hA, hB, hs⟩ := h hL
  have e := hb.block B (by omega)
  exact ⟨B, o, hA, Nat.lt_of_lt_of_le hB hb.size, fun j hj => ⟨(World.cell?_of_block e).trans (hs j hj).1, (World.cell?_of_block e).trans (hs j hj).2.1, (World.cell?_of_block e).trans (hs j hj).2.2⟩⟩
theorem act_cells {H : Type} {enc : TypeId × Value → H} {W : World} {base n : Nat} {spare : Nat → Bool} {held : Bool} {cs : List Value} {x : DataW H × List MemPlace} (h : DataW.trod enc Try.prog W base spare held n 29 cs = some x) :
    ∃ d m s, cs = [.int .i64 d, .int .i64 m, .string s] ∧ s.size ≤ maxLen := by
  obtain ⟨xs, k, _, _, hlen, hxl, hf⟩ := DataW.trod_struct Try.underlying29 h
  rw [show Try.prog.cellsOf 29 = 3 by kernel_rfl] at hlen
  have i1 : Try.prog.cellsOf 3 = 1 := by kernel_rfl
  have i2 : Try.prog.cellsOf 9 = 1 := by kernel_rfl
  match cs, hlen with
  | [c0, c1, c2], _ =>
    match xs, hxl with
    | [y0, y1, y2], _ =>
      have h0 : DataW.trod enc Try.prog W base spare held k 3 [c0] = some y0 := by
        have h := hf 0 _ rfl
        change DataW.trod enc Try.prog W base spare held k 3 (([c0, c1, c2].drop 0).take (Try.prog.cellsOf 3)) = some y0 at h
        rw [i1] at h
        exact h
      have h1 : DataW.trod enc Try.prog W base spare held k 3 [c1] = some y1 := by
        have h := hf 1 _ rfl
        change DataW.trod enc Try.prog W base spare held k 3 (([c0, c1, c2].drop 1).take (Try.prog.cellsOf 3)) = some y1 at h
        rw [i1] at h
        exact h
      have h2 : DataW.trod enc Try.prog W base spare held k 9 [c2] = some y2 := by
        have h := hf 2 _ rfl
        change DataW.trod enc Try.prog W base spare held k 9 (([c0, c1, c2].drop 2).take (Try.prog.cellsOf 9)) = some y2 at h
        rw [i2] at h
        exact h
      obtain ⟨d, e0, _⟩ := DataW.trod_int Try.underlying3 h0
      obtain ⟨m, e1, _⟩ := DataW.trod_int Try.underlying3 h1
      obtain ⟨s, e2, _, hs⟩ := DataW.trod_string Try.underlying9 h2
      simp only [List.cons.injEq, and_true] at e0 e1 e2
      exact ⟨d, m, s, by rw [e0, e1, e2], hs⟩
theorem open_acts {H : Type} {enc : TypeId × Value → H} {W : World} {base : Nat} {v : Value} {d : DataW H} {p : List MemPlace}
    (hval : Value.okWide Try.prog W .any base 22 v) (h : DataW.Trod enc Try.prog W 0 (fun _ => true) true 22 v d p) :
    ∃ A n c D M T, v = .slice A n c ∧ ActsIn W A n D M T ∧ (∀ j, j < n → (T j).size ≤ maxLen) ∧ (n ≤ c ∧ (A = none → n = 0 ∧ c = 0) ∧ ∃ els sp, (d = .slice els sp ∧ els.length + sp.length = c) ∨ (d = .nil ∧ c = 0)) := by
  obtain ⟨a0, len, cap, rfl⟩ := okWide_slice Try.underlying22 hval
  obtain ⟨fuel, hf⟩ := h
  rcases Deep.open_slice Try.underlying22 hf with ⟨hcs, hx⟩ | ⟨a, len', cap', m, k, DD, Pl, hcs, _, hl, hm, hmm, hx, hi⟩
  · simp only [Value.cells] at hcs
    injection hcs with hcs
    injection hcs with h1 h2 h3
    subst h1 h2 h3
    injection hx with hd _
    exact ⟨none, 0, 0, fun _ => 0, fun _ => 0, fun _ => ByteArray.empty, rfl, fun h => absurd h (Nat.lt_irrefl 0), fun j hj => absurd hj (Nat.not_lt_zero j), Nat.le_refl _, fun _ => ⟨rfl, rfl⟩, [], [], Or.inr ⟨hd, rfl⟩⟩
  · simp only [Value.cells] at hcs
    injection hcs with hcs
    injection hcs with h1 h2 h3
    subst h1 h2 h3
    injection hx with hd _
    have hmc : m = cap := by simpa using hmm
    have key : ∀ i, ∃ d e s, i < m → W.cell? (a.add (i * 3)) = some (.int .i64 d) ∧ W.cell? ((a.add (i * 3)).add 1) = some (.int .i64 e) ∧ W.cell? ((a.add (i * 3)).add 2) = some (.string s) ∧ s.size ≤ maxLen := fun i => by
      by_cases hlt : i < m
      · obtain ⟨cs', hc, ht'⟩ := hi i hlt
        rw [show Try.prog.cellsOf 29 = 3 by kernel_rfl] at hc
        obtain ⟨d, e, s, rfl, hs⟩ := act_cells ht'
        obtain ⟨_, _, hat⟩ := World.cells?_some hc
        have h0 := hat 0 (by decide)
        have h1 := hat 1 (by decide)
        have h2 := hat 2 (by decide)
        refine ⟨d, e, s, fun _ => ⟨?_, h1, h2, hs⟩⟩
        have e0 : (a.add (i * 3)).add 0 = a.add (i * 3) := by simp [Addr.add]
        rw [e0] at h0
        exact h0
      · exact ⟨0, 0, ByteArray.empty, fun h => absurd h hlt⟩
    obtain ⟨D, hD⟩ := Classical.axiomOfChoice key
    obtain ⟨M, hM⟩ := Classical.axiomOfChoice hD
    obtain ⟨T, hT⟩ := Classical.axiomOfChoice hM
    refine ⟨some a, len, cap, D, M, T, rfl, fun hn => ?_, fun j hj => (hT j (by omega)).2.2.2, hl, (fun h => by cases h), _, _, Or.inl ⟨hd, by simp; omega⟩⟩
    obtain ⟨b, off, spot⟩ := a
    have hspot : spot = none := by
      have := (hT 0 (by omega)).1
      simpa [Addr.add] using World.cell?_spot this
    subst hspot
    have ad : ∀ (q k : Nat), (Addr.mk b q none).add k = ⟨b, q + k, none⟩ := fun q k => Go.WideShapes.add_plain _ _ _
    refine ⟨b, off, rfl, ?_, fun j hj => ?_⟩
    · have := (hT 0 (by omega)).1
      rw [ad] at this
      exact block_lt this
    · have := hT j (by omega)
      rw [ad, ad, ad] at this
      exact ⟨this.1, this.2.1, this.2.2.1⟩
/-- how many acts there are at most -/
theorem acts_len {H : Type} {ts : List TypeId} {ds : List (DataW H)} (h : (DataW.weightsEach Try.prog ts ds).all (· ≤ reachBytes) = true) {j : Nat} {d : DataW H} (ht : ts[j]? = some 22) (hd : ds[j]? = some d)
    {n c : Nat} {X : Prop} (z : n ≤ c ∧ X ∧ ∃ els sp, (d = .slice els sp ∧ els.length + sp.length = c) ∨ (d = .nil ∧ c = 0)) : n ≤ 140737488351232 := by
  obtain ⟨h1, _, els, sp, h2⟩ := z
  rcases h2 with ⟨rfl, h2⟩ | ⟨_, h2⟩
  · have h3 := sized_slice h ht hd Try.underlying22
    rw [show Try.prog.bytesOf 29 = 32 by kernel_rfl] at h3
    have : reachBytes = 140737488351232 := rfl
    omega
  · omega
end Go.Proofs.Ytcohkhjfncknpaa
