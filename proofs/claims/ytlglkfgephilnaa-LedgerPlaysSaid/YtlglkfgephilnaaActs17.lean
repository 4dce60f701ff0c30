/- Layer 17: acts and posts that came in. Written by specs/mkacts17.py. -/
import Derived.Test.YtlglkfgephilnaaRowO
import Derived.Test.YtlglkfgephilnaaLed17
namespace Go.Proofs.Ytlglkfgephilnaa
set_option maxRecDepth 100000
open Go.RowKit Go.ChangeShapes Go.WideShapes Go.ChangeAt
/-- an act's cells -/
def apEnc : Enc Ap where
  e := fun x => apL x
  k := 4
  pos := by decide
  len := fun _ => rfl
  one := fun x v hv => by
    simp only [apL, List.mem_cons, List.not_mem_nil, or_false] at hv
    rcases hv with rfl | rfl | rfl | rfl <;> rfl
theorem po_dec {H : Type} {enc : TypeId × Value → H} {W : World} {base n : Nat} {spare : Nat → Bool} {held : Bool} {cs : List Value} {x : DataW H × List MemPlace} (h : DataW.trod enc Try.prog W base spare held n 31 cs = some x) :
    ∃ p : Po, cs = poE.e p ∧ p.k.size ≤ maxLen ∧ p.t.size ≤ maxLen := by
  obtain ⟨xs, k, _, _, hlen, hxl, hf⟩ := DataW.trod_struct Try.underlying31 h
  rw [show Try.prog.cellsOf 31 = 4 by kernel_rfl] at hlen
  have i1 : Try.prog.cellsOf 3 = 1 := by kernel_rfl
  have i2 : Try.prog.cellsOf 9 = 1 := by kernel_rfl
  match cs, hlen with
  | [c0, c1, c2, c3], _ =>
    match xs, hxl with
    | [y0, y1, y2, y3], _ =>
      have h0 : DataW.trod enc Try.prog W base spare held k 9 [c0] = some y0 := by
        have h := hf 0 _ rfl
        change DataW.trod enc Try.prog W base spare held k 9 (([c0, c1, c2, c3].drop 0).take (Try.prog.cellsOf 9)) = some y0 at h
        rw [i2] at h
        exact h
      have h1 : DataW.trod enc Try.prog W base spare held k 3 [c1] = some y1 := by
        have h := hf 1 _ rfl
        change DataW.trod enc Try.prog W base spare held k 3 (([c0, c1, c2, c3].drop 1).take (Try.prog.cellsOf 3)) = some y1 at h
        rw [i1] at h
        exact h
      have h2 : DataW.trod enc Try.prog W base spare held k 3 [c2] = some y2 := by
        have h := hf 2 _ rfl
        change DataW.trod enc Try.prog W base spare held k 3 (([c0, c1, c2, c3].drop 2).take (Try.prog.cellsOf 3)) = some y2 at h
        rw [i1] at h
        exact h
      have h3 : DataW.trod enc Try.prog W base spare held k 9 [c3] = some y3 := by
        have h := hf 3 _ rfl
        change DataW.trod enc Try.prog W base spare held k 9 (([c0, c1, c2, c3].drop 3).take (Try.prog.cellsOf 9)) = some y3 at h
        rw [i2] at h
        exact h
      obtain ⟨v0, e0, _, s0⟩ := DataW.trod_string Try.underlying9 h0
      obtain ⟨v1, e1, _⟩ := DataW.trod_int Try.underlying3 h1
      obtain ⟨v2, e2, _⟩ := DataW.trod_int Try.underlying3 h2
      obtain ⟨v3, e3, _, s3⟩ := DataW.trod_string Try.underlying9 h3
      simp only [List.cons.injEq, and_true] at e0 e1 e2 e3
      exact ⟨⟨v0, v1, v2, v3⟩, by rw [e0, e1, e2, e3]; rfl, s0, s3⟩
theorem ap_dec {H : Type} {enc : TypeId × Value → H} {W : World} {base n : Nat} {spare : Nat → Bool} {held : Bool} {cs : List Value} {x : DataW H × List MemPlace} (h : DataW.trod enc Try.prog W base spare held n 38 cs = some x) :
    ∃ x : Ap, cs = apEnc.e x ∧ x.k.size ≤ maxLen ∧ x.t.size ≤ maxLen := by
  obtain ⟨xs, k, _, _, hlen, hxl, hf⟩ := DataW.trod_struct Try.underlying38 h
  rw [show Try.prog.cellsOf 38 = 4 by kernel_rfl] at hlen
  have i1 : Try.prog.cellsOf 3 = 1 := by kernel_rfl
  have i2 : Try.prog.cellsOf 9 = 1 := by kernel_rfl
  match cs, hlen with
  | [c0, c1, c2, c3], _ =>
    match xs, hxl with
    | [y0, y1, y2, y3], _ =>
      have h0 : DataW.trod enc Try.prog W base spare held k 3 [c0] = some y0 := by
        have h := hf 0 _ rfl
        change DataW.trod enc Try.prog W base spare held k 3 (([c0, c1, c2, c3].drop 0).take (Try.prog.cellsOf 3)) = some y0 at h
        rw [i1] at h
        exact h
      have h1 : DataW.trod enc Try.prog W base spare held k 9 [c1] = some y1 := by
        have h := hf 1 _ rfl
        change DataW.trod enc Try.prog W base spare held k 9 (([c0, c1, c2, c3].drop 1).take (Try.prog.cellsOf 9)) = some y1 at h
        rw [i2] at h
        exact h
      have h2 : DataW.trod enc Try.prog W base spare held k 9 [c2] = some y2 := by
        have h := hf 2 _ rfl
        change DataW.trod enc Try.prog W base spare held k 9 (([c0, c1, c2, c3].drop 2).take (Try.prog.cellsOf 9)) = some y2 at h
        rw [i2] at h
        exact h
      have h3 : DataW.trod enc Try.prog W base spare held k 3 [c3] = some y3 := by
        have h := hf 3 _ rfl
        change DataW.trod enc Try.prog W base spare held k 3 (([c0, c1, c2, c3].drop 3).take (Try.prog.cellsOf 3)) = some y3 at h
        rw [i1] at h
        exact h
      obtain ⟨v0, e0, _⟩ := DataW.trod_int Try.underlying3 h0
      obtain ⟨v1, e1, _, s1⟩ := DataW.trod_string Try.underlying9 h1
      obtain ⟨v2, e2, _, s2⟩ := DataW.trod_string Try.underlying9 h2
      obtain ⟨v3, e3, _⟩ := DataW.trod_int Try.underlying3 h3
      simp only [List.cons.injEq, and_true] at e0 e1 e2 e3
      exact ⟨⟨v0, v1, v2, v3⟩, by rw [e0, e1, e2, e3]; rfl, s1, s2⟩
theorem open_acts17 {H : Type} {enc : TypeId × Value → H} {W : World} {base : Nat} {v : Value} {d : DataW H} {p : List MemPlace}
    (hval : Value.okWide Try.prog W .any base 23 v) (h : DataW.Trod enc Try.prog W 0 (fun _ => true) true 23 v d p) :
    ∃ A c F, v = .slice A F.length c ∧ LiS apEnc W A F ∧ (∀ x ∈ F, x.k.size ≤ maxLen ∧ x.t.size ≤ maxLen) ∧ (F.length ≤ c ∧ (A = none → F.length = 0 ∧ c = 0) ∧ ∃ els sp, (d = .slice els sp ∧ els.length + sp.length = c) ∨ (d = .nil ∧ c = 0)) :=
  open_row (Pa := fun x : Ap => x.k.size ≤ maxLen ∧ x.t.size ≤ maxLen) Try.underlying23 (by kernel_rfl) ⟨0, ⟨#[]⟩, ⟨#[]⟩, 0⟩ (fun h => ap_dec h) hval h
theorem open_posts {H : Type} {enc : TypeId × Value → H} {W : World} {base : Nat} {v : Value} {d : DataW H} {p : List MemPlace}
    (hval : Value.okWide Try.prog W .any base 22 v) (h : DataW.Trod enc Try.prog W 0 (fun _ => true) true 22 v d p) :
    ∃ A c F, v = .slice A F.length c ∧ LiS poE W A F ∧ (∀ x ∈ F, x.k.size ≤ maxLen ∧ x.t.size ≤ maxLen) ∧ (F.length ≤ c ∧ (A = none → F.length = 0 ∧ c = 0) ∧ ∃ els sp, (d = .slice els sp ∧ els.length + sp.length = c) ∨ (d = .nil ∧ c = 0)) :=
  open_row (Pa := fun x : Po => x.k.size ≤ maxLen ∧ x.t.size ≤ maxLen) Try.underlying22 (by kernel_rfl) ⟨⟨#[]⟩, 0, 0, ⟨#[]⟩⟩ (fun h => po_dec h) hval h
/-- how many posts there are at most -/
theorem posts_len48 {H : Type} {ts : List TypeId} {ds : List (DataW H)} (h : (DataW.weightsEach Try.prog ts ds).all (· ≤ reachBytes) = true) {j : Nat} {d : DataW H} (ht : ts[j]? = some 22) (hd : ds[j]? = some d)
    {n c : Nat} {X : Prop} (z : n ≤ c ∧ X ∧ ∃ els sp, (d = .slice els sp ∧ els.length + sp.length = c) ∨ (d = .nil ∧ c = 0)) : n * 48 ≤ 140737488351232 := by
  obtain ⟨h1, _, els, sp, h2⟩ := z
  rcases h2 with ⟨rfl, h2⟩ | ⟨_, h2⟩
  · have h3 := sized_slice h ht hd Try.underlying22
    rw [show Try.prog.bytesOf 31 = 48 by kernel_rfl] at h3
    have : reachBytes = 140737488351232 := rfl
    omega
  · omega
/-- an act's cells in a row -/
theorem ap_at {w : World} {A : Option Addr} {F : List Ap} (h : LiS apEnc w A F) {j : Nat} (hj : j < F.length) : ∃ B o, A = some ⟨B, o, none⟩ ∧ B < w.heap.size ∧ w.cell? ⟨B, o + j * 4, none⟩ = some (.int .i64 F[j].d) ∧ w.cell? ⟨B, o + j * 4 + 1, none⟩ = some (.string F[j].k) ∧
    w.cell? ⟨B, o + j * 4 + 2, none⟩ = some (.string F[j].t) ∧ w.cell? ⟨B, o + j * 4 + 3, none⟩ = some (.int .i64 F[j].a) := by
  obtain ⟨B, o, hA, hB, hc⟩ := h.at_ (List.getElem?_eq_getElem hj)
  exact ⟨B, o, hA, hB, hc 0 _ rfl, hc 1 _ rfl, hc 2 _ rfl, hc 3 _ rfl⟩
theorem ap_cells {w : World} {H : Nat} {x : Ap} (h : w.heap[H]? = some (.cells #[.int .i64 x.d, .string x.k, .string x.t, .int .i64 x.a] 38)) :
    w.cell? ⟨H, 0, none⟩ = some (.int .i64 x.d) ∧ w.cell? ⟨H, 1, none⟩ = some (.string x.k) ∧ w.cell? ⟨H, 2, none⟩ = some (.string x.t) ∧ w.cell? ⟨H, 3, none⟩ = some (.int .i64 x.a) :=
  ⟨(Lib.cell_of_heap h 0).trans rfl, (Lib.cell_of_heap h 1).trans rfl, (Lib.cell_of_heap h 2).trans rfl, (Lib.cell_of_heap h 3).trans rfl⟩
end Go.Proofs.Ytlglkfgephilnaa
