/- Layer 16: acts, uses and rules that came in. -/
import Derived.Test.YtbcanfhjdllaoaaRowO
import Derived.Test.YtbcanfhjdllaoaaLim16D
namespace Go.Proofs.Ytbcanfhjdllaoaa
set_option maxRecDepth 100000
open Go.RowKit Go.ChangeShapes Go.WideShapes Go.ChangeAt
/-- an act's cells -/
def acE : Enc Ac where
  e := fun x => acL x
  k := 8
  pos := by decide
  len := fun _ => rfl
  one := fun x v hv => by
    simp only [acL, List.mem_cons, List.not_mem_nil, or_false] at hv
    rcases hv with rfl | rfl | rfl | rfl | rfl | rfl | rfl | rfl <;> rfl
theorem rule_dec {H : Type} {enc : TypeId × Value → H} {W : World} {base n : Nat} {spare : Nat → Bool} {held : Bool} {cs : List Value} {x : DataW H × List MemPlace} (h : DataW.trod enc Try.prog W base spare held n 38 cs = some x) :
    ∃ r : Rl, cs = [.int .i64 r.k, .int .i64 r.t, .int .i64 r.s, .int .i64 r.o] := by
  obtain ⟨xs, k, _, _, hlen, hxl, hf⟩ := DataW.trod_struct Try.underlying38 h
  rw [show Try.prog.cellsOf 38 = 4 by kernel_rfl] at hlen
  have i1 : Try.prog.cellsOf 3 = 1 := by kernel_rfl
  have i2 : Try.prog.cellsOf 9 = 1 := by kernel_rfl
  match cs, hlen with
  | [c0, c1, c2, c3], _ =>
    match xs, hxl with
    | [y0, y1, y2, y3], _ =>
      have h0 : DataW.trod enc Try.prog W base spare held k 3 [c0] = some y0 := by
        have h := hf 0 _ rfl
        change DataW.trod enc Try.prog W base spare held k 3 (([c0, c1, c2, c3].drop 0).take (Try.prog.cellsOf 3)) = some y0 at h
        rw [i1] at h
        exact h
      have h1 : DataW.trod enc Try.prog W base spare held k 3 [c1] = some y1 := by
        have h := hf 1 _ rfl
        change DataW.trod enc Try.prog W base spare held k 3 (([c0, c1, c2, c3].drop 1).take (Try.prog.cellsOf 3)) = some y1 at h
        rw [i1] at h
        exact h
      have h2 : DataW.trod enc Try.prog W base spare held k 3 [c2] = some y2 := by
        have h := hf 2 _ rfl
        change DataW.trod enc Try.prog W base spare held k 3 (([c0, c1, c2, c3].drop 2).take (Try.prog.cellsOf 3)) = some y2 at h
        rw [i1] at h
        exact h
      have h3 : DataW.trod enc Try.prog W base spare held k 3 [c3] = some y3 := by
        have h := hf 3 _ rfl
        change DataW.trod enc Try.prog W base spare held k 3 (([c0, c1, c2, c3].drop 3).take (Try.prog.cellsOf 3)) = some y3 at h
        rw [i1] at h
        exact h
      obtain ⟨v0, e0, _⟩ := DataW.trod_int Try.underlying3 h0
      obtain ⟨v1, e1, _⟩ := DataW.trod_int Try.underlying3 h1
      obtain ⟨v2, e2, _⟩ := DataW.trod_int Try.underlying3 h2
      obtain ⟨v3, e3, _⟩ := DataW.trod_int Try.underlying3 h3
      simp only [List.cons.injEq, and_true] at e0 e1 e2 e3
      exact ⟨⟨v0, v1, v2, v3⟩, by rw [e0, e1, e2, e3]⟩
theorem us_dec {H : Type} {enc : TypeId × Value → H} {W : World} {base n : Nat} {spare : Nat → Bool} {held : Bool} {cs : List Value} {x : DataW H × List MemPlace} (h : DataW.trod enc Try.prog W base spare held n 31 cs = some x) :
    ∃ u : Us, cs = usE.e u ∧ u.c.size ≤ maxLen ∧ u.w ≤ 9223372036854775807 := by
  obtain ⟨xs, k, _, _, hlen, hxl, hf⟩ := DataW.trod_struct Try.underlying31 h
  rw [show Try.prog.cellsOf 31 = 4 by kernel_rfl] at hlen
  have i1 : Try.prog.cellsOf 3 = 1 := by kernel_rfl
  have i2 : Try.prog.cellsOf 9 = 1 := by kernel_rfl
  match cs, hlen with
  | [c0, c1, c2, c3], _ =>
    match xs, hxl with
    | [y0, y1, y2, y3], _ =>
      have h0 : DataW.trod enc Try.prog W base spare held k 9 [c0] = some y0 := by
        have h := hf 0 _ rfl
        change DataW.trod enc Try.prog W base spare held k 9 (([c0, c1, c2, c3].drop 0).take (Try.prog.cellsOf 9)) = some y0 at h
        rw [i2] at h
        exact h
      have h1 : DataW.trod enc Try.prog W base spare held k 3 [c1] = some y1 := by
        have h := hf 1 _ rfl
        change DataW.trod enc Try.prog W base spare held k 3 (([c0, c1, c2, c3].drop 1).take (Try.prog.cellsOf 3)) = some y1 at h
        rw [i1] at h
        exact h
      have h2 : DataW.trod enc Try.prog W base spare held k 3 [c2] = some y2 := by
        have h := hf 2 _ rfl
        change DataW.trod enc Try.prog W base spare held k 3 (([c0, c1, c2, c3].drop 2).take (Try.prog.cellsOf 3)) = some y2 at h
        rw [i1] at h
        exact h
      have h3 : DataW.trod enc Try.prog W base spare held k 3 [c3] = some y3 := by
        have h := hf 3 _ rfl
        change DataW.trod enc Try.prog W base spare held k 3 (([c0, c1, c2, c3].drop 3).take (Try.prog.cellsOf 3)) = some y3 at h
        rw [i1] at h
        exact h
      obtain ⟨v0, e0, _, hs⟩ := DataW.trod_string Try.underlying9 h0
      obtain ⟨v1, e1, _, hw⟩ := DataW.trod_int Try.underlying3 h1
      obtain ⟨v2, e2, _⟩ := DataW.trod_int Try.underlying3 h2
      obtain ⟨v3, e3, _⟩ := DataW.trod_int Try.underlying3 h3
      simp only [List.cons.injEq, and_true] at e0 e1 e2 e3
      exact ⟨⟨v0, v1, v2, v3⟩, by rw [e0, e1, e2, e3]; rfl, hs, by simp [Lit.wf, IntKind.min, IntKind.max] at hw; exact of_decide_eq_true hw.2⟩
theorem ac_dec {H : Type} {enc : TypeId × Value → H} {W : World} {base n : Nat} {spare : Nat → Bool} {held : Bool} {cs : List Value} {x : DataW H × List MemPlace} (h : DataW.trod enc Try.prog W base spare held n 40 cs = some x) :
    ∃ x : Ac, cs = acE.e x ∧ x.c.size ≤ maxLen := by
  obtain ⟨xs, k, _, _, hlen, hxl, hf⟩ := DataW.trod_struct Try.underlying40 h
  rw [show Try.prog.cellsOf 40 = 8 by kernel_rfl] at hlen
  have i1 : Try.prog.cellsOf 3 = 1 := by kernel_rfl
  have i2 : Try.prog.cellsOf 9 = 1 := by kernel_rfl
  have i3 : Try.prog.cellsOf 38 = 4 := by kernel_rfl
  match cs, hlen with
  | [c0, c1, c2, c3, c4, c5, c6, c7], _ =>
    match xs, hxl with
    | [y0, y1, y2, y3, y4], _ =>
      have h0 : DataW.trod enc Try.prog W base spare held k 3 [c0] = some y0 := by
        have h := hf 0 _ rfl
        change DataW.trod enc Try.prog W base spare held k 3 (([c0, c1, c2, c3, c4, c5, c6, c7].drop 0).take (Try.prog.cellsOf 3)) = some y0 at h
        rw [i1] at h
        exact h
      have h1 : DataW.trod enc Try.prog W base spare held k 38 [c1, c2, c3, c4] = some y1 := by
        have h := hf 1 _ rfl
        change DataW.trod enc Try.prog W base spare held k 38 (([c0, c1, c2, c3, c4, c5, c6, c7].drop 1).take (Try.prog.cellsOf 38)) = some y1 at h
        rw [i3] at h
        exact h
      have h2 : DataW.trod enc Try.prog W base spare held k 9 [c5] = some y2 := by
        have h := hf 2 _ rfl
        change DataW.trod enc Try.prog W base spare held k 9 (([c0, c1, c2, c3, c4, c5, c6, c7].drop 5).take (Try.prog.cellsOf 9)) = some y2 at h
        rw [i2] at h
        exact h
      have h3 : DataW.trod enc Try.prog W base spare held k 3 [c6] = some y3 := by
        have h := hf 3 _ rfl
        change DataW.trod enc Try.prog W base spare held k 3 (([c0, c1, c2, c3, c4, c5, c6, c7].drop 6).take (Try.prog.cellsOf 3)) = some y3 at h
        rw [i1] at h
        exact h
      have h4 : DataW.trod enc Try.prog W base spare held k 3 [c7] = some y4 := by
        have h := hf 4 _ rfl
        change DataW.trod enc Try.prog W base spare held k 3 (([c0, c1, c2, c3, c4, c5, c6, c7].drop 7).take (Try.prog.cellsOf 3)) = some y4 at h
        rw [i1] at h
        exact h
      obtain ⟨v0, e0, _⟩ := DataW.trod_int Try.underlying3 h0
      obtain ⟨v1, e1⟩ := rule_dec h1
      obtain ⟨v2, e2, _, hs⟩ := DataW.trod_string Try.underlying9 h2
      obtain ⟨v3, e3, _⟩ := DataW.trod_int Try.underlying3 h3
      obtain ⟨v4, e4, _⟩ := DataW.trod_int Try.underlying3 h4
      simp only [List.cons.injEq, and_true] at e0 e1 e2 e3 e4
      exact ⟨⟨v0, v1, v2, v3, v4⟩, by rw [e0, e1.1, e1.2.1, e1.2.2.1, e1.2.2.2, e2, e3, e4]; rfl, hs⟩
theorem open_acts {H : Type} {enc : TypeId × Value → H} {W : World} {base : Nat} {v : Value} {d : DataW H} {p : List MemPlace}
    (hval : Value.okWide Try.prog W .any base 23 v) (h : DataW.Trod enc Try.prog W 0 (fun _ => true) true 23 v d p) :
    ∃ A c F, v = .slice A F.length c ∧ LiS acE W A F ∧ (∀ x ∈ F, x.c.size ≤ maxLen) ∧ (F.length ≤ c ∧ (A = none → F.length = 0 ∧ c = 0) ∧ ∃ els sp, (d = .slice els sp ∧ els.length + sp.length = c) ∨ (d = .nil ∧ c = 0)) :=
  open_row (Pa := fun x : Ac => x.c.size ≤ maxLen) Try.underlying23 (by kernel_rfl) ⟨0, ⟨0, 0, 0, 0⟩, ⟨#[]⟩, 0, 0⟩ (fun h => ac_dec h) hval h
theorem open_uses {H : Type} {enc : TypeId × Value → H} {W : World} {base : Nat} {v : Value} {d : DataW H} {p : List MemPlace}
    (hval : Value.okWide Try.prog W .any base 22 v) (h : DataW.Trod enc Try.prog W 0 (fun _ => true) true 22 v d p) :
    ∃ A c F, v = .slice A F.length c ∧ LiS usE W A F ∧ (∀ x ∈ F, x.c.size ≤ maxLen ∧ x.w ≤ 9223372036854775807) ∧ (F.length ≤ c ∧ (A = none → F.length = 0 ∧ c = 0) ∧ ∃ els sp, (d = .slice els sp ∧ els.length + sp.length = c) ∨ (d = .nil ∧ c = 0)) :=
  open_row (Pa := fun x : Us => x.c.size ≤ maxLen ∧ x.w ≤ 9223372036854775807) Try.underlying22 (by kernel_rfl) ⟨⟨#[]⟩, 0, 0, 0⟩ (fun h => us_dec h) hval h
theorem acts_len {H : Type} {ts : List TypeId} {ds : List (DataW H)} (h : (DataW.weightsEach Try.prog ts ds).all (· ≤ reachBytes) = true) {j : Nat} {d : DataW H} (ht : ts[j]? = some 23) (hd : ds[j]? = some d)
    {n c : Nat} {X : Prop} (z : n ≤ c ∧ X ∧ ∃ els sp, (d = .slice els sp ∧ els.length + sp.length = c) ∨ (d = .nil ∧ c = 0)) : n ≤ 140737488351232 := row_len Try.underlying23 71 (by kernel_rfl) h ht hd z
theorem uses_len {H : Type} {ts : List TypeId} {ds : List (DataW H)} (h : (DataW.weightsEach Try.prog ts ds).all (· ≤ reachBytes) = true) {j : Nat} {d : DataW H} (ht : ts[j]? = some 22) (hd : ds[j]? = some d)
    {n c : Nat} {X : Prop} (z : n ≤ c ∧ X ∧ ∃ els sp, (d = .slice els sp ∧ els.length + sp.length = c) ∨ (d = .nil ∧ c = 0)) : n ≤ 140737488351232 := row_len Try.underlying22 39 (by kernel_rfl) h ht hd z
/-- an act's cells in a row -/
theorem ac_at {w : World} {A : Option Addr} {F : List Ac} (h : LiS acE w A F) {j : Nat} (hj : j < F.length) : ∃ B o, A = some ⟨B, o, none⟩ ∧ B < w.heap.size ∧ w.cell? ⟨B, o + j * 8, none⟩ = some (.int .i64 F[j].d) ∧ w.cell? ⟨B, o + j * 8 + 1, none⟩ = some (.int .i64 F[j].r.k) ∧
    w.cell? ⟨B, o + j * 8 + 2, none⟩ = some (.int .i64 F[j].r.t) ∧ w.cell? ⟨B, o + j * 8 + 3, none⟩ = some (.int .i64 F[j].r.s) ∧ w.cell? ⟨B, o + j * 8 + 4, none⟩ = some (.int .i64 F[j].r.o) ∧ w.cell? ⟨B, o + j * 8 + 5, none⟩ = some (.string F[j].c) ∧
    w.cell? ⟨B, o + j * 8 + 6, none⟩ = some (.int .i64 F[j].a) ∧ w.cell? ⟨B, o + j * 8 + 7, none⟩ = some (.int .i64 F[j].n) := by
  obtain ⟨B, o, hA, hB, hc⟩ := h.at_ (List.getElem?_eq_getElem hj)
  exact ⟨B, o, hA, hB, hc 0 _ rfl, hc 1 _ rfl, hc 2 _ rfl, hc 3 _ rfl, hc 4 _ rfl, hc 5 _ rfl, hc 6 _ rfl, hc 7 _ rfl⟩
end Go.Proofs.Ytbcanfhjdllaoaa
