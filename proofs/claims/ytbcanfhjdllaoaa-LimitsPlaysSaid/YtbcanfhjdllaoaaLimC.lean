/- Layer 16, the code: mathematics of what it stores. -/
import Derived.Test.YtbcanfhjdllaoaaLimE
namespace Go.Proofs.Ytbcanfhjdllaoaa
open Go.RowKit
theorem out_at {L : List Us} {W : Int} {k : Nat} (hk : k < L.length) (h : L[k].w ≠ W) (hb : ∀ j (h : j < L.length), j < k → L[j].w = W) : outU L W = L.take k ++ L.drop (k + 1) := by
  unfold outU
  conv => lhs; rw [← List.take_append_drop k L]
  rw [List.eraseP_append_right, List.drop_eq_getElem_cons hk, List.eraseP_cons_of_pos (by simpa using h)]
  intro v hv
  obtain ⟨j, hj, rfl⟩ := List.getElem_of_mem hv
  rw [List.length_take] at hj
  rw [List.getElem_take]
  simpa using hb j (by omega) (by omega)
theorem any_none {L : List Us} {W : Int} (hb : ∀ j (h : j < L.length), L[j].w = W) : (L.any fun v => decide (v.w ≠ W)) = false := by
  rw [List.any_eq_false]
  intro v hv
  obtain ⟨j, hj, rfl⟩ := List.getElem_of_mem hv
  simpa using hb j hj
theorem any_some {L : List Us} {W : Int} {k : Nat} (hk : k < L.length) (h : L[k].w ≠ W) : (L.any fun v => decide (v.w ≠ W)) = true :=
  List.any_eq_true.2 ⟨L[k], List.getElem_mem hk, by simpa using h⟩
theorem set_at {L : List Us} (hp : L.Pairwise fun a b => a.c ≠ b.c) {k : Nat} (hk : k < L.length) {u : Us} (hc : u.c = L[k].c) : setU L u = L.set k u := by
  refine List.ext_getElem? fun j => ?_
  unfold setU
  rw [List.getElem?_map, List.getElem?_set]
  by_cases hj : j < L.length
  · rw [List.getElem?_eq_getElem hj, Option.map_some]
    by_cases e : k = j
    · subst e
      rw [if_pos rfl, if_pos hk, if_pos hc.symm]
    · rw [if_neg e, if_neg]
      rw [hc]
      intro h
      rw [List.pairwise_iff_getElem] at hp
      rcases Nat.lt_or_ge k j with h3 | h3
      · exact hp k j hk hj h3 h.symm
      · exact hp j k hj hk (by omega) h
  · rw [List.getElem?_eq_none (by omega), if_neg (show ¬ k = j by omega)]
    rfl
theorem fnd_at {L : List Us} (hp : L.Pairwise fun a b => a.c ≠ b.c) {k : Nat} (hk : k < L.length) : fndU L L[k].c = some L[k] := fnd_of hp (List.getElem_mem hk)
/-- what a row is behind one that is taken out -/
theorem fl_out (L : List Us) {k : Nat} (hk : k < L.length) : usE.fl (L.take k ++ L.drop (k + 1)) = (usE.fl L).take (k * 4) ++ (usE.fl L).drop (k * 4 + 4) := by
  rw [Enc.fl_app, Enc.fl_take L (Nat.le_of_lt hk), Enc.fl_drop L hk]
  show (usE.fl L).take (k * 4) ++ (usE.fl L).drop ((k + 1) * 4) = _
  rw [Nat.succ_mul]
end Go.Proofs.Ytbcanfhjdllaoaa
