/- Rows of structs (elements of k cells), as plain data; nothing here hangs on a program's own types. -/
import Derived.Test.YtlglkfgephilnaaChN
import Derived.Laws.OwnMore
namespace Go.Proofs.Ytlglkfgephilnaa
set_option maxRecDepth 100000
open Go.RowKit
/-- how an element lies in cells -/
structure Enc (α : Type) where
  e : α → List Value
  k : Nat
  pos : 0 < k
  len : ∀ x, (e x).length = k
  one : ∀ x, ∀ v ∈ e x, v.oneCell' = true
section
variable {α : Type} (E : Enc α)
/-- the cells of a row -/
def Enc.fl (F : List α) : List Value := F.flatMap E.e
variable {E : Enc α} {F G : List α}
theorem Enc.fl_nil : E.fl [] = [] := rfl
theorem Enc.fl_cons (x : α) (F : List α) : E.fl (x :: F) = E.e x ++ E.fl F := rfl
theorem Enc.fl_app (F G : List α) : E.fl (F ++ G) = E.fl F ++ E.fl G := by unfold Enc.fl; rw [List.flatMap_append]
theorem Enc.fl_len (F : List α) : (E.fl F).length = F.length * E.k := by
  induction F with
  | nil => rw [Enc.fl_nil]; simp
  | cons x F ih => rw [Enc.fl_cons, List.length_append, E.len, ih, List.length_cons, Nat.succ_mul]; omega
theorem Enc.fl_one (F : List α) : ∀ v ∈ E.fl F, v.oneCell' = true := fun v hv => by
  unfold Enc.fl at hv
  obtain ⟨x, _, hx⟩ := List.mem_flatMap.1 hv
  exact E.one x v hx
theorem Enc.fl_get {j i : Nat} {x : α} (h : F[j]? = some x) (hi : i < E.k) : (E.fl F)[j * E.k + i]? = (E.e x)[i]? := by
  induction F generalizing j with
  | nil => simp at h
  | cons y F ih =>
    rw [Enc.fl_cons]
    cases j with
    | zero =>
      obtain rfl : y = x := by simpa using h
      rw [Nat.zero_mul, Nat.zero_add, List.getElem?_append_left (by rw [E.len]; exact hi)]
    | succ j =>
      rw [List.getElem?_append_right (by rw [E.len, Nat.succ_mul]; omega), E.len, show (j + 1) * E.k + i - E.k = j * E.k + i by rw [Nat.succ_mul]; omega]
      exact ih (by simpa using h)
theorem Enc.fl_take (F : List α) {j : Nat} (h : j ≤ F.length) : E.fl (F.take j) = (E.fl F).take (j * E.k) := by
  have e : F = F.take j ++ F.drop j := (List.take_append_drop j F).symm
  have hl : (E.fl (F.take j)).length = j * E.k := by rw [Enc.fl_len, List.length_take, Nat.min_eq_left h]
  conv => rhs; rw [e, Enc.fl_app, ← hl, List.take_left]
theorem Enc.fl_drop (F : List α) {j : Nat} (h : j ≤ F.length) : E.fl (F.drop j) = (E.fl F).drop (j * E.k) := by
  have e : F = F.take j ++ F.drop j := (List.take_append_drop j F).symm
  have hl : (E.fl (F.take j)).length = j * E.k := by rw [Enc.fl_len, List.length_take, Nat.min_eq_left h]
  conv => rhs; rw [e, Enc.fl_app, ← hl, List.drop_left]
/-- a cell of an element stored -/
theorem Enc.fl_set {j i : Nat} {x y : α} {v : Value} (h : F[j]? = some x) (hi : i < E.k) (hy : E.e y = (E.e x).set i v) : E.fl (F.set j y) = (E.fl F).set (j * E.k + i) v := by
  induction F generalizing j with
  | nil => simp at h
  | cons z F ih =>
    cases j with
    | zero =>
      obtain rfl : z = x := by simpa using h
      rw [List.set_cons_zero, Enc.fl_cons, Enc.fl_cons, hy, Nat.zero_mul, Nat.zero_add, List.set_append_left _ _ (by rw [E.len]; exact hi)]
    | succ j =>
      rw [List.set_cons_succ, Enc.fl_cons, Enc.fl_cons, ih (by simpa using h), List.set_append_right _ _ (by rw [E.len, Nat.succ_mul]; omega), E.len, show (j + 1) * E.k + i - E.k = j * E.k + i by rw [Nat.succ_mul]; omega]
/-- an element stored, its cells' list spliced in -/
theorem Enc.fl_put {j : Nat} (hj : j < F.length) (y : α) : E.fl (F.set j y) = (E.fl F).take (j * E.k) ++ E.e y ++ (E.fl F).drop (j * E.k + E.k) := by
  rw [List.set_eq_take_append_cons_drop, if_pos hj, Enc.fl_app, Enc.fl_cons, Enc.fl_take F (Nat.le_of_lt hj), Enc.fl_drop F (by omega), Nat.succ_mul, List.append_assoc]
variable (E) in
/-- a slice of such elements, in memory -/
def LiS (w : World) (A : Option Addr) (F : List α) : Prop :=
  0 < F.length → ∃ B o, A = some ⟨B, o, none⟩ ∧ B < w.heap.size ∧ ∀ q v, (E.fl F)[q]? = some v → w.cell? ⟨B, o + q, none⟩ = some v
namespace LiS
variable {w w' : World} {A : Option Addr}
theorem keep (h : LiS E w A F) (hb : Below w.heap.size w w') : LiS E w' A F := fun hn => by
  obtain ⟨B, o, hA, hB, hc⟩ := h hn
  exact ⟨B, o, hA, Nat.lt_of_lt_of_le hB hb.size, fun q v hq => (hb.cell (p := ⟨B, _, none⟩) hB).trans (hc q v hq)⟩
theorem chgS {S : Nat → Prop} (h : LiS E w A F) (hc : ChgS S w w') (hS : ∀ B o, A = some ⟨B, o, none⟩ → ¬ S B) : LiS E w' A F := fun hn => by
  obtain ⟨B, o, hA, hB, hh⟩ := h hn
  exact ⟨B, o, hA, Nat.lt_of_lt_of_le hB hc.size, fun q v hq => (hc.cell hB (hS B o hA)).trans (hh q v hq)⟩
theorem nil (w : World) (A : Option Addr) : LiS E w A [] := fun h => absurd h (Nat.lt_irrefl 0)
theorem drewN (h : LiS E w A F) (k : Nat) : LiS E (w.drewN k) A F := h
/-- element j's cells -/
theorem at_ (h : LiS E w A F) {j : Nat} {x : α} (hj : F[j]? = some x) : ∃ B o, A = some ⟨B, o, none⟩ ∧ B < w.heap.size ∧ ∀ i v, (E.e x)[i]? = some v → w.cell? ⟨B, o + j * E.k + i, none⟩ = some v := by
  have hl := (List.getElem?_eq_some_iff.1 hj).1
  obtain ⟨B, o, hA, hB, hc⟩ := h (by omega)
  refine ⟨B, o, hA, hB, fun i v hi => ?_⟩
  have hik : i < E.k := by
    have := (List.getElem?_eq_some_iff.1 hi).1
    rwa [E.len] at this
  rw [Nat.add_assoc]
  exact hc _ _ ((Enc.fl_get hj hik).trans hi)
/-- a part of it -/
theorem part {B o : Nat} (h : LiS E w (some ⟨B, o, none⟩) F) (l r : Nat) (hr : r ≤ F.length) : LiS E w (some ⟨B, o + l * E.k, none⟩) ((F.take r).drop l) := fun hn => by
  have hlen : ((F.take r).drop l).length = r - l := by rw [List.length_drop, List.length_take, Nat.min_eq_left hr]
  obtain ⟨B', o', hA, hB, hc⟩ := h (by omega)
  cases hA
  refine ⟨B, o + l * E.k, rfl, hB, fun q v hq => ?_⟩
  rw [Nat.add_assoc]
  refine hc _ _ ?_
  rw [Enc.fl_drop _ (by rw [List.length_take, Nat.min_eq_left hr]; omega), Enc.fl_take F hr, List.getElem?_drop, List.getElem?_take] at hq
  split at hq
  · exact hq
  · cases hq
end LiS
variable (E) in
/-- a row of such elements that grows -/
def OwL (T : TypeId) (w : World) (base : Nat) (v : Value) (F : List α) : Prop := w.ownsRow base T E.k v F.length (E.fl F)
namespace OwL
variable {T : TypeId} {w w' : World} {base : Nat} {v : Value}
theorem nil (T : TypeId) (w : World) (base : Nat) : OwL E T w base (.slice none 0 0) [] := World.ownsRow_nil w base _ _
theorem alloc (h : OwL E T w base v F) (o : Obj) : OwL E T (w.alloc o) base v F := World.ownsRow.alloc h o
theorem drewN (h : OwL E T w base v F) (k : Nat) : OwL E T (w.drewN k) base v F := h
theorem cap_le (h : OwL E T w base v F) : ∃ A c, v = .slice A F.length c ∧ F.length ≤ c ∧ c ≤ maxLen ∧ (A = none → F.length = 0 ∧ c = 0) := by
  rcases h.2 with ⟨rfl, hn⟩ | ⟨g, cap, cur, rfl, _, _, h1, h2, _⟩
  · rw [hn]; exact ⟨none, 0, rfl, Nat.le_refl _, by unfold maxLen; omega, fun _ => ⟨rfl, rfl⟩⟩
  · exact ⟨_, cap, rfl, h1, h2, fun h => by cases h⟩
theorem of_block {g n c : Nat} (h : OwL E T w base (.slice (some ⟨g, 0, none⟩) n c) F) (e : w'.heap[g]? = w.heap[g]?) : OwL E T w' base (.slice (some ⟨g, 0, none⟩) n c) F := by
  rcases h with ⟨h1, ⟨h2, _⟩ | ⟨g', cap, cur, e2, hg, hh, r⟩⟩
  · cases h2
  · injection e2 with e3 e4 e5
    injection e3 with e3
    injection e3 with e3
    subst e3 e4 e5
    exact ⟨h1, Or.inr ⟨g, c, cur, rfl, hg, e.trans hh, r⟩⟩
theorem keep (h : OwL E T w base v F) (hb : Below w.heap.size w w') : OwL E T w' base v F := by
  rcases h with ⟨h1, h2 | ⟨g, cap, cur, e, hg, hh, r⟩⟩
  · exact ⟨h1, Or.inl h2⟩
  · exact ⟨h1, Or.inr ⟨g, cap, cur, e, hg, (hb.block g (Array.getElem?_eq_some_iff.1 hh).1).trans hh, r⟩⟩
theorem chgS {S : Nat → Prop} (h : OwL E T w base v F) (hc : ChgS S w w') (hS : ∀ q, S q → q < base) : OwL E T w' base v F := by
  rcases h with ⟨h1, h2 | ⟨g, cap, cur, e, hg, hh, r⟩⟩
  · exact ⟨h1, Or.inl h2⟩
  · exact ⟨h1, Or.inr ⟨g, cap, cur, e, hg, (hc.block g (Array.getElem?_eq_some_iff.1 hh).1 (fun hs => by have := hS g hs; omega)).trans hh, r⟩⟩
theorem less {b : Nat} (h : OwL E T w base v F) (hb : b ≤ base) : OwL E T w b v F := by
  rcases h with ⟨h1, h2 | ⟨g, cap, cur, e, hg, r⟩⟩
  · exact ⟨h1, Or.inl h2⟩
  · exact ⟨h1, Or.inr ⟨g, cap, cur, e, Nat.le_trans hb hg, r⟩⟩
theorem setOther (h : OwL E T w base v F) {a : Addr} (ha : a.block < base) (x : Value) : OwL E T (w.setCell a x) base v F := by
  rcases h with ⟨h1, h2 | ⟨g, cap, cur, e, hg, hh, r⟩⟩
  · exact ⟨h1, Or.inl h2⟩
  · exact ⟨h1, Or.inr ⟨g, cap, cur, e, hg, (Below.heap_setCell w a x g (by omega)).trans hh, r⟩⟩
theorem slice (h : OwL E T w base v F) : ∃ A c, v = .slice A F.length c ∧ LiS E w A F := by
  rcases h.2 with ⟨rfl, hn⟩ | ⟨g, cap, cur, rfl, hg, hh, r⟩
  · rw [hn]; exact ⟨none, 0, rfl, fun h => by omega⟩
  · refine ⟨some ⟨g, 0, none⟩, cap, rfl, fun hn => ⟨g, 0, rfl, (Array.getElem?_eq_some_iff.1 hh).1, fun q v hq => ?_⟩⟩
    have hc := World.ownsRow.cells h (g := g) rfl q v hq
    rw [Go.WideShapes.add_plain] at hc
    exact hc
/-- where it lies, if it is not empty -/
theorem lies (h : OwL E T w base v F) (hn : 0 < F.length) : ∃ g c, v = .slice (some ⟨g, 0, none⟩) F.length c ∧ base ≤ g ∧ g < w.heap.size ∧ LiS E w (some ⟨g, 0, none⟩) F := by
  obtain ⟨A, c, rfl, hl⟩ := h.slice
  rcases h.2 with ⟨e, hn2⟩ | ⟨g, cap, cur, e, hg, hh, r⟩
  · omega
  · injection e with e1 e2 e3
    subst e1
    exact ⟨g, c, rfl, hg, (Array.getElem?_eq_some_iff.1 hh).1, hl⟩
end OwL
end
end Go.Proofs.Ytlglkfgephilnaa
