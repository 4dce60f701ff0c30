/- Layer 16: a book beside blocks that are kept. -/
import Derived.Test.YtbcanfhjdllaoaaLim16D
namespace Go.Proofs.Ytbcanfhjdllaoaa
set_option maxRecDepth 100000
open Go.RowKit
/-- a book, and blocks S that are as they were in w0; all apart -/
def KB (TA : World → List Us → (Nat → Prop) → Prop) (S : Nat → Prop) (w0 w : World) (L : List Us) : Prop := ∃ O, TA w L O ∧ ∀ k, S k → ¬ O k ∧ k < w.heap.size ∧ w.heap[k]? = w0.heap[k]?
section
variable {u w w' w0 : World} {G : Nat} {TA : World → List Us → (Nat → Prop) → Prop} {S : Nat → Prop} {L L1 : List Us} {f : FuncId} {args : Array Value} {r : Value}
theorem KB.bel (hK : BKit u G TA) (h : KB TA S w0 w L) : Below u.heap.size u w := by
  obtain ⟨O, h1, _⟩ := h
  exact hK.bel _ _ _ h1
theorem KB.ok (hK : BKit u G TA) (h : KB TA S w0 w L) : BkOk L := by
  obtain ⟨O, h1, _⟩ := h
  exact hK.ok _ _ _ h1
theorem KB.held (h : KB TA S w0 w L) {k : Nat} (hk : S k) : w.heap[k]? = w0.heap[k]? := by
  obtain ⟨O, _, h2⟩ := h
  exact (h2 k hk).2.2
theorem KB.base (h : KB TA S w0 w L) : KB TA S w w L := by
  obtain ⟨O, h1, h2⟩ := h
  exact ⟨O, h1, fun k hk => ⟨(h2 k hk).1, (h2 k hk).2.1, rfl⟩⟩
theorem KB.less {T : Nat → Prop} (h : KB TA S w0 w L) (hT : ∀ k, T k → S k) : KB TA T w0 w L := by
  obtain ⟨O, h1, h2⟩ := h
  exact ⟨O, h1, fun k hk => h2 k (hT k hk)⟩
theorem KB.below (hK : BKit u G TA) (h : KB TA S w0 w L) (hb : Below w.heap.size w w') : KB TA S w0 w' L := by
  obtain ⟨O, h1, h2⟩ := h
  exact ⟨O, hK.below h1 hb, fun k hk => ⟨(h2 k hk).1, Nat.lt_of_lt_of_le (h2 k hk).2.1 hb.size, (hb.block k (h2 k hk).2.1).trans (h2 k hk).2.2⟩⟩
/-- new blocks kept besides -/
theorem KB.more {T : Nat → Prop} (hK : BKit u G TA) (h : KB TA S w0 w L) (hb : Below w.heap.size w w') (hT : ∀ k, T k → w.heap.size ≤ k ∧ k < w'.heap.size) : KB TA (fun k => S k ∨ T k) w' w' L := by
  obtain ⟨O, h1, h2⟩ := h
  refine ⟨O, hK.below h1 hb, fun k hk => ?_⟩
  rcases hk with hk | hk
  · exact ⟨(h2 k hk).1, Nat.lt_of_lt_of_le (h2 k hk).2.1 hb.size, rfl⟩
  · exact ⟨fun ho => by have := (hK.own _ _ _ h1 k ho).2; have := (hT k hk).1; omega, (hT k hk).2, rfl⟩
theorem KB.call (hK : BKit u G TA) (h : KB TA S w0 w L) (hc : ∀ O, TA w L O → Calls Try.prog f args w fun e w' => e = .returned r ∧ BStep TA w O w' L1) : Calls Try.prog f args w fun e w' => e = .returned r ∧ KB TA S w0 w' L1 := by
  have _ := hK
  obtain ⟨O, h1, h2⟩ := h
  refine (hc O h1).mono ?_
  rintro e w' ⟨he, O1, k1, k2, k3⟩
  refine ⟨he, O1, k1, fun k hk => ⟨fun hx => ?_, Nat.lt_of_lt_of_le (h2 k hk).2.1 k2.size, (k2.block k (h2 k hk).2.1 (h2 k hk).1).trans (h2 k hk).2.2⟩⟩
  rcases k3 k hx with h | h
  · exact (h2 k hk).1 h
  · have := (h2 k hk).2.1; omega
/-- its list, a row apart from it and from what is kept -/
theorem KB.list (hK : BKit u G TA) (h : KB TA S w0 w L) : Calls Try.prog 17 #[.pointer (some ⟨G, 0, none⟩)] w fun e w' => ∃ v, e = .returned v ∧ OwL usE 31 w' w.heap.size v L ∧ KB TA S w0 w' L ∧ KB TA (fun k => S k ∨ v.ownBlock = some k) w' w' L := by
  obtain ⟨O, h1, h2⟩ := h
  refine (hK.list w L O h1).mono ?_
  rintro e w' ⟨v, O1, he, ho, hv, k1, k2, k3⟩
  have key : ∀ k, S k → ¬ O1 k ∧ k < w'.heap.size ∧ w'.heap[k]? = w0.heap[k]? := fun k hk => ⟨fun hx => by
    rcases k3 k hx with h | h
    · exact (h2 k hk).1 h
    · have := (h2 k hk).2.1; omega, Nat.lt_of_lt_of_le (h2 k hk).2.1 k2.size, (k2.block k (h2 k hk).2.1 (h2 k hk).1).trans (h2 k hk).2.2⟩
  refine ⟨v, he, ho, ⟨O1, k1, key⟩, ⟨O1, k1, fun k hk => ?_⟩⟩
  rcases hk with hk | hk
  · exact ⟨(key k hk).1, (key k hk).2.1, rfl⟩
  · exact ⟨hv k hk, (ho.lt k hk).2, rfl⟩
/-- a row that is kept -/
theorem KB.row {v : Value} {b : Nat} {F : List Us} (h : KB TA S w0 w L) (ho : OwL usE 31 w0 b v F) (hv : ∀ k, v.ownBlock = some k → S k) : OwL usE 31 w b v F := by
  rcases ho with ⟨h1, h2 | ⟨g, cap, cur, e, hg, hh, r⟩⟩
  · exact ⟨h1, Or.inl h2⟩
  · exact ⟨h1, Or.inr ⟨g, cap, cur, e, hg, (h.held (hv g (by rw [e]; rfl))).trans hh, r⟩⟩
end
end Go.Proofs.Ytbcanfhjdllaoaa
