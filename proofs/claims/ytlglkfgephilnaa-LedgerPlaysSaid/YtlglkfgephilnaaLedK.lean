/- Layer 17: a ledger as laws use it. -/
import Derived.Test.YtlglkfgephilnaaLedE
namespace Go.Proofs.Ytlglkfgephilnaa
set_option maxRecDepth 100000
open Go.RowKit
/-- what a call leaves of a ledger: LA w L O: it stands in w with the posts L, its blocks O -/
def LgStep (LA : World → List Po → (Nat → Prop) → Prop) (w : World) (O : Nat → Prop) (w' : World) (L' : List Po) : Prop := ∃ O', LA w' L' O' ∧ ChgS O w w' ∧ ∀ k, O' k → O k ∨ w.heap.size ≤ k
/-- what List leaves: a row of new memory that is no block of the ledger -/
def LgList (LA : World → List Po → (Nat → Prop) → Prop) (w : World) (O : Nat → Prop) (L : List Po) (e : Ending) (w' : World) : Prop :=
  ∃ v O', e = .returned v ∧ OwL poE 31 w' w.heap.size v L ∧ (∀ g, v.ownBlock = some g → ¬ O' g) ∧ LA w' L O' ∧ ChgS O w w' ∧ ∀ k, O' k → O k ∨ w.heap.size ≤ k
structure LgKit (u : World) (G : Nat) (LA : World → List Po → (Nat → Prop) → Prop) : Prop where
  bel : ∀ w L O, LA w L O → Below u.heap.size u w
  own : ∀ w L O, LA w L O → ∀ k, O k → u.heap.size ≤ k ∧ k < w.heap.size
  ok : ∀ w L O, LA w L O → LgOk L
  keep : ∀ (w w' : World) (L : List Po) (O T : Nat → Prop), LA w L O → ChgS T w w' → (∀ k, T k → u.heap.size ≤ k ∧ ¬ O k) → LA w' L O
  approve : ∀ (w : World) (L : List Po) (O : Nat → Prop) (k : ByteArray) (a : Int) (t : ByteArray), LA w L O → k.size ≤ maxLen → t.size ≤ maxLen → Calls Try.prog 14 #[.pointer (some ⟨G, 0, none⟩), .string k, .int .i64 a, .string t] w fun e w' => e = .returned (.int .i64 (apE L k a t)) ∧ LgStep LA w O w' (apN L k a t)
  reverse : ∀ (w : World) (L : List Po) (O : Nat → Prop) (k : ByteArray), LA w L O → k.size ≤ maxLen → Calls Try.prog 16 #[.pointer (some ⟨G, 0, none⟩), .string k] w fun e w' => e = .returned (.tuple #[.int .i64 (rvV L k), .int .i64 (rvE L k)]) ∧ LgStep LA w O w' (rvN L k)
  ask : ∀ (w : World) (L : List Po) (O : Nat → Prop) (k : ByteArray), LA w L O → k.size ≤ maxLen → Calls Try.prog 18 #[.pointer (some ⟨G, 0, none⟩), .string k] w fun e w' => e = .returned (.tuple #[.agg #[.string (akP L k).k, .int .i64 (akP L k).a, .int .i64 (akP L k).s, .string (akP L k).t], .bool (akB L k)]) ∧ LgStep LA w O w' L
  close : ∀ (w : World) (L : List Po) (O : Nat → Prop), LA w L O → Calls Try.prog 20 #[.pointer (some ⟨G, 0, none⟩)] w fun e w' => e = .returned (.int .i64 (totP L)) ∧ LgStep LA w O w' []
  total : ∀ (w : World) (L : List Po) (O : Nat → Prop), LA w L O → Calls Try.prog 23 #[.pointer (some ⟨G, 0, none⟩)] w fun e w' => e = .returned (.int .i64 (totP L)) ∧ LgStep LA w O w' L
  list : ∀ (w : World) (L : List Po) (O : Nat → Prop), LA w L O → Calls Try.prog 25 #[.pointer (some ⟨G, 0, none⟩)] w (LgList LA w O L)
theorem LgKit.below {u w w' : World} {G : Nat} {LA : World → List Po → (Nat → Prop) → Prop} {L : List Po} {O : Nat → Prop} (h : LgKit u G LA) (ht : LA w L O) (hb : Below w.heap.size w w') : LA w' L O :=
  h.keep w w' L O (fun _ => False) ht (ChgS.of_below hb) (fun _ hk => absurd hk id)
/-- what New does -/
def LgNew : Prop := ∀ (u w : World), Below u.heap.size u w → Calls Try.prog 12 #[] w fun e w' => ∃ G LA O, e = .returned (.pointer (some ⟨G, 0, none⟩)) ∧ LgKit u G LA ∧ LA w' [] O ∧ (∀ k, O k → w.heap.size ≤ k) ∧ Below w.heap.size w w'
/-- what Restore does -/
structure LgRes : Prop where
  good : ∀ (u w : World) (A : Option Addr) (c : Nat) (F : List Po), Below u.heap.size u w → LiS poE w A F → LgOk F → Calls Try.prog 9 #[.slice A F.length c] w fun e w' => ∃ G LA O, e = .returned (.tuple #[.pointer (some ⟨G, 0, none⟩), .int .i64 0]) ∧ LgKit u G LA ∧ LA w' F O ∧ (∀ k, O k → w.heap.size ≤ k) ∧ Below w.heap.size w w'
  bad : ∀ (w : World) (A : Option Addr) (c : Nat) (F : List Po), LiS poE w A F → F.length ≤ 140737488355328 → (∀ p ∈ F, p.k.size ≤ maxLen ∧ p.t.size ≤ maxLen) → ¬ LgOk F → Calls Try.prog 9 #[.slice A F.length c] w fun e w' => e = .returned (.tuple #[.pointer none, .int .i64 1]) ∧ Below w.heap.size w w'
/-! ### a ledger, and blocks that are kept -/
/-- a ledger, and blocks S that are as they were in w0; all apart -/
def KL (LA : World → List Po → (Nat → Prop) → Prop) (S : Nat → Prop) (w0 w : World) (L : List Po) : Prop := ∃ O, LA w L O ∧ ∀ k, S k → ¬ O k ∧ k < w.heap.size ∧ w.heap[k]? = w0.heap[k]?
section
variable {u w w' w0 : World} {G : Nat} {LA : World → List Po → (Nat → Prop) → Prop} {S : Nat → Prop} {L L1 : List Po} {f : FuncId} {args : Array Value} {r : Value}
theorem KL.bel (hK : LgKit u G LA) (h : KL LA S w0 w L) : Below u.heap.size u w := by
  obtain ⟨O, h1, _⟩ := h
  exact hK.bel _ _ _ h1
theorem KL.ok (hK : LgKit u G LA) (h : KL LA S w0 w L) : LgOk L := by
  obtain ⟨O, h1, _⟩ := h
  exact hK.ok _ _ _ h1
theorem KL.held (h : KL LA S w0 w L) {k : Nat} (hk : S k) : w.heap[k]? = w0.heap[k]? := by
  obtain ⟨O, _, h2⟩ := h
  exact (h2 k hk).2.2
theorem KL.less {T : Nat → Prop} (h : KL LA S w0 w L) (hT : ∀ k, T k → S k) : KL LA T w0 w L := by
  obtain ⟨O, h1, h2⟩ := h
  exact ⟨O, h1, fun k hk => h2 k (hT k hk)⟩
theorem KL.free (h : KL LA S w0 w L) (w1 : World) : KL LA (fun _ => False) w1 w L := by
  obtain ⟨O, h1, _⟩ := h
  exact ⟨O, h1, fun k hk => absurd hk id⟩
theorem KL.below (hK : LgKit u G LA) (h : KL LA S w0 w L) (hb : Below w.heap.size w w') : KL LA S w0 w' L := by
  obtain ⟨O, h1, h2⟩ := h
  exact ⟨O, hK.below h1 hb, fun k hk => ⟨(h2 k hk).1, Nat.lt_of_lt_of_le (h2 k hk).2.1 hb.size, (hb.block k (h2 k hk).2.1).trans (h2 k hk).2.2⟩⟩
/-- new blocks kept besides -/
theorem KL.more {T : Nat → Prop} (hK : LgKit u G LA) (h : KL LA S w0 w L) (hb : Below w.heap.size w w') (hT : ∀ k, T k → w.heap.size ≤ k ∧ k < w'.heap.size) : KL LA (fun k => S k ∨ T k) w' w' L := by
  obtain ⟨O, h1, h2⟩ := h
  refine ⟨O, hK.below h1 hb, fun k hk => ?_⟩
  rcases hk with hk | hk
  · exact ⟨(h2 k hk).1, Nat.lt_of_lt_of_le (h2 k hk).2.1 hb.size, rfl⟩
  · exact ⟨fun ho => by have := (hK.own _ _ _ h1 k ho).2; have := (hT k hk).1; omega, (hT k hk).2, rfl⟩
theorem KL.call (h : KL LA S w0 w L) (hc : ∀ O, LA w L O → Calls Try.prog f args w fun e w' => e = .returned r ∧ LgStep LA w O w' L1) : Calls Try.prog f args w fun e w' => e = .returned r ∧ KL LA S w0 w' L1 := by
  obtain ⟨O, h1, h2⟩ := h
  refine (hc O h1).mono ?_
  rintro e w' ⟨he, O1, k1, k2, k3⟩
  refine ⟨he, O1, k1, fun k hk => ⟨fun hx => ?_, Nat.lt_of_lt_of_le (h2 k hk).2.1 k2.size, (k2.block k (h2 k hk).2.1 (h2 k hk).1).trans (h2 k hk).2.2⟩⟩
  rcases k3 k hx with h | h
  · exact (h2 k hk).1 h
  · have := (h2 k hk).2.1; omega
/-- its list, a row apart from it and from what is kept -/
theorem KL.list (hK : LgKit u G LA) (h : KL LA S w0 w L) : Calls Try.prog 25 #[.pointer (some ⟨G, 0, none⟩)] w fun e w' => ∃ v, e = .returned v ∧ OwL poE 31 w' w.heap.size v L ∧ KL LA S w0 w' L ∧ KL LA (fun k => S k ∨ v.ownBlock = some k) w' w' L := by
  obtain ⟨O, h1, h2⟩ := h
  refine (hK.list w L O h1).mono ?_
  rintro e w' ⟨v, O1, he, ho, hv, k1, k2, k3⟩
  have key : ∀ k, S k → ¬ O1 k ∧ k < w'.heap.size ∧ w'.heap[k]? = w0.heap[k]? := fun k hk => ⟨fun hx => by
    rcases k3 k hx with h | h
    · exact (h2 k hk).1 h
    · have := (h2 k hk).2.1; omega, Nat.lt_of_lt_of_le (h2 k hk).2.1 k2.size, (k2.block k (h2 k hk).2.1 (h2 k hk).1).trans (h2 k hk).2.2⟩
  refine ⟨v, he, ho, ⟨O1, k1, key⟩, ⟨O1, k1, fun k hk => ?_⟩⟩
  rcases hk with hk | hk
  · exact ⟨(key k hk).1, (key k hk).2.1, rfl⟩
  · exact ⟨hv k hk, (ho.lt k hk).2, rfl⟩
/-- a row that is kept -/
theorem KL.row {v : Value} {b : Nat} {F : List Po} (h : KL LA S w0 w L) (ho : OwL poE 31 w0 b v F) (hv : ∀ k, v.ownBlock = some k → S k) : OwL poE 31 w b v F := by
  rcases ho with ⟨h1, h2 | ⟨g, cap, cur, e, hg, hh, r⟩⟩
  · exact ⟨h1, Or.inl h2⟩
  · exact ⟨h1, Or.inr ⟨g, cap, cur, e, hg, (h.held (hv g (by rw [e]; rfl))).trans hh, r⟩⟩
end
end Go.Proofs.Ytlglkfgephilnaa
