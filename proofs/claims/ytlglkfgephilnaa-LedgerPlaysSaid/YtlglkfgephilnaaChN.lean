/- Worlds that are alike but for one block, for some blocks. -/
import Derived.Test.YtlglkfgephilnaaBase0
namespace Go.Proofs.Ytlglkfgephilnaa
open Go.RowKit
/-- w' is w but for block K and what is new -/
structure Chg (K : Nat) (w w' : World) : Prop where
  os : w'.os = w.os
  tape : w'.tape = w.tape
  output : w'.output = w.output
  size : w.heap.size ≤ w'.heap.size
  block : ∀ k, k < w.heap.size → k ≠ K → w'.heap[k]? = w.heap[k]?
namespace Chg
variable {K : Nat} {w w' w'' : World}
theorem refl (K : Nat) (w : World) : Chg K w w := ⟨rfl, rfl, rfl, Nat.le_refl _, fun _ _ _ => rfl⟩
theorem of_below (h : Below w.heap.size w w') : Chg K w w' := ⟨h.os, h.tape, h.output, h.size, fun k hk _ => h.block k hk⟩
theorem trans (h : Chg K w w') (h' : Chg K w' w'') : Chg K w w'' :=
  ⟨h'.os.trans h.os, h'.tape.trans h.tape, h'.output.trans h.output, Nat.le_trans h.size h'.size, fun k hk hn => (h'.block k (Nat.lt_of_lt_of_le hk h.size) hn).trans (h.block k hk hn)⟩
theorem thenNew {L : Nat} (h : Chg K w w') (h' : Chg L w' w'') (hL : w.heap.size ≤ L) : Chg K w w'' :=
  ⟨h'.os.trans h.os, h'.tape.trans h.tape, h'.output.trans h.output, Nat.le_trans h.size h'.size, fun k hk hn => (h'.block k (Nat.lt_of_lt_of_le hk h.size) (by omega)).trans (h.block k hk hn)⟩
theorem thenBelow (h : Chg K w w') (h' : Below w'.heap.size w' w'') : Chg K w w'' := h.trans (of_below h')
theorem below {B : Nat} (h : Chg K w w') (hB : B ≤ w.heap.size) (hK : B ≤ K) : Below B w w' := ⟨h.os, h.tape, h.output, h.size, fun k hk => h.block k (by omega) (by omega)⟩
theorem alloc (h : Chg K w w') (o : Obj) : Chg K w (w'.alloc o) := h.thenBelow ((Below.refl _ _).alloc (Nat.le_refl _) o)
theorem drew (h : Chg K w w') : Chg K w w'.drew := ⟨h.os, h.tape, h.output, h.size, h.block⟩
theorem drewN (h : Chg K w w') (n : Nat) : Chg K w (w'.drewN n) := ⟨h.os, h.tape, h.output, h.size, h.block⟩
theorem setCell (h : Chg K w w') {a : Addr} (ha : a.block = K ∨ w.heap.size ≤ a.block) (v : Value) : Chg K w (w'.setCell a v) := by
  refine ⟨h.os, h.tape, h.output, ?_, fun k hk hn => (Below.heap_setCell w' a v k (by omega)).trans (h.block k hk hn)⟩
  have := h.size
  simpa [World.setCell] using this
theorem setCells (b : Nat) (hb : b = K ∨ w.heap.size ≤ b) : ∀ (vs : List Value) (o : Nat) (w' : World), Chg K w w' → Chg K w (w'.setCells b o vs)
  | [], _, _, h => h
  | v :: r, o, w', h => by
    rw [World.setCells]
    exact setCells b hb r (o + 1) _ (h.setCell (a := ⟨b, o, none⟩) hb v)
theorem cell (h : Chg K w w') {g o : Nat} (hg : g < w.heap.size) (hK : g ≠ K) : w'.cell? ⟨g, o, none⟩ = w.cell? ⟨g, o, none⟩ := World.cell?_of_block (h.block g hg hK)
theorem frozen (h : Chg K w w') {g o : Nat} (hg : g < w.heap.size) (hK : g ≠ K) : w'.frozen? ⟨g, o, none⟩ = w.frozen? ⟨g, o, none⟩ := World.frozen?_of_block (h.block g hg hK)
end Chg
theorem size_setCell (w : World) (a : Addr) (v : Value) : (w.setCell a v).heap.size = w.heap.size := by simp [World.setCell]
theorem size_setCells (b : Nat) : ∀ (vs : List Value) (o : Nat) (w : World), (w.setCells b o vs).heap.size = w.heap.size
  | [], _, _ => rfl
  | v :: r, o, w => by rw [World.setCells, size_setCells b r (o + 1), size_setCell]
/-- w' is w but for the blocks of S and what is new -/
structure ChgS (S : Nat → Prop) (w w' : World) : Prop where
  os : w'.os = w.os
  tape : w'.tape = w.tape
  output : w'.output = w.output
  size : w.heap.size ≤ w'.heap.size
  block : ∀ k, k < w.heap.size → ¬ S k → w'.heap[k]? = w.heap[k]?
namespace ChgS
variable {S : Nat → Prop} {w w' : World}
theorem refl (S : Nat → Prop) (w : World) : ChgS S w w := ⟨rfl, rfl, rfl, Nat.le_refl _, fun _ _ _ => rfl⟩
theorem drewN (h : ChgS S w w') (n : Nat) : ChgS S w (w'.drewN n) := ⟨h.os, h.tape, h.output, h.size, h.block⟩
theorem setCell (h : ChgS S w w') {a : Addr} (ha : S a.block) (v : Value) : ChgS S w (w'.setCell a v) := by
  refine ⟨h.os, h.tape, h.output, ?_, fun k hk hn => (Below.heap_setCell w' a v k (fun e => hn (e ▸ ha))).trans (h.block k hk hn)⟩
  have := h.size
  simpa [World.setCell] using this
theorem below {B : Nat} (h : ChgS S w w') (hB : B ≤ w.heap.size) (hS : ∀ k, S k → B ≤ k) : Below B w w' := ⟨h.os, h.tape, h.output, h.size, fun k hk => h.block k (by omega) (fun e => by have := hS k e; omega)⟩
end ChgS
namespace ChgS
variable {S : Nat → Prop} {w w' w'' : World}
theorem trans (h : ChgS S w w') (h' : ChgS S w' w'') : ChgS S w w'' :=
  ⟨h'.os.trans h.os, h'.tape.trans h.tape, h'.output.trans h.output, Nat.le_trans h.size h'.size, fun k hk hn => (h'.block k (Nat.lt_of_lt_of_le hk h.size) hn).trans (h.block k hk hn)⟩
theorem of_below (h : Below w.heap.size w w') : ChgS S w w' := ⟨h.os, h.tape, h.output, h.size, fun k hk _ => h.block k hk⟩
theorem of_chg {K : Nat} (h : Chg K w w') (hK : S K) : ChgS S w w' := ⟨h.os, h.tape, h.output, h.size, fun k hk hn => h.block k hk (fun e => hn (e ▸ hK))⟩
theorem cell (h : ChgS S w w') {g o : Nat} (hg : g < w.heap.size) (hK : ¬ S g) : w'.cell? ⟨g, o, none⟩ = w.cell? ⟨g, o, none⟩ := World.cell?_of_block (h.block g hg hK)
theorem of_drew (h : ChgS S w.drew w') : ChgS S w w' := ⟨h.os, h.tape, h.output, h.size, h.block⟩
end ChgS
end Go.Proofs.Ytlglkfgephilnaa
