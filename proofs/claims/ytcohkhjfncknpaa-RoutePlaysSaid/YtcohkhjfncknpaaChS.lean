/- Worlds that are alike but for some blocks: more. -/
import Derived.Test.YtcohkhjfncknpaaChG
namespace Go.Proofs.Ytcohkhjfncknpaa
open Go.RowKit
namespace ChgS
variable {S : Nat → Prop} {w w' w'' : World}
theorem trans (h : ChgS S w w') (h' : ChgS S w' w'') : ChgS S w w'' :=
  ⟨h'.os.trans h.os, h'.tape.trans h.tape, h'.output.trans h.output, Nat.le_trans h.size h'.size, fun k hk hn => (h'.block k (Nat.lt_of_lt_of_le hk h.size) hn).trans (h.block k hk hn)⟩
theorem of_below (h : Below w.heap.size w w') : ChgS S w w' := ⟨h.os, h.tape, h.output, h.size, fun k hk _ => h.block k hk⟩
theorem of_chg {K : Nat} (h : Chg K w w') (hK : S K) : ChgS S w w' := ⟨h.os, h.tape, h.output, h.size, fun k hk hn => h.block k hk (fun e => hn (e ▸ hK))⟩
theorem cell (h : ChgS S w w') {g o : Nat} (hg : g < w.heap.size) (hK : ¬ S g) : w'.cell? ⟨g, o, none⟩ = w.cell? ⟨g, o, none⟩ := World.cell?_of_block (h.block g hg hK)
theorem of_drew (h : ChgS S w.drew w') : ChgS S w w' := ⟨h.os, h.tape, h.output, h.size, h.block⟩
end ChgS
/-- bytes that lie outside the blocks of S -/
def OffS (S : Nat → Prop) (A : Option Addr) (n : Nat) : Prop := 0 < n → ∀ B o, A = some ⟨B, o, none⟩ → ¬ S B
theorem SlB.chgS {S : Nat → Prop} {w w' : World} {A : Option Addr} {n : Nat} {f : Nat → Nat} (h : SlB w A n f) (hc : ChgS S w w') (hO : OffS S A n) : SlB w' A n f := fun hn => by
  obtain ⟨B, o, hA, hB, h⟩ := h hn
  exact ⟨B, o, hA, Nat.lt_of_lt_of_le hB hc.size, fun j hj => ⟨(h j hj).1, (hc.cell hB (hO hn B o hA)).trans (h j hj).2⟩⟩
theorem SlB.offS {S : Nat → Prop} {w : World} {A : Option Addr} {n : Nat} {f : Nat → Nat} (h : SlB w A n f) (hS : ∀ k, S k → w.heap.size ≤ k) : OffS S A n := fun hn B o e => by
  obtain ⟨B', o', e', hB, _⟩ := h hn
  rw [e] at e'
  injection e' with e'
  injection e' with e1 _ _
  intro hk
  have := hS B hk
  omega
theorem Arr.chgS {S : Nat → Prop} {w w' : World} {g o n : Nat} {f : Nat → Nat} (h : Arr w g o n f) (hc : ChgS S w w') (hg : ¬ S g) : Arr w' g o n f := fun j hj => (h.of_block (hc.block g (h.lt (by omega)) hg)) j hj
end Go.Proofs.Ytcohkhjfncknpaa
