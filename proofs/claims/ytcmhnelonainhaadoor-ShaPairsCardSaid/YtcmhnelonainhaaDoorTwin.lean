/- Two rows of bytes that grow in turn (layer 5). -/
import Derived.Test.YtcmhnelonainhaaDoorRows5
import Derived.Maps.AppendAt
namespace Go.Proofs.YtcmhnelonainhaaDoor
open Go.RowKit
/-- two rows do not share a block -/
def Apart (v1 v2 : Value) : Prop := ∀ g, v1.ownBlock = some g → v2.ownBlock ≠ some g
theorem Apart.symm {v1 v2 : Value} (h : Apart v1 v2) : Apart v2 v1 := fun g h2 h1 => h g h1 h2
theorem Apart.nil (v : Value) : Apart (.slice none 0 0) v := fun g h => by simp [Value.ownBlock] at h
theorem OwnB.grown {w w' : World} {base n : Nat} {v v1 : Value} {f : Nat → Nat} (h : OwnB w base v n f) (hg : w.grownBy w' v1.ownBlock) (ha : Apart v1 v) : OwnB w' base v n f := by
  refine World.ownsRow.kept h hg ?_
  cases e : v.ownBlock with
  | none => exact Or.inl rfl
  | some g => exact Or.inr fun e1 => ha g e1.symm e
/-- append, where another row grows too -/
theorem wpList_appW {ops : Array Oper} {rest : List Oper} {o : Oper} {a : Act} {Q : Exit → Act → World → Prop} {w : World} (hgd : o.guard = none) (s x : Operand)
    (ho : o.op = .call { callee := .builtin .append, args := #[s, x], argTypes := #[22, 22] })
    (base : Nat) (v : Value) (n : Nat) (f : Nat → Nat) (hs : a.eval s = v) (hown : OwnB w base v n f)
    (A : Option Addr) (m cap : Nat) (g : Nat → Nat) (hx : a.eval x = .slice A m cap) (hA : SlB w A m g) (hnil : A = none → m = 0 ∧ cap = 0) (hn : n + m ≤ 100000000000000) (hbase : base ≤ w.heap.size)
    (v2 : Value) (n2 : Nat) (f2 : Nat → Nat) (h2 : OwnB w base v2 n2 f2) (hap : Apart v v2)
    (h : ∀ v' w', OwnB w' base v' (n + m) (catB n f g) → OwnB w' base v2 n2 f2 → Apart v' v2 → Below base w w' → wpList Tryd.prog ops Q rest (a.put o.dst v') w') : wpList Tryd.prog ops Q (o :: rest) a w := by
  obtain ⟨i, hi, hz, hsz, hb⟩ := info_parts info8
  cases A with
  | none =>
    obtain ⟨rfl, rfl⟩ := hnil rfl
    refine wpList_append_own_none hgd s x 22 ho base 5 i 1 Tryd.underlying22 hi v n _ hs hown hx ?_
    refine h v w ?_ h2 hap (Below.refl _ _)
    exact OwnB.congr hown fun j hj => by unfold catB; rw [if_pos (show j < n from hj)]
  | some ad =>
    refine wpList_append_own_at w hgd s x 22 ho base 5 i (.int .u8 0) 1 1 Tryd.underlying22 hi hz hsz hb rfl (by decide) v n _ hs hown ad m cap (bytesL m g) hx (by simp [bytesL]) ?_ (bytes_one m g) (by unfold maxLen; omega) (by omega) hbase ?_
    · intro j u hj
      obtain ⟨hjm, rfl⟩ := bytesL_get m g j u hj
      obtain ⟨B, off, e, _, hc⟩ := hA (by omega)
      obtain rfl : ad = ⟨B, off, none⟩ := Option.some.inj e
      rw [Go.WideShapes.add_plain]
      exact (hc j hjm).2
    · intro v' w' h1 hg _ hat
      rw [bytesL_cat] at h1
      refine h v' w' h1 (h2.grown hg hap) ?_ ((Below.refl base w).grown hg hbase fun k hk => (hown.lt k hk).1)
      rcases hat with e | e
      · intro b hb'
        rw [e] at hb'
        exact hap b hb'
      · intro b hb' hb2
        rw [e] at hb'
        injection hb' with hb'
        have := (World.ownsRow.lt h2 b hb2).2
        omega
end Go.Proofs.YtcmhnelonainhaaDoor
