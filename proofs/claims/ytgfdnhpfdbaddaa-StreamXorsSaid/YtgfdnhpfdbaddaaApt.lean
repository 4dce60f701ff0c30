/- Two rows of bytes that grow in turn. -/
import Derived.Test.YtgfdnhpfdbaddaaMoreB
import Derived.Maps.AppendAt
namespace Go.Proofs.Ytgfdnhpfdbaddaa
open Go.RowKit
/-- two rows do not share a block -/
def Apart (v1 v2 : Value) : Prop := ∀ g, v1.ownBlock = some g → v2.ownBlock ≠ some g
theorem Apart.symm {v1 v2 : Value} (h : Apart v1 v2) : Apart v2 v1 := fun g h2 h1 => h g h1 h2
theorem Apart.nil (v : Value) : Apart (.slice none 0 0) v := fun g h => by simp [Value.ownBlock] at h
theorem OwnB.grown {w w' : World} {base n : Nat} {v v1 : Value} {f : Nat → Nat} (h : OwnB w base v n f) (hg : w.grownBy w' v1.ownBlock) (ha : Apart v1 v) : OwnB w' base v n f := by
  refine World.ownsRow.kept h hg ?_
  cases e : v.ownBlock with
  | none => exact Or.inl rfl
  | some g => exact Or.inr fun e1 => ha g e1.symm e
/-- append, where another row grows too -/
theorem wpList_appW {ops : Array Oper} {rest : List Oper} {o : Oper} {a : Act} {Q : Exit → Act → World → Prop} {w : World} (hgd : o.guard = none) (s x : Operand)
    (ho : o.op = .call { callee := .builtin .append, args := #[s, x], argTypes := #[22, 22] })
    (base : Nat) (v : Value) (n : Nat) (f : Nat → Nat) (hs : a.eval s = v) (hown : OwnB w base v n f)
    (A : Option Addr) (m cap : Nat) (g : Nat → Nat) (hx : a.eval x = .slice A m cap) (hA : SlB w A m g) (hnil : A = none → m = 0 ∧ cap = 0) (hn : n + m ≤ 100000000000000) (hbase : base ≤ w.heap.size)
    (v2 : Value) (n2 : Nat) (f2 : Nat → Nat) (h2 : OwnB w base v2 n2 f2) (hap : Apart v v2)
    (h : ∀ v' w', OwnB w' base v' (n + m) (catB n f g) → OwnB w' base v2 n2 f2 → Apart v' v2 → Below base w w' → wpList Try.prog ops Q rest (a.put o.dst v') w') : wpList Try.prog ops Q (o :: rest) a w := by
  obtain ⟨i, hi, hz, hsz, hb⟩ := info_parts info8
  cases A with
  | none =>
    obtain ⟨rfl, rfl⟩ := hnil rfl
    refine wpList_append_own_none hgd s x 22 ho base 5 i 1 Try.underlying22 hi v n _ hs hown hx ?_
    refine h v w ?_ h2 hap (Below.refl _ _)
    exact OwnB.congr hown fun j hj => by unfold catB; rw [if_pos (show j < n from hj)]
  | some ad =>
    refine wpList_append_own_at w hgd s x 22 ho base 5 i (.int .u8 0) 1 1 Try.underlying22 hi hz hsz hb rfl (by decide) v n _ hs hown ad m cap (bytesL m g) hx (by simp [bytesL]) ?_ (bytes_one m g) (by unfold maxLen; omega) (by omega) hbase ?_
    · intro j u hj
      obtain ⟨hjm, rfl⟩ := bytesL_get m g j u hj
      obtain ⟨B, off, e, _, hc⟩ := hA (by omega)
      obtain rfl : ad = ⟨B, off, none⟩ := Option.some.inj e
      rw [Go.WideShapes.add_plain]
      exact (hc j hjm).2
    · intro v' w' h1 hg _ hat
      rw [bytesL_cat] at h1
      refine h v' w' h1 (h2.grown hg hap) ?_ ((Below.refl base w).grown hg hbase fun k hk => (hown.lt k hk).1)
      rcases hat with e | e
      · intro b hb'
        rw [e] at hb'
        exact hap b hb'
      · intro b hb' hb2
        rw [e] at hb'
        injection hb' with hb'
        have := (World.ownsRow.lt h2 b hb2).2
        omega
/-- append, where another row stays as it is, as a run -/
theorem run_appW (w : World) (base : Nat) (v : Value) (n : Nat) (f : Nat → Nat) (hown : OwnB w base v n f) (ad : Addr) (m cap : Nat) (g : Nat → Nat) (hA : SlB w (some ad) m g) (hn : n + m ≤ 100000000000000) (hbase : base ≤ w.heap.size)
    (v2 : Value) (n2 : Nat) (f2 : Nat → Nat) (h2 : OwnB w base v2 n2 f2) (hap : Apart v v2) :
    ∃ v' w', (Builtin.append_ #[22, 22] 22 #[v, .slice (some ad) m cap]).run Try.prog w = .ok v' w' ∧ OwnB w' base v' (n + m) (catB n f g) ∧ OwnB w' base v2 n2 f2 ∧ Apart v' v2 ∧ Below base w w' := by
  obtain ⟨i, hi, hz, hsz, hb⟩ := info_parts info8
  obtain ⟨v', w', hr, h1, hg, _, hat⟩ := run_append_own_at (P := Try.prog) w base 22 22 5 i (.int .u8 0) 1 1 Try.underlying22 hi hz hsz hb rfl (by decide) v n _ hown ad m cap (bytesL m g) (by simp [bytesL])
    (fun j u hj => by
      obtain ⟨hjm, rfl⟩ := bytesL_get m g j u hj
      obtain ⟨B, off, e, _, hc⟩ := hA (by omega)
      obtain rfl : ad = ⟨B, off, none⟩ := Option.some.inj e
      rw [Go.WideShapes.add_plain]
      exact (hc j hjm).2) (bytes_one m g) (by unfold maxLen; omega) (by omega) hbase
  rw [bytesL_cat] at h1
  refine ⟨v', w', hr, h1, h2.grown hg hap, ?_, (Below.refl base w).grown hg hbase fun k hk => (hown.lt k hk).1⟩
  rcases hat with e | e
  · intro b hb'
    rw [e] at hb'
    exact hap b hb'
  · intro b hb' hb2
    rw [e] at hb'
    injection hb' with hb'
    have := (World.ownsRow.lt h2 b hb2).2
    omega
/-- append in a region that draws its order, where another row stays as it is -/
theorem step_appW {ops : Array Oper} {o : Oper} {a : Act} {w : World} {K : Act → World → Prop} {Q : Exit → Act → World → Prop} {E : Prop} (s x : Operand)
    (ho : o.op = .call { callee := .builtin .append, args := #[s, x], argTypes := #[22, 22] }) (ht : o.type = 22) (hw : Region.wanted o (yielded ops a.tmps) = true)
    (base : Nat) (v : Value) (n : Nat) (f : Nat → Nat) (hs : a.eval s = v) (hown : OwnB w base v n f)
    (ad : Addr) (m cap : Nat) (g : Nat → Nat) (hx : a.eval x = .slice (some ad) m cap) (hA : SlB w (some ad) m g) (hn : n + m ≤ 100000000000000) (hbase : base ≤ w.heap.size)
    (v2 : Value) (n2 : Nat) (f2 : Nat → Nat) (h2 : OwnB w base v2 n2 f2) (hap : Apart v v2)
    (h : ∀ v' w', OwnB w' base v' (n + m) (catB n f g) → OwnB w' base v2 n2 f2 → Apart v' v2 → Below base w w' → K (a.put o.dst v') w') :
    if Region.wanted o (yielded ops a.tmps) = true then Oper.wp Try.prog o a w K Q else E := by
  rw [if_pos hw]
  obtain ⟨v', w', hr, h1, h3, h4, h5⟩ := run_appW w base v n f hown ad m cap g hA hn hbase v2 n2 f2 h2 hap
  unfold Oper.wp
  simp [execOp, ho, ht, resolve, invoke, builtin, hs, hx, hr, Result.andThen]
  exact h v' w' h1 h3 h4 h5
/-- a row known whole, as one that may grow -/
theorem RowB.own {w : World} {g n base : Nat} {f : Nat → Nat} (h : RowB w g n f) (hb : base ≤ g) (hn : n ≤ maxLen) : OwnB w base (.slice (some ⟨g, 0, none⟩) n n) n f :=
  ⟨by simp [bytesL], Or.inr ⟨g, n, (bytesL n f).toArray, rfl, hb, h, Nat.le_refl _, hn, by simp [bytesL], by rw [Nat.mul_one, List.toList_toArray]; exact List.take_of_length_le (by simp [bytesL])⟩⟩
theorem OwnB.at0 {w : World} {base n st c : Nat} {f : Nat → Nat} (h : OwnB w base (.slice (some ⟨st, 0, none⟩) n c) n f) (hf : ∀ j, j < n → f j < 256) {j : Nat} (hj : j < n) : w.cell? ⟨st, j, none⟩ = some (.int .u8 (f j : Nat)) := by
  obtain ⟨A, c', e, hs⟩ := OwnB.slice h hf
  cases e
  obtain ⟨B, o, e, _, hc⟩ := hs (by omega)
  cases e
  have := (hc j hj).2
  rwa [Nat.zero_add] at this
theorem ownBlock_at (g n c : Nat) : (Value.slice (some ⟨g, 0, none⟩) n c).ownBlock = some g := rfl
end Go.Proofs.Ytgfdnhpfdbaddaa
