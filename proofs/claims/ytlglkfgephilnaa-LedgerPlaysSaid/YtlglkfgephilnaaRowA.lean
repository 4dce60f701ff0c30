/- Rows of structs: append. -/
import Derived.Test.YtlglkfgephilnaaRowS
import Derived.Maps.AppendAt
namespace Go.Proofs.Ytlglkfgephilnaa
set_option maxRecDepth 100000
open Go.RowKit
section
variable {α : Type} {E : Enc α} {F G : List α}
/-- the types of a row: S the slice's, T the element's -/
structure RowTy (P : Program) (E : Enc α) (S T : TypeId) (z : Value) (b : Nat) : Prop where
  und : P.underlying S = some (.slice T)
  info : (P.info? T).map (fun i => (i.zero, i.size, i.bytes)) = some (some z, E.k, b)
  zero : z.cells.size = E.k
/-- append of such elements, as a run -/
theorem run_appL {P : Program} {S T : TypeId} {z : Value} {b : Nat} (hT : RowTy P E S T z b) (w : World) (base : Nat) (v : Value) (F : List α) (hown : OwL E T w base v F) (A : Option Addr) (cap : Nat) (G : List α) (hA : LiS E w A G) (hnil : A = none → G.length = 0 ∧ cap = 0)
    (hn : (F.length + G.length) * b ≤ 140737488355328) (hn2 : F.length + G.length ≤ 140737488355328) (hbase : base ≤ w.heap.size) :
    ∃ A' c' w', (Builtin.append_ #[S, S] S #[v, .slice A G.length cap]).run P w = .ok (.slice A' (F.length + G.length) c') w' ∧ OwL E T w' base (.slice A' (F.length + G.length) c') (F ++ G) ∧ w.grownBy w' v.ownBlock ∧ ((Value.slice A' (F.length + G.length) c').ownBlock = v.ownBlock ∨ (Value.slice A' (F.length + G.length) c').ownBlock = some w.heap.size) ∧ Below base w w' := by
  obtain ⟨i, hi, hz, hsz, hb⟩ := info_parts hT.info
  have fin : ∀ v' w', (Builtin.append_ #[S, S] S #[v, .slice A G.length cap]).run P w = .ok v' w' → OwL E T w' base v' (F ++ G) → w.grownBy w' v.ownBlock → (v'.ownBlock = v.ownBlock ∨ v'.ownBlock = some w.heap.size) → Below base w w' →
      ∃ A' c' w', (Builtin.append_ #[S, S] S #[v, .slice A G.length cap]).run P w = .ok (.slice A' (F.length + G.length) c') w' ∧ OwL E T w' base (.slice A' (F.length + G.length) c') (F ++ G) ∧ w.grownBy w' v.ownBlock ∧ ((Value.slice A' (F.length + G.length) c').ownBlock = v.ownBlock ∨ (Value.slice A' (F.length + G.length) c').ownBlock = some w.heap.size) ∧ Below base w w' := fun v' w' h1 h2 h4 h5 h3 => by
    obtain ⟨A2, c2, rfl, _⟩ := OwL.cap_le h2
    rw [List.length_append] at h1 h2 h5
    exact ⟨A2, c2, w', h1, h2, h4, h5, h3⟩
  cases A with
  | none =>
    obtain ⟨h0, rfl⟩ := hnil rfl
    obtain rfl : G = [] := List.eq_nil_of_length_eq_zero h0
    refine fin v w (run_append_owned_none (P := P) (w := w) base S S T i E.k hT.und hi v F.length _ hown) ?_ ⟨rfl, rfl, rfl, Nat.le_refl _, fun _ _ _ => rfl⟩ (Or.inl rfl) (Below.refl _ _)
    rw [List.append_nil]; exact hown
  | some ad =>
    obtain ⟨v', w', hr, h2, h3, _, h5⟩ := run_append_own_at (P := P) w base S S T i z E.k b hT.und hi hz hsz hb hT.zero E.pos v F.length _ hown ad G.length cap (E.fl G) (Enc.fl_len G)
      (fun j u hj => by
        have hjl : j < G.length * E.k := by rw [← Enc.fl_len]; exact (List.getElem?_eq_some_iff.1 hj).1
        have hg : 0 < G.length := by
          rcases Nat.eq_zero_or_pos G.length with h | h
          · rw [h] at hjl; omega
          · exact h
        obtain ⟨B, off, e, _, hc⟩ := hA hg
        obtain rfl : ad = ⟨B, off, none⟩ := Option.some.inj e
        rw [Go.WideShapes.add_plain]
        exact hc j u hj) (Enc.fl_one G) (by unfold maxLen; omega) hn hbase
    refine fin v' w' hr ?_ h3 h5 ((Below.refl base w).grown h3 hbase fun k hk => (hown.lt k hk).1)
    unfold OwL
    rw [Enc.fl_app, List.length_append]
    exact h2
/-- append where its run is known -/
theorem wpList_runL {P : Program} {S : TypeId} {ops : Array Oper} {rest : List Oper} {o : Oper} {a : Act} {Q : Exit → Act → World → Prop} {w : World} (s x : Operand)
    (ho : o.op = .call { callee := .builtin .append, args := #[s, x], argTypes := #[S, S] }) (ht : o.type = S) (hw : Region.wanted o (yielded ops a.tmps) = true)
    {v xv v' : Value} {w' : World} (hs : a.eval s = v) (hx : a.eval x = xv) (hrun : (Builtin.append_ #[S, S] S #[v, xv]).run P w = .ok v' w')
    (h : wpList P ops Q rest (a.put o.dst v') w') : wpList P ops Q (o :: rest) a w := by
  refine wpList_step fun K hK => ?_
  rw [if_pos hw]
  unfold Oper.wp
  simp [execOp, ho, ht, resolve, invoke, builtin, hs, hx, hrun, Result.andThen]
  exact hK _ _ h
/-- an element in a block of its own -/
theorem one_el {T : TypeId} (w : World) (x : α) : LiS E (w.alloc (.cells (E.e x).toArray T)) (some ⟨w.heap.size, 0, none⟩) [x] := fun _ =>
  ⟨w.heap.size, 0, rfl, by simp, fun q v hq => by
    rw [Enc.fl_cons, Enc.fl_nil, List.append_nil] at hq
    rw [Nat.zero_add]
    exact (World.cell?_alloc_at _ _ _ _ rfl).trans (by simpa using hq)⟩
/-- one cell of an own row stored -/
theorem OwL.set1 {T : TypeId} {w : World} {base g n c j i : Nat} {x y : α} {u : Value} (h : OwL E T w base (.slice (some ⟨g, 0, none⟩) n c) F) (hn : n = F.length) (hj : F[j]? = some x) (hi : i < E.k) (hy : E.e y = (E.e x).set i u) :
    OwL E T (w.setCell ⟨g, j * E.k + i, none⟩ u) base (.slice (some ⟨g, 0, none⟩) n c) (F.set j y) ∧ w.grownBy (w.setCell ⟨g, j * E.k + i, none⟩ u) (some g) := by
  subst hn
  obtain ⟨h1, h2⟩ := World.ownsRow.stored h (j * E.k + i) u
  refine ⟨?_, h2⟩
  unfold OwL
  rw [List.length_set, Enc.fl_set hj hi hy]
  exact h1
end
end Go.Proofs.Ytlglkfgephilnaa
