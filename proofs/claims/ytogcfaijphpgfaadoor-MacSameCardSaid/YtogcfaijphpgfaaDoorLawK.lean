/- What the laws of several layers need: rows that are owned, operations in a region that draws its order, rows of slices that grow. -/
import Derived.Test.YtogcfaijphpgfaaDoorLaw05a
import Derived.Test.YtogcfaijphpgfaaDoorLent
import Derived.Test.YtogcfaijphpgfaaDoorOwnA
import Derived.Test.YtogcfaijphpgfaaDoorOrdM
namespace Go.Proofs.YtogcfaijphpgfaaDoor
open Go.RowKit
/-- two rows, just put into a row -/
theorem owned_two (W : World) (A0 A1 : Option Addr) (n0 n1 c0 c1 g0 g1 : Nat) (f0 f1 : Nat → Nat) (B : Nat)
    (h0 : 0 < c0 → A0 = some ⟨g0, 0, none⟩ ∧ Arr W g0 0 c0 f0 ∧ B ≤ g0) (h1 : 0 < c1 → A1 = some ⟨g1, 0, none⟩ ∧ Arr W g1 0 c1 f1 ∧ B ≤ g1)
    (n01 : 0 < c0 → 0 < c1 → g0 ≠ g1) (l0 : c0 ≤ 140737488351300) (l1 : c1 ≤ 140737488351300) (hB : B ≤ W.heap.size) :
    Calls Tryd.prog 14 #[.slice (some ⟨W.heap.size, 0, none⟩) 2 2] (W.alloc (.cells #[.slice A0 n0 c0, .slice A1 n1 c1] 22)) fun e w' => e = .returned (.bool true) ∧ Below B W w' := by
  refine (owned_arr (R := 2) (A := t2 A0 A1) (n := t2 n0 n1) (c := t2 c0 c1) (g := t2 g0 g1) (f := t2 f0 f1) 2 _ (by decide) ⟨fun j hj => ?_, fun j hj hc => ?_⟩ ?_ ?_ ?_ ?_).mono ?_
  · rcases two_of hj with rfl | rfl <;> exact (World.cell?_alloc_at _ _ _ _ rfl).trans rfl
  · rcases two_of hj with rfl | rfl
    · exact ((h0 hc).2.1.alloc _).congr fun t _ => (ov_none (t2 f0 f1) 0 t).symm
    · exact ((h1 hc).2.1.alloc _).congr fun t _ => (ov_none (t2 f0 f1) 1 t).symm
  · intro j hj hc
    rcases two_of hj with rfl | rfl
    · exact (h0 hc).1
    · exact (h1 hc).1
  · intro i j hi hj hij ci cj
    rcases two_of hi with rfl | rfl <;> rcases two_of hj with rfl | rfl
    · exact absurd rfl hij
    · exact n01 ci cj
    · exact (n01 cj ci).symm
    · exact absurd rfl hij
  · intro j hj hc
    rcases two_of hj with rfl | rfl
    · exact Nat.ne_of_gt ((h0 hc).2.1.lt hc)
    · exact Nat.ne_of_gt ((h1 hc).2.1.lt hc)
  · intro j hj
    rcases two_of hj with rfl | rfl
    · exact l0
    · exact l1
  rintro e w' ⟨he, h⟩
  refine ⟨he, ((Below.refl W.heap.size W).alloc (Nat.le_refl _) _ |>.mono hB).trans (h.below (by simp; omega) fun k hk => ?_)⟩
  obtain ⟨j, hj, hc, rfl⟩ := hk
  rcases two_of hj with rfl | rfl
  · exact (h0 hc).2.2
  · exact (h1 hc).2.2
namespace ord
theorem makes_append {P : Program} {o : Oper} {a : Act} {w : World} {N : Value → World → Prop} {s x : Operand} {t : TypeId} {vs vx u : Value} {w' : World} (ho : o.op = .call { callee := .builtin .append, args := #[s, x], argTypes := #[t, t] }) (ht : o.type = t) (hs : a.eval s = vs) (hx : a.eval x = vx)
    (hrun : (Builtin.append_ #[t, t] t #[vs, vx]).run P w = .ok u w') (hN : N u w') : makes P o a w N := by
  unfold makes
  have : (execOp a.eval o).run P w = .ok (.value u) w' := by
    simp [execOp, ho, ht, resolve, invoke, builtin, hs, hx, hrun, Result.andThen]
  rw [this]; exact hN
theorem makes_build0 {P : Program} {o : Oper} {a : Act} {w : World} {N : Value → World → Prop} {t : TypeId} {len : Nat} {u : Value} {w' : World} (ho : o.op = .buildSlice t len #[]) (hrun : (Instr.buildSlice t len #[]).run P w = .ok u w') (hN : N u w') : makes P o a w N := makes_build ho (by simp) hrun hN
end ord
theorem str_same2 (w : World) (x y : Operand) (s : ByteArray) : (do eqGuard .eql 9 x y (.string s) (.string s); binOp .eql 9 (.string s) (.string s) : Sem Value).run Tryd.prog w = .ok (.bool true) w := by
  go_simp
theorem run_bytes0 (w : World) : (Instr.buildSlice 22 0 #[]).run Tryd.prog w = .ok (.slice (some ⟨w.heap.size, 0, none⟩) 0 0) (w.alloc (.cells #[] 5)) := by go_simp
/-- an own row of slices, its cells given by a function -/
def OwnS (w : World) (base : Nat) (v : Value) (k : Nat) (X : Nat → Value) : Prop := w.ownsRow base 22 1 v k (valsL k X)
namespace OwnS
variable {w w' : World} {base k : Nat} {v : Value} {X Y : Nat → Value}
theorem nil (w : World) (base : Nat) (X : Nat → Value) : OwnS w base (.slice none 0 0) 0 X := World.ownsRow_nil w base _ 1
theorem alloc (h : OwnS w base v k X) (o : Obj) : OwnS (w.alloc o) base v k X := World.ownsRow.alloc h o
theorem drewN (h : OwnS w base v k X) (m : Nat) : OwnS (w.drewN m) base v k X := h
theorem congr (h : OwnS w base v k X) (e : ∀ j, j < k → X j = Y j) : OwnS w base v k Y := by
  unfold OwnS at *; rw [← valsL_congr e]; exact h
theorem keep (h : OwnS w base v k X) (hb : Below w.heap.size w w') : OwnS w' base v k X := by
  rcases h with ⟨h1, h2 | ⟨g, cap, cur, e, hg, hh, r⟩⟩
  · exact ⟨h1, Or.inl h2⟩
  · exact ⟨h1, Or.inr ⟨g, cap, cur, e, hg, (hb.block g (Array.getElem?_eq_some_iff.1 hh).1).trans hh, r⟩⟩
theorem slice (h : OwnS w base v k X) (hk : 0 < k) : ∃ g c, v = .slice (some ⟨g, 0, none⟩) k c ∧ k ≤ c ∧ base ≤ g ∧ g < w.heap.size ∧ ∀ j, j < k → w.cell? ⟨g, j, none⟩ = some (X j) := by
  have hown := h
  rcases hown.2 with ⟨rfl, hn⟩ | ⟨g, cap, cur, rfl, hg, hh, h1, r⟩
  · omega
  · refine ⟨g, cap, rfl, h1, hg, (Array.getElem?_eq_some_iff.1 hh).1, fun j hj => ?_⟩
    rw [hown.cellAt j (by omega), valsL_at hj]
end OwnS
theorem infoSl : (Tryd.prog.info? 22).map (fun i => (i.zero, i.size, i.bytes)) = some (some (.slice none 0 0), 1, 24) := by kernel_rfl
theorem valsL_snoc (k : Nat) (X : Nat → Value) : valsL k X ++ [X k] = valsL (k + 1) X := by unfold valsL; rw [List.range_succ, List.map_append]; rfl
/-- append of one slice -/
theorem wpList_appV {ops : Array Oper} {rest : List Oper} {o : Oper} {a : Act} {Q : Exit → Act → World → Prop} {w : World} (hgd : o.guard = none) (s x : Operand)
    (ho : o.op = .call { callee := .builtin .append, args := #[s, x], argTypes := #[30, 30] })
    (base : Nat) (v : Value) (k : Nat) (X : Nat → Value) (hs : a.eval s = v) (h : OwnS w base v k X)
    (T : Nat) (hx : a.eval x = .slice (some ⟨T, 0, none⟩) 1 1) (hX : w.cell? ⟨T, 0, none⟩ = some (X k)) (h1 : (X k).oneCell' = true) (hk : k ≤ 1000) (hbase : base ≤ w.heap.size)
    (hq : ∀ v' w', OwnS w' base v' (k + 1) X → Below base w w' → wpList Tryd.prog ops Q rest (a.put o.dst v') w') : wpList Tryd.prog ops Q (o :: rest) a w := by
  obtain ⟨i, hi, hz, hsz, hb⟩ := info_parts infoSl
  refine wpList_append_own w hgd s x 30 ho base 22 i (.slice none 0 0) 1 24 Tryd.underlying30 hi hz hsz hb rfl (by decide) v k _ hs h ⟨T, 0, none⟩ 1 1 [X k] hx rfl ?_ ?_ (by unfold maxLen; omega) (by omega) hbase ?_
  · intro j u hj
    match j, hj with
    | 0, hj => simp at hj; subst hj; exact hX
  · intro u hu; simp at hu; subst hu; exact h1
  · intro v' w' h1 h2 _
    refine hq v' w' ?_ ((Below.refl base w).grown h2 hbase fun k hk => (h.lt k hk).1)
    unfold OwnS
    rw [← valsL_snoc]
    exact h1
namespace ord
theorem makes_len {P : Program} {o : Oper} {a : Act} {w : World} {N : Value → World → Prop} {s : Operand} {t ty : TypeId} {vs u : Value} (ho : o.op = .call { callee := .builtin .len, args := #[s], argTypes := #[t] }) (ht : o.type = ty) (hs : a.eval s = vs)
    (hrun : (Builtin.len_ #[t] ty #[vs]).run P w = .ok u w) (hN : N u w) : makes P o a w N := by
  unfold makes
  have : (execOp a.eval o).run P w = .ok (.value u) w := by
    simp [execOp, ho, ht, resolve, invoke, builtin, hs, hrun, Result.andThen]
  rw [this]; exact hN
end ord
theorem run_len8 (A : Option Addr) (n c : Nat) (w : World) : (Builtin.len_ #[22] 3 #[.slice A n c]).run Tryd.prog w = .ok (.int .i64 (n : Int)) w := by go_simp
end Go.Proofs.YtogcfaijphpgfaaDoor
