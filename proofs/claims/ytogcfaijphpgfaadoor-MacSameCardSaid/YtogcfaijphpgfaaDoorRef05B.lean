/- The reference: rows of ints that grow; the words of a block. -/
import Derived.Test.YtogcfaijphpgfaaDoorRef05A
namespace Go.Proofs.YtogcfaijphpgfaaDoor
open Go.RowKit
theorem infoI : (Tryd.prog.info? 3).map (fun i => (i.zero, i.size, i.bytes)) = some (some (.int .i64 0), 1, 8) := by kernel_rfl
/-- a row of ints that grows by append -/
def OwnI (w : World) (base : Nat) (v : Value) (n : Nat) (f : Nat → Nat) : Prop := w.ownsRow base 3 1 v n (valsL n (ints f))
namespace OwnI
variable {w w' : World} {base n : Nat} {v : Value} {f f' : Nat → Nat}
theorem nil (w : World) (base : Nat) (f : Nat → Nat) : OwnI w base (.slice none 0 0) 0 f := World.ownsRow_nil w base _ 1
theorem alloc (h : OwnI w base v n f) (o : Obj) : OwnI (w.alloc o) base v n f := World.ownsRow.alloc h o
theorem drewN (h : OwnI w base v n f) (k : Nat) : OwnI (w.drewN k) base v n f := h
theorem drew (h : OwnI w base v n f) : OwnI w.drew base v n f := h
theorem congr (h : OwnI w base v n f) (e : ∀ j, j < n → f j = f' j) : OwnI w base v n f' := by
  have : valsL n (ints f) = valsL n (ints f') := valsL_congr fun j hj => by show Value.int _ _ = Value.int _ _; rw [e j hj]
  unfold OwnI at *; rw [← this]; exact h
theorem keep (h : OwnI w base v n f) (hb : Below w.heap.size w w') : OwnI w' base v n f := by
  rcases h with ⟨h1, h2 | ⟨g, cap, cur, e, hg, hh, r⟩⟩
  · exact ⟨h1, Or.inl h2⟩
  · exact ⟨h1, Or.inr ⟨g, cap, cur, e, hg, (hb.block g (Array.getElem?_eq_some_iff.1 hh).1).trans hh, r⟩⟩
theorem slice (h : OwnI w base v n f) : ∃ A c, v = .slice A n c ∧ n ≤ c ∧ c ≤ maxLen ∧ (0 < n → ∃ g, A = some ⟨g, 0, none⟩ ∧ base ≤ g ∧ ArrV w g 0 n (ints f)) ∧ (A = none → n = 0 ∧ c = 0) := by
  rcases h.2 with ⟨rfl, hn⟩ | ⟨g, cap, cur, rfl, hg, hh, h1, h2, h3, h4⟩
  · subst hn; exact ⟨none, 0, rfl, Nat.le_refl _, by unfold maxLen; omega, fun h => absurd h (Nat.lt_irrefl _), fun _ => ⟨rfl, rfl⟩⟩
  · refine ⟨_, cap, rfl, h1, h2, fun _ => ⟨g, rfl, hg, fun j hj => ?_⟩, fun h => by cases h⟩
    have e := congrArg (fun l => l[j]?) h4
    simp only [Nat.mul_one, List.getElem?_take, if_pos hj] at e
    rw [valsL_at hj] at e
    have e' : cur[j]? = some (ints f j) := by simpa using e
    rw [Nat.zero_add]
    exact ⟨by simp [World.cell?, hh, e'], by simp [World.frozen?, hh]⟩
end OwnI
theorem ints_snoc (n : Nat) (f : Nat → Nat) (x : Nat) (hx : x = f n) : valsL n (ints f) ++ [.int .i64 (x : Nat)] = valsL (n + 1) (ints f) := by
  subst hx
  unfold valsL; rw [List.range_succ, List.map_append]; rfl
/-- append of one int, as one step of a region that draws its order -/
theorem step_app1I {ops : Array Oper} {o : Oper} {a : Act} {w : World} {K : Act → World → Prop} {Q : Exit → Act → World → Prop} {E : Prop} (hgd : o.guard = none) (s x : Operand)
    (ho : o.op = .call { callee := .builtin .append, args := #[s, x], argTypes := #[68, 68] })
    (base : Nat) (v : Value) (n : Nat) (f : Nat → Nat) (hs : a.eval s = v) (hown : OwnI w base v n f)
    (g y : Nat) (hx : a.eval x = .slice (some ⟨g, 0, none⟩) 1 1) (hc : w.cell? ⟨g, 0, none⟩ = some (.int .i64 (y : Nat))) (hn : n ≤ 1000000000000) (hbase : base ≤ w.heap.size) (hy : y = f n)
    (h : ∀ v' w', OwnI w' base v' (n + 1) f → Below base w w' → K (a.put o.dst v') w') :
    if Region.wanted o (yielded ops a.tmps) = true then Oper.wp Tryd.prog o a w K Q else E := by
  have hw : Region.wanted o (yielded ops a.tmps) = true := by simp [Region.wanted, hgd]
  rw [if_pos hw]
  obtain ⟨i, hi, hz, hsz, hb⟩ := info_parts infoI
  refine wp_append_own w s x 68 ho base 3 i (.int .i64 0) 1 8 Tryd.underlying68 hi hz hsz hb rfl (by decide) v n _ hs hown ⟨g, 0, none⟩ 1 1 [.int .i64 (y : Nat)] hx rfl ?_ ?_ (by unfold maxLen; omega) (by omega) hbase ?_
  · intro j u hj
    match j, hj with
    | 0, hj => simp at hj; subst hj; exact hc
  · intro u hu; simp at hu; subst hu; rfl
  · intro v' w' h1 h2 _
    rw [ints_snoc n f y hy] at h1
    exact h v' w' h1 ((Below.refl base w).grown h2 hbase fun k hk => (hown.lt k hk).1)
theorem wn_stable (b : Nat → Nat) (n : Nat) : ∀ d j, j < 16 + n → wn b (n + d) j = wn b n j
  | 0, _, _ => rfl
  | d + 1, j, hj => by
    show wn b ((n + d) + 1) j = _
    rw [wn, if_neg (by omega)]
    exact wn_stable b n d j hj
theorem wn_first (b : Nat → Nat) (j : Nat) (hj : j < 16) : wn b 48 j = be b (4 * j) := by
  rw [show (48 : Nat) = 0 + 48 from rfl, wn_stable b 0 48 j (by omega), wn, if_pos hj]
theorem wn_next (b : Nat → Nat) (t : Nat) (h1 : 16 ≤ t) (h2 : t < 64) : wn b 48 t = (wn b 48 (t - 16) + ls0 (wn b 48 (t - 15)) + wn b 48 (t - 7) + ls1 (wn b 48 (t - 2))) % 4294967296 := by
  obtain ⟨n, rfl⟩ : ∃ n, t = 16 + n := ⟨t - 16, by omega⟩
  have e1 : wn b 48 (16 + n) = wn b (n + 1) (16 + n) := by
    rw [show (48 : Nat) = (n + 1) + (47 - n) by omega]; exact wn_stable b (n + 1) (47 - n) _ (by omega)
  have e2 : ∀ j, j < 16 + n → wn b 48 j = wn b n j := fun j hj => by
    conv => lhs; rw [show (48 : Nat) = n + (48 - n) by omega]
    exact wn_stable b n (48 - n) j hj
  rw [e1, wn, if_pos rfl, e2 (16 + n - 16) (by omega), e2 (16 + n - 15) (by omega), e2 (16 + n - 7) (by omega), e2 (16 + n - 2) (by omega),
    show 16 + n - 16 = n by omega, show 16 + n - 15 = n + 1 by omega, show 16 + n - 7 = n + 9 by omega, show 16 + n - 2 = n + 14 by omega]
end Go.Proofs.YtogcfaijphpgfaaDoor
