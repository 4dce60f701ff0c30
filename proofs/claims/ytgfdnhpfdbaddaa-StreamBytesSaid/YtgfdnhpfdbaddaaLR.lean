/- A row of rows of bytes that grows by append. -/
import Derived.Test.YtgfdnhpfdbaddaaArr
namespace Go.Proofs.Ytgfdnhpfdbaddaa
open Go.RowKit

/-- v holds k rows of len bytes each, in the call's own memory from base on -/
structure LR (base : Nat) (w : World) (v : Value) (k len : Nat) (S : Nat → Nat → Nat) (G C : Nat → Nat) : Prop where
  own : w.ownsRow base 22 1 v k ((List.range k).map fun j => .slice (some ⟨G j, 0, none⟩) len (C j))
  rows : ∀ j, j < k → RowX w (G j) 5 len (fun t => .int .u8 (S j t : Nat))
namespace LR
variable {base k len : Nat} {w w' : World} {v : Value} {S : Nat → Nat → Nat} {G C : Nat → Nat}
theorem nil (base : Nat) (w : World) (len : Nat) (S : Nat → Nat → Nat) (G C : Nat → Nat) : LR base w (.slice none 0 0) 0 len S G C := ⟨World.ownsRow_nil w base _ 1, fun _ hj => absurd hj (Nat.not_lt_zero _)⟩
theorem keepB {B : Nat} (h : LR base w v k len S G C) (hb : Below B w w') (hB : w.heap.size ≤ B) : LR base w' v k len S G C := by
  refine ⟨?_, fun j hj => (h.rows j hj).below hb (Nat.lt_of_lt_of_le (h.rows j hj).lt hB)⟩
  rcases h.own with ⟨h1, h2 | ⟨g, cap, cur, e, hg, hh, r⟩⟩
  · exact ⟨h1, Or.inl h2⟩
  · exact ⟨h1, Or.inr ⟨g, cap, cur, e, hg, (hb.block g (Nat.lt_of_lt_of_le (Array.getElem?_eq_some_iff.1 hh).1 hB)).trans hh, r⟩⟩
theorem keep (h : LR base w v k len S G C) (hb : Below w.heap.size w w') : LR base w' v k len S G C := h.keepB hb (Nat.le_refl _)
theorem alloc' (h : LR base w v k len S G C) (o : Obj) : LR base (w.alloc o) v k len S G C := h.keep ((Below.refl _ _).alloc (Nat.le_refl _) o)
/-- a block of another kind of cells, or none of its rows, may change -/
theorem chg {K : Nat} (h : LR base w v k len S G C) (hc : Chg K w w') (hK : ∀ j, j < k → G j ≠ K) (hT : ∀ c fr, w.heap[K]? ≠ some (.cells c 22 fr)) : LR base w' v k len S G C := by
  refine ⟨?_, fun j hj => (h.rows j hj).of_block (hc.block _ (h.rows j hj).lt (hK j hj))⟩
  rcases h.own with ⟨h1, h2 | ⟨g, cap, cur, e, hg, hh, r⟩⟩
  · exact ⟨h1, Or.inl h2⟩
  · exact ⟨h1, Or.inr ⟨g, cap, cur, e, hg, (hc.block g (Array.getElem?_eq_some_iff.1 hh).1 (fun e' => hT _ _ (e' ▸ hh))).trans hh, r⟩⟩
theorem base_le {B : Nat} (h : LR base w v k len S G C) (hB : B ≤ base) : LR B w v k len S G C := by
  refine ⟨?_, h.rows⟩
  rcases h.own with ⟨h1, h2 | ⟨g, cap, cur, e, hg, r⟩⟩
  · exact ⟨h1, Or.inl h2⟩
  · exact ⟨h1, Or.inr ⟨g, cap, cur, e, Nat.le_trans hB hg, r⟩⟩
theorem slice (h : LR base w v k len S G C) : ∃ A cap, v = .slice A k cap ∧ k ≤ cap ∧ (0 < k → ∃ g, A = some ⟨g, 0, none⟩ ∧ g < w.heap.size ∧ ∀ j, j < k → w.cell? ⟨g, j, none⟩ = some (.slice (some ⟨G j, 0, none⟩) len (C j))) := by
  have hown := h.own
  rcases hown.2 with ⟨rfl, hn⟩ | ⟨g, cap, cur, rfl, hg, hh, h1, r⟩
  · subst hn; exact ⟨none, 0, rfl, Nat.le_refl _, fun h => absurd h (Nat.lt_irrefl _)⟩
  · refine ⟨_, cap, rfl, h1, fun _ => ⟨g, rfl, (Array.getElem?_eq_some_iff.1 hh).1, fun j hj => ?_⟩⟩
    rw [hown.cellAt j (by omega), List.getElem?_map, List.getElem?_range hj]; rfl
end LR
theorem infoS' : (Try.prog.info? 22).map (fun i => (i.zero, i.size, i.bytes)) = some (some (.slice none 0 0), 1, 24) := by kernel_rfl
/-- append of one row -/
theorem wpList_appS {ops : Array Oper} {rest : List Oper} {o : Oper} {a : Act} {Q : Exit → Act → World → Prop} {w : World} (hgd : o.guard = none) (s x : Operand)
    (ho : o.op = .call { callee := .builtin .append, args := #[s, x], argTypes := #[30, 30] })
    (base : Nat) (v : Value) (k len : Nat) (S : Nat → Nat → Nat) (G C : Nat → Nat) (hs : a.eval s = v) (h : LR base w v k len S G C)
    (X T cT : Nat) (hx : a.eval x = .slice (some ⟨X, 0, none⟩) 1 1) (hX : w.cell? ⟨X, 0, none⟩ = some (.slice (some ⟨T, 0, none⟩) len cT)) (hT : RowX w T 5 len (fun t => .int .u8 (S k t : Nat))) (hk : k ≤ 1000) (hbase : base ≤ w.heap.size)
    (hq : ∀ v' w', LR base w' v' (k + 1) len S (fun j => if j = k then T else G j) (fun j => if j = k then cT else C j) → Below base w w' → wpList Try.prog ops Q rest (a.put o.dst v') w') : wpList Try.prog ops Q (o :: rest) a w := by
  obtain ⟨i, hi, hz, hsz, hb⟩ := info_parts infoS'
  refine wpList_append_own w hgd s x 30 ho base 22 i (.slice none 0 0) 1 24 Try.underlying30 hi hz hsz hb rfl (by decide) v k _ hs h.own ⟨X, 0, none⟩ 1 1 [.slice (some ⟨T, 0, none⟩) len cT] hx rfl ?_ ?_ (by unfold maxLen; omega) (by omega) hbase ?_
  · intro j u hj
    match j, hj with
    | 0, hj => simp at hj; subst hj; exact hX
  · intro u hu; simp at hu; subst hu; rfl
  · intro v' w' h1 h2 _
    have hb' : Below base w w' := (Below.refl base w).grown h2 hbase fun k hk => (h.own.lt k hk).1
    have keepRow : ∀ g f, RowX w g 5 len f → RowX w' g 5 len f := fun g f hr => hr.of_block (h2.block g hr.lt fun e => by
      rcases h.own.2 with ⟨rfl, _⟩ | ⟨g', cap, cur, rfl, hg, hh, _⟩
      · cases e
      · obtain rfl : g = g' := by simpa [Value.ownBlock] using e
        obtain ⟨c, fr, hc, _⟩ := hr
        rw [hh] at hc
        injection hc with hc
        injection hc with _ ht _
        exact absurd ht (by decide))
    refine hq v' w' ⟨?_, fun j hj => ?_⟩ hb'
    · rw [List.range_succ, List.map_append]
      have e1 : (List.range k).map (fun j => Value.slice (some ⟨G j, 0, none⟩) len (C j)) = (List.range k).map (fun j => Value.slice (some ⟨if j = k then T else G j, 0, none⟩) len (if j = k then cT else C j)) :=
        List.map_congr_left fun j hj => by
          have hne : ¬ j = k := Nat.ne_of_lt (List.mem_range.1 hj)
          rw [if_neg hne, if_neg hne]
      rw [← e1]
      simpa using h1
    · by_cases e : j = k
      · subst e; rw [if_pos rfl]; exact keepRow _ _ hT
      · rw [if_neg e]; exact keepRow _ _ (h.rows j (by omega))
/-- an own row of bytes, as a row -/
theorem OwnB.rowX {w : World} {base n : Nat} {v : Value} {f : Nat → Nat} (h : OwnB w base v n f) (hn : 0 < n) : ∃ g c, v = .slice (some ⟨g, 0, none⟩) n c ∧ base ≤ g ∧ n ≤ c ∧ RowX w g 5 n (fun t => .int .u8 (f t : Nat)) := by
  rcases h.2 with ⟨rfl, hx⟩ | ⟨g, cap, cur, rfl, hg, hh, h1, h2, h3, h4⟩
  · omega
  · refine ⟨g, cap, rfl, hg, h1, cur, (0, 0), hh, by omega, Or.inl rfl, fun i hi => ?_⟩
    have e := congrArg (fun l => l[i]?) h4
    simp only [Nat.mul_one, List.getElem?_take, if_pos hi] at e
    rw [bytesL_at hi] at e
    simpa using e
theorem RowX.arr {w : World} {g n : Nat} {f : Nat → Nat} (h : RowX w g 5 n (fun t => .int .u8 (f t : Nat))) : Arr w g 0 n f := fun j hj => by
  rw [Nat.zero_add]; exact ⟨h.cell hj, h.frozen hj⟩
theorem RowX.slB {w : World} {g n : Nat} {f : Nat → Nat} (h : RowX w g 5 n (fun t => .int .u8 (f t : Nat))) (hf : By n f) : SlB w (some ⟨g, 0, none⟩) n f := SlB.of_rowX h fun j hj => ⟨hf j hj, rfl⟩
end Go.Proofs.Ytgfdnhpfdbaddaa
