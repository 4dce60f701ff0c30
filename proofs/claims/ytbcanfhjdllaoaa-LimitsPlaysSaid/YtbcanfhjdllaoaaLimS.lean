/- Layer 16: a book of uses in memory, changed: what is stored, what a call leaves; append in a region that draws its order. -/
import Derived.Test.YtbcanfhjdllaoaaRef16B
import Derived.Test.YtbcanfhjdllaoaaLimC
import Derived.Test.YtbcanfhjdllaoaaLimU
import Derived.Test.YtbcanfhjdllaoaaOrdX
import Derived.Test.YtbcanfhjdllaoaaOrdI
import Derived.Test.YtbcanfhjdllaoaaOrdZ
namespace Go.Proofs.Ytbcanfhjdllaoaa
set_option maxRecDepth 100000
open Go.RowKit
/-- what a call leaves of a book: its uses are L', in a row v' -/
def RkS (u : World) (X : Nat) (w : World) (v : Value) (w' : World) (L' : List Us) : Prop :=
  ∃ v', RBk u X w' L' v' ∧ ChgS (fun k => k = X ∨ v.ownBlock = some k) w w' ∧ ∀ g, v'.ownBlock = some g → v.ownBlock = some g ∨ w.heap.size ≤ g
theorem RkS.same {u w w' : World} {X : Nat} {L : List Us} {v : Value} (h : RBk u X w L v) (hb : Below w.heap.size w w') : RkS u X w v w' L :=
  ⟨v, h.keep hb, ChgS.of_below hb, fun _ hg => Or.inl hg⟩
/-- a call behind others that kept the book -/
theorem RkS.after {u w w1 w' : World} {X : Nat} {L' : List Us} {v : Value} (hb : Below w.heap.size w w1) (h : RkS u X w1 v w' L') : RkS u X w v w' L' := by
  obtain ⟨v', h1, h2, h3⟩ := h
  refine ⟨v', h1, (ChgS.of_below hb).trans h2, fun g hg => ?_⟩
  rcases h3 g hg with h | h
  · exact Or.inl h
  · exact Or.inr (Nat.le_trans hb.size h)
theorem RkS.then {u w w1 w' : World} {X : Nat} {L' : List Us} {v : Value} (h : RkS u X w v w1 L') (hb : Below w1.heap.size w1 w') : RkS u X w v w' L' := by
  obtain ⟨v', h1, h2, h3⟩ := h
  exact ⟨v', h1.keep hb, h2.trans (ChgS.of_below hb), h3⟩
theorem OwL.setNe {T : TypeId} {w : World} {base : Nat} {v : Value} {F : List Us} (h : OwL usE T w base v F) {a : Addr} (ha : ∀ g, v.ownBlock = some g → g ≠ a.block) (x : Value) : OwL usE T (w.setCell a x) base v F := by
  rcases h with ⟨h1, h2 | ⟨g, cap, cur, e, hg, hh, r⟩⟩
  · exact ⟨h1, Or.inl h2⟩
  · exact ⟨h1, Or.inr ⟨g, cap, cur, e, hg, (Below.heap_setCell w a x g (ha g (by rw [e]; rfl))).trans hh, r⟩⟩
/-- another row stored -/
theorem RBk.store {u w : World} {X : Nat} {L' : List Us} {v v' : Value} (bel : Below u.heap.size u w) (uX : u.heap.size ≤ X) (cell : w.cell? ⟨X, 0, none⟩ = some v) (froz : w.frozen? ⟨X, 0, none⟩ = false) (own : OwL usE 31 w u.heap.size v' L') (ne : ∀ g, v'.ownBlock = some g → g ≠ X) (ok : BkOk L') :
    RBk u X (w.setCell ⟨X, 0, none⟩ v') L' v' :=
  ⟨bel.setCell uX _, uX, World.cell?_setCell_same _ ⟨X, 0, none⟩ _ cell, by rw [World.frozen?_setCell]; exact froz, own.setNe (a := ⟨X, 0, none⟩) ne v', ne, ok⟩
/-- one cell of a use stored -/
theorem RBk.cell1 {u w : World} {X : Nat} {L : List Us} {g c k i : Nat} {y : Us} {x : Value} (h : RBk u X w L (.slice (some ⟨g, 0, none⟩) L.length c)) (hk : k < L.length) (hi : i < 4) (hy : usE.e y = (usE.e L[k]).set i x) (hc : y.c = L[k].c) (ok : UsOk y) :
    RBk u X (w.setCell ⟨g, k * 4 + i, none⟩ x) (L.set k y) (.slice (some ⟨g, 0, none⟩) (L.set k y).length c) ∧ ChgS (fun j => j = X ∨ some g = some j) w (w.setCell ⟨g, k * 4 + i, none⟩ x) := by
  have hgX : g ≠ X := h.ne g rfl
  obtain ⟨s1, _⟩ := h.own.set1 rfl (List.getElem?_eq_getElem hk) (i := i) hi hy
  have hgb := (h.own.lt g rfl).1
  refine ⟨⟨h.bel.setCell hgb _, h.uX, (World.cell?_setCell_other w ⟨g, k * 4 + i, none⟩ ⟨X, 0, none⟩ _ (fun e => hgX (congrArg Addr.block e))).trans (h.cell.trans (by rw [List.length_set])), by rw [World.frozen?_setCell]; exact h.froz, by rw [List.length_set]; exact s1, fun q hq => h.ne q hq, ?_⟩, (ChgS.refl _ w).setCell (a := ⟨g, k * 4 + i, none⟩) (Or.inr rfl) _⟩
  rw [← set_at h.ok.apart hk hc]
  exact set_ok h.ok ok
/-- window, times and sum of a card's use stored -/
theorem RBk.cells3 {u w : World} {X : Nat} {L : List Us} {g c k : Nat} {q : Us} (h : RBk u X w L (.slice (some ⟨g, 0, none⟩) L.length c)) (hk : k < L.length) (hc : q.c = L[k].c) (ok : UsOk q) :
    RBk u X (((w.setCell ⟨g, k * 4 + 1, none⟩ (.int .i64 q.w)).setCell ⟨g, k * 4 + 2, none⟩ (.int .i64 q.n)).setCell ⟨g, k * 4 + 3, none⟩ (.int .i64 q.s)) (setU L q) (.slice (some ⟨g, 0, none⟩) (setU L q).length c) ∧
    ChgS (fun j => j = X ∨ some g = some j) w (((w.setCell ⟨g, k * 4 + 1, none⟩ (.int .i64 q.w)).setCell ⟨g, k * 4 + 2, none⟩ (.int .i64 q.n)).setCell ⟨g, k * 4 + 3, none⟩ (.int .i64 q.s)) := by
  have e := h.ok.each _ (List.getElem_mem hk)
  obtain ⟨a1, b1⟩ := h.cell1 hk (i := 1) (y := ⟨L[k].c, q.w, L[k].n, L[k].s⟩) (x := .int .i64 q.w) (by decide) rfl rfl ⟨e.c1, e.c32, ok.w0, e.n0, e.nB, e.s0, e.sB, ok.wB⟩
  have hk2 : k < (L.set k ⟨L[k].c, q.w, L[k].n, L[k].s⟩).length := by rw [List.length_set]; exact hk
  obtain ⟨a2, b2⟩ := a1.cell1 hk2 (i := 2) (y := ⟨L[k].c, q.w, q.n, L[k].s⟩) (x := .int .i64 q.n) (by decide) (by rw [List.getElem_set_self]; rfl) (by rw [List.getElem_set_self]) ⟨e.c1, e.c32, ok.w0, ok.n0, ok.nB, e.s0, e.sB, ok.wB⟩
  rw [List.set_set] at a2
  have hk3 : k < (L.set k ⟨L[k].c, q.w, q.n, L[k].s⟩).length := by rw [List.length_set]; exact hk
  obtain ⟨a3, b3⟩ := a2.cell1 hk3 (i := 3) (y := ⟨L[k].c, q.w, q.n, q.s⟩) (x := .int .i64 q.s) (by decide) (by rw [List.getElem_set_self]; rfl) (by rw [List.getElem_set_self]) ⟨e.c1, e.c32, ok.w0, ok.n0, ok.nB, ok.s0, ok.sB, ok.wB⟩
  rw [List.set_set, ← hc, ← set_at h.ok.apart hk hc] at a3
  exact ⟨a3, (b1.trans b2).trans b3⟩
/-! ### append in a region that draws its order: na appends, nb builds the row of one -/
structure JA (u w0 : World) (X : Nat) (L : List Us) (v : Value) (q : Us) (H na nb : Nat) (c : Nat → Option Value) (w : World) : Prop where
  pre : c na = none → RBk u X w L v
  post : ∀ x, c na = some x → OwL usE 31 w u.heap.size x (L ++ [q]) ∧ ∀ g, x.ownBlock = some g → g ≠ X ∧ (v.ownBlock = some g ∨ w0.heap.size ≤ g)
  bel : Below u.heap.size u w
  cell : w.cell? ⟨X, 0, none⟩ = some v
  froz : w.frozen? ⟨X, 0, none⟩ = false
  box : w.heap[H]? = some (.cells #[.string q.c, .int .i64 q.w, .int .i64 q.n, .int .i64 q.s] 31)
  lit : c na = none → ∀ x, c nb = some x → ∃ h, x = .slice (some ⟨h, 0, none⟩) 1 1 ∧ LiS usE w (some ⟨h, 0, none⟩) [q]
  chg : ChgS (fun k => v.ownBlock = some k) w0 w
section
variable {u w0 w w' : World} {X H na nb : Nat} {L : List Us} {v : Value} {q : Us} {c : Nat → Option Value}
theorem JA.start (h : RBk u X w L v) (hH : w.heap[H]? = some (.cells #[.string q.c, .int .i64 q.w, .int .i64 q.n, .int .i64 q.s] 31)) : JA u w X L v q H na nb (fun _ => none) w.drew where
  pre := fun _ => h.keep ((Below.refl _ _).drew)
  post := fun x hx => by cases hx
  bel := h.bel.drew
  cell := h.cell
  froz := h.froz
  box := hH
  lit := fun _ x hx => by cases hx
  chg := (ChgS.refl _ w).drewN 1
theorem JA.keep (h : JA u w0 X L v q H na nb c w) {i : Nat} (h1 : i ≠ na) (h2 : i ≠ nb) (y : Value) : JA u w0 X L v q H na nb (ord.updZ c i y) w := by
  have e1 : ord.updZ c i y na = c na := if_neg (Ne.symm h1)
  have e2 : ord.updZ c i y nb = c nb := if_neg (Ne.symm h2)
  exact ⟨by rw [e1]; exact h.pre, by rw [e1]; exact h.post, h.bel, h.cell, h.froz, h.box, by rw [e1, e2]; exact h.lit, h.chg⟩
theorem JA.below (h : JA u w0 X L v q H na nb c w) (hb : Below w.heap.size w w') : JA u w0 X L v q H na nb c w' where
  pre := fun hn => (h.pre hn).keep hb
  post := fun x hx => ⟨(h.post x hx).1.keep hb, (h.post x hx).2⟩
  bel := h.bel.trans (hb.mono h.bel.size)
  cell := (hb.cell (p := ⟨X, 0, none⟩) (block_lt h.cell)).trans h.cell
  froz := (World.frozen?_of_block (hb.block X (block_lt (a := ⟨X, 0, none⟩) h.cell))).trans h.froz
  box := (hb.block _ (Array.getElem?_eq_some_iff.1 h.box).1).trans h.box
  lit := fun hn x hx => by
    obtain ⟨g, e, hl⟩ := h.lit hn x hx
    exact ⟨g, e, hl.keep hb⟩
  chg := h.chg.trans (ChgS.of_below hb)
theorem JA.build (h : JA u w0 X L v q H na nb c w) (hne : na ≠ nb) : JA u w0 X L v q H na nb (ord.updZ c nb (.slice (some ⟨w.heap.size, 0, none⟩) 1 1)) (w.alloc (.cells #[.string q.c, .int .i64 q.w, .int .i64 q.n, .int .i64 q.s] 31)) := by
  have k := h.below (alloc_below w (.cells #[.string q.c, .int .i64 q.w, .int .i64 q.n, .int .i64 q.s] 31))
  have e1 : ord.updZ c nb (.slice (some ⟨w.heap.size, 0, none⟩) 1 1) na = c na := if_neg hne
  have e2 : ord.updZ c nb (.slice (some ⟨w.heap.size, 0, none⟩) 1 1) nb = some (.slice (some ⟨w.heap.size, 0, none⟩) 1 1) := if_pos rfl
  refine ⟨by rw [e1]; exact k.pre, by rw [e1]; exact k.post, k.bel, k.cell, k.froz, k.box, fun _ x hx => ?_, k.chg⟩
  rw [e2] at hx
  injection hx with hx
  exact ⟨_, hx.symm, one_el (E := usE) w q⟩
theorem JA.append (h : JA u w0 X L v q H na nb c w) (hn : c na = none) {x : Value} (hx : c nb = some x) (hHv : v.ownBlock ≠ some H) :
    ∃ y w', (Builtin.append_ #[22, 22] 22 #[v, x]).run Try.prog w = .ok y w' ∧ JA u w0 X L v q H na nb (ord.updZ c na y) w' := by
  obtain ⟨g, rfl, hl⟩ := h.lit hn x hx
  have hb := h.pre hn
  have h16 := hb.ok.few
  obtain ⟨A, c', w', hr, ho, hg, hk, hbel⟩ := run_appL usTy w u.heap.size v L hb.own _ 1 [q] hl (fun e => by cases e) (by simp only [List.length_singleton]; omega) (by simp only [List.length_singleton]; omega) hb.bel.size
  have e1 : ord.updZ c na (.slice A (L.length + 1) c') na = some (.slice A (L.length + 1) c') := if_pos rfl
  have hsz : w0.heap.size ≤ w.heap.size := h.chg.size
  have hX := block_lt (a := ⟨X, 0, none⟩) hb.cell
  have hXv : v.ownBlock ≠ some X := fun e => hb.ne X e rfl
  obtain ⟨g1, g2, g3, g4, g5⟩ := hg
  refine ⟨.slice A (L.length + 1) c', w', hr, ⟨(fun e => by rw [e1] at e; cases e), fun y hy => ?_, h.bel.trans hbel, ?_, ?_, ?_, (fun e => by rw [e1] at e; cases e), ?_⟩⟩
  · rw [e1] at hy
    injection hy with hy
    subst hy
    refine ⟨ho, fun z hz => ?_⟩
    rcases hk with hk | hk
    · exact ⟨hb.ne z (hk ▸ hz), Or.inl (hk ▸ hz)⟩
    · have h1 : (Value.slice A (L.length + 1) c').ownBlock = some z := hz
      have h2 : (Value.slice A (L.length + 1) c').ownBlock = some w.heap.size := hk
      rw [h1] at h2
      injection h2 with h2
      subst h2
      exact ⟨fun e => by rw [← e] at hX; exact Nat.lt_irrefl _ hX, Or.inr hsz⟩
  · exact (World.cell?_of_block (g5 X hX (Ne.symm hXv))).trans h.cell
  · exact (World.frozen?_of_block (g5 X hX (Ne.symm hXv))).trans h.froz
  · exact (g5 H (Array.getElem?_eq_some_iff.1 h.box).1 (Ne.symm hHv)).trans h.box
  · have hc : ChgS (fun k => v.ownBlock = some k) w w' := ⟨g1, g2, g3, g4, fun k hk hn => g5 k hk (Ne.symm hn)⟩
    exact h.chg.trans hc
/-- what is stored in the end -/
theorem JA.done (h : JA u w0 X L v q H na nb c w) {x : Value} (hx : c na = some x) (hu : u.heap.size ≤ X) (ok : BkOk (L ++ [q])) : RkS u X w0 v (w.setCell ⟨X, 0, none⟩ x) (L ++ [q]) := by
  obtain ⟨h1, h2⟩ := h.post x hx
  refine ⟨x, RBk.store h.bel hu h.cell h.froz h1 (fun g hg => (h2 g hg).1) ok, ?_, fun g hg => (h2 g hg).2⟩
  exact ChgS.setCell (S := fun k => k = X ∨ v.ownBlock = some k) (a := ⟨X, 0, none⟩) ⟨h.chg.os, h.chg.tape, h.chg.output, h.chg.size, fun k hk hn => h.chg.block k hk fun e => hn (Or.inr e)⟩ (Or.inl rfl) _
end
/-- what the operations of such a region give: with a call of copyOf, and without -/
def apC (X : Nat) (v : Value) (q : Us) : Nat → Value → Prop
  | 0, y => y = .pointer (some ⟨X, 0, none⟩)
  | 1, y => y = .pointer (some ⟨X, 0, none⟩)
  | 2, y => y = .pointer (some ⟨X, 0, none⟩)
  | 3, y => y = .pointer (some ⟨X, 0, none⟩)
  | 4, y => y = v
  | 5, y => y = .agg #[.string q.c, .int .i64 q.w, .int .i64 q.n, .int .i64 q.s]
  | 6, y => y = .agg #[.string q.c, .int .i64 q.w, .int .i64 q.n, .int .i64 q.s]
  | 9, y => y = .pointer (some ⟨X, 0, none⟩)
  | 10, y => y = .pointer (some ⟨X, 0, none⟩)
  | _, _ => True
def apR (X : Nat) (v : Value) (q : Us) : Nat → Value → Prop
  | 0, y => y = .pointer (some ⟨X, 0, none⟩)
  | 1, y => y = .pointer (some ⟨X, 0, none⟩)
  | 2, y => y = .pointer (some ⟨X, 0, none⟩)
  | 3, y => y = .pointer (some ⟨X, 0, none⟩)
  | 4, y => y = v
  | 5, y => y = .agg #[.string q.c, .int .i64 q.w, .int .i64 q.n, .int .i64 q.s]
  | 8, y => y = .pointer (some ⟨X, 0, none⟩)
  | 9, y => y = .pointer (some ⟨X, 0, none⟩)
  | _, _ => True
/-! ### runs of single operations -/
theorem run_ldU (H : Nat) (q : Us) (w : World) (h : w.heap[H]? = some (.cells #[.string q.c, .int .i64 q.w, .int .i64 q.n, .int .i64 q.s] 31)) : (Instr.loadAt 31 (.pointer (some ⟨H, 0, none⟩))).run Try.prog w = .ok (.agg #[.string q.c, .int .i64 q.w, .int .i64 q.n, .int .i64 q.s]) w := by
  have h0 : w.cell? ⟨H, 0, none⟩ = some (.string q.c) := (Lib.cell_of_heap h 0).trans rfl
  have h1 : w.cell? ⟨H, 1, none⟩ = some (.int .i64 q.w) := (Lib.cell_of_heap h 1).trans rfl
  have h2 : w.cell? ⟨H, 2, none⟩ = some (.int .i64 q.n) := (Lib.cell_of_heap h 2).trans rfl
  have h3 : w.cell? ⟨H, 3, none⟩ = some (.int .i64 q.s) := (Lib.cell_of_heap h 3).trans rfl
  clear h
  go_simp
theorem run_ldV (A : Addr) (v : Value) (w : World) (h : w.cell? A = some v) : (Instr.loadAt 22 (.pointer (some A))).run Try.prog w = .ok v w := by go_simp
theorem run_fbB (G : Nat) (w : World) : (Instr.fieldAt 56 (.pointer (some ⟨G, 0, none⟩)) 0).run Try.prog w = .ok (.pointer (some ⟨G, 0, none⟩)) w := by go_simp
theorem run_fbR (G : Nat) (w : World) : (Instr.fieldAt 45 (.pointer (some ⟨G, 0, none⟩)) 0).run Try.prog w = .ok (.pointer (some ⟨G, 0, none⟩)) w := by go_simp
theorem run_lit1 (q : Us) (w : World) : (Instr.buildSlice 22 1 #[(0, .agg #[.string q.c, .int .i64 q.w, .int .i64 q.n, .int .i64 q.s])]).run Try.prog w = .ok (.slice (some ⟨w.heap.size, 0, none⟩) 1 1) (w.alloc (.cells #[.string q.c, .int .i64 q.w, .int .i64 q.n, .int .i64 q.s] 31)) := by go_simp
theorem makes_app {P : Program} {o : Oper} {a : Act} {w : World} {N : Value → World → Prop} {s x : Operand} {t ty : TypeId} {vs vx u : Value} {w' : World} (ho : o.op = .call { callee := .builtin .append, args := #[s, x], argTypes := #[t, t] }) (ht : o.type = ty) (hs : a.eval s = vs) (hx : a.eval x = vx)
    (hrun : (Builtin.append_ #[t, t] ty #[vs, vx]).run P w = .ok u w') (hN : N u w') : ord.makes P o a w N := by
  unfold ord.makes
  have : (execOp a.eval o).run P w = .ok (.value u) w' := by
    simp [execOp, ho, ht, resolve, invoke, builtin, hs, hx, hrun, Result.andThen]
  rw [this]; exact hN
end Go.Proofs.Ytbcanfhjdllaoaa
