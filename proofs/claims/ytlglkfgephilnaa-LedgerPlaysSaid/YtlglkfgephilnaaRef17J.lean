/- Layer 17: the document's ledger changed: what a call leaves; append in a region that draws its order (out of LimS). -/
import Derived.Test.YtlglkfgephilnaaRef17A
import Derived.Test.YtlglkfgephilnaaOrdX
import Derived.Test.YtlglkfgephilnaaOrdI
import Derived.Test.YtlglkfgephilnaaOrdZ
namespace Go.Proofs.Ytlglkfgephilnaa
set_option maxRecDepth 100000
open Go.RowKit
theorem fz_of17 {w : World} {b : Nat} {cs : Array Value} {T : TypeId} (h : w.heap[b]? = some (.cells cs T)) (i : Nat) : w.frozen? ⟨b, i, none⟩ = false := by
  simp [World.frozen?, h]
/-- what a call leaves of a ledger: its posts are L', in a row v' -/
def LkS (u : World) (X : Nat) (w : World) (v : Value) (w' : World) (L' : List Po) : Prop :=
  ∃ v', RLg u X w' L' v' ∧ ChgS (fun k => k = X ∨ v.ownBlock = some k) w w' ∧ ∀ g, v'.ownBlock = some g → v.ownBlock = some g ∨ w.heap.size ≤ g
theorem LkS.same {u w w' : World} {X : Nat} {L : List Po} {v : Value} (h : RLg u X w L v) (hb : Below w.heap.size w w') : LkS u X w v w' L :=
  ⟨v, h.keep hb, ChgS.of_below hb, fun _ hg => Or.inl hg⟩
/-- a call behind others that kept the book -/
theorem LkS.after {u w w1 w' : World} {X : Nat} {L' : List Po} {v : Value} (hb : Below w.heap.size w w1) (h : LkS u X w1 v w' L') : LkS u X w v w' L' := by
  obtain ⟨v', h1, h2, h3⟩ := h
  refine ⟨v', h1, (ChgS.of_below hb).trans h2, fun g hg => ?_⟩
  rcases h3 g hg with h | h
  · exact Or.inl h
  · exact Or.inr (Nat.le_trans hb.size h)
theorem LkS.then {u w w1 w' : World} {X : Nat} {L' : List Po} {v : Value} (h : LkS u X w v w1 L') (hb : Below w1.heap.size w1 w') : LkS u X w v w' L' := by
  obtain ⟨v', h1, h2, h3⟩ := h
  exact ⟨v', h1.keep hb, h2.trans (ChgS.of_below hb), h3⟩
theorem OwL.setNe {T : TypeId} {w : World} {base : Nat} {v : Value} {F : List Po} (h : OwL poE T w base v F) {a : Addr} (ha : ∀ g, v.ownBlock = some g → g ≠ a.block) (x : Value) : OwL poE T (w.setCell a x) base v F := by
  rcases h with ⟨h1, h2 | ⟨g, cap, cur, e, hg, hh, r⟩⟩
  · exact ⟨h1, Or.inl h2⟩
  · exact ⟨h1, Or.inr ⟨g, cap, cur, e, hg, (Below.heap_setCell w a x g (ha g (by rw [e]; rfl))).trans hh, r⟩⟩
/-- another row stored -/
theorem RLg.store {u w : World} {X : Nat} {L' : List Po} {v v' : Value} (bel : Below u.heap.size u w) (uX : u.heap.size ≤ X) (cell : w.cell? ⟨X, 0, none⟩ = some v) (froz : w.frozen? ⟨X, 0, none⟩ = false) (own : OwL poE 31 w u.heap.size v' L') (ne : ∀ g, v'.ownBlock = some g → g ≠ X) (ok : LgIn L') :
    RLg u X (w.setCell ⟨X, 0, none⟩ v') L' v' :=
  ⟨bel.setCell uX _, uX, World.cell?_setCell_same _ ⟨X, 0, none⟩ _ cell, by rw [World.frozen?_setCell]; exact froz, own.setNe (a := ⟨X, 0, none⟩) ne v', ne, ok⟩
/-- a post's state stored -/
theorem LgIn.set {L : List Po} (h : LgIn L) {k : Nat} (hk : k < L.length) {y : Po} (hy : y.k = L[k].k) (ok : PoOk y) : LgIn (L.set k y) := by
  refine ⟨by rw [List.length_set]; exact h.few, ?_, fun p hp => ?_⟩
  · rw [pairP_keys, List.map_set, hy]
    have : (L.map Po.k).set k L[k].k = L.map Po.k := by
      conv => lhs; rw [show L[k].k = (L.map Po.k)[k]'(by rw [List.length_map]; exact hk) from by rw [List.getElem_map]]
      rw [List.set_getElem_self]
    rw [this, ← pairP_keys]
    exact h.apart
  · rcases List.mem_or_eq_of_mem_set hp with hp | hp
    · exact h.each p hp
    · rw [hp]; exact ok
theorem mrk_set {L : List Po} (h : L.Pairwise fun a b => a.k ≠ b.k) {k : Nat} (hk : k < L.length) : mrk L L[k].k = L.set k ⟨L[k].k, L[k].a, 2, L[k].t⟩ := by
  refine List.ext_getElem (by unfold mrk; rw [List.length_map, List.length_set]) fun j h1 h2 => ?_
  have hj : j < L.length := by rw [List.length_set] at h2; exact h2
  rw [show (mrk L L[k].k)[j] = if L[j].k = L[k].k then (⟨L[j].k, L[j].a, 2, L[j].t⟩ : Po) else L[j] from List.getElem_map (fun p : Po => if p.k = L[k].k then (⟨p.k, p.a, 2, p.t⟩ : Po) else p), List.getElem_set]
  by_cases e : k = j
  · subst e
    rw [if_pos rfl, if_pos rfl]
  · rw [if_neg e, if_neg]
    rcases Nat.lt_or_ge j k with hl | hl
    · exact List.pairwise_iff_getElem.1 h j k hj hk hl
    · exact fun x => List.pairwise_iff_getElem.1 h k j hk hj (by omega) x.symm
theorem RLg.mark {u w : World} {X : Nat} {L : List Po} {g c k : Nat} (h : RLg u X w L (.slice (some ⟨g, 0, none⟩) L.length c)) (hk : k < L.length) :
    LkS u X w (.slice (some ⟨g, 0, none⟩) L.length c) (w.setCell ⟨g, k * 4 + 2, none⟩ (.int .i64 2)) (mrk L L[k].k) := by
  have hgX : g ≠ X := h.ne g rfl
  obtain ⟨s1, _⟩ := h.own.set1 rfl (List.getElem?_eq_getElem hk) (i := 2) (y := ⟨L[k].k, L[k].a, 2, L[k].t⟩) (u := .int .i64 2) (by decide) rfl
  have hgb := (h.own.lt g rfl).1
  have z := h.ok.each _ (List.getElem_mem hk)
  rw [mrk_set h.ok.apart hk]
  refine ⟨.slice (some ⟨g, 0, none⟩) L.length c, ⟨h.bel.setCell hgb _, h.uX, (World.cell?_setCell_other w ⟨g, k * 4 + 2, none⟩ ⟨X, 0, none⟩ _ (fun e => hgX (congrArg Addr.block e))).trans h.cell, by rw [World.frozen?_setCell]; exact h.froz, s1, fun q hq => h.ne q hq, h.ok.set hk rfl ⟨z.k1, z.k40, z.a0, z.aB, Or.inr rfl, z.t⟩⟩, (ChgS.refl _ w).setCell (a := ⟨g, k * 4 + 2, none⟩) (Or.inr rfl) _, fun q hq => Or.inl hq⟩
/-! ### append in a region that draws its order: na appends, nb builds the row of one -/
/-- the cells of a post, at o of block B -/
def PoAt (w : World) (B o : Nat) (q : Po) : Prop :=
  w.cell? ⟨B, o, none⟩ = some (.string q.k) ∧ w.cell? ⟨B, o + 1, none⟩ = some (.int .i64 q.a) ∧ w.cell? ⟨B, o + 2, none⟩ = some (.int .i64 q.s) ∧ w.cell? ⟨B, o + 3, none⟩ = some (.string q.t)
theorem PoAt.same {w w' : World} {B o : Nat} {q : Po} (h : PoAt w B o q) (e : w'.heap[B]? = w.heap[B]?) : PoAt w' B o q :=
  ⟨(World.cell?_of_block e).trans h.1, (World.cell?_of_block e).trans h.2.1, (World.cell?_of_block e).trans h.2.2.1, (World.cell?_of_block e).trans h.2.2.2⟩
theorem PoAt.lt {w : World} {B o : Nat} {q : Po} (h : PoAt w B o q) : B < w.heap.size := block_lt (a := ⟨B, o, none⟩) h.1
theorem PoAt.keep {w w' : World} {B o : Nat} {q : Po} (h : PoAt w B o q) (hb : Below w.heap.size w w') : PoAt w' B o q := h.same (hb.block B h.lt)
structure JA (u w0 : World) (X : Nat) (L : List Po) (v : Value) (q : Po) (H no na nb : Nat) (c : Nat → Option Value) (w : World) : Prop where
  pre : c na = none → RLg u X w L v
  post : ∀ x, c na = some x → OwL poE 31 w u.heap.size x (L ++ [q]) ∧ ∀ g, x.ownBlock = some g → g ≠ X ∧ (v.ownBlock = some g ∨ w0.heap.size ≤ g)
  bel : Below u.heap.size u w
  cell : w.cell? ⟨X, 0, none⟩ = some v
  froz : w.frozen? ⟨X, 0, none⟩ = false
  box : PoAt w H no q
  lit : c na = none → ∀ x, c nb = some x → ∃ h, x = .slice (some ⟨h, 0, none⟩) 1 1 ∧ LiS poE w (some ⟨h, 0, none⟩) [q]
  chg : ChgS (fun k => v.ownBlock = some k) w0 w
section
variable {u w0 w w' : World} {X H no na nb : Nat} {L : List Po} {v : Value} {q : Po} {c : Nat → Option Value}
theorem JA.start (h : RLg u X w L v) (hH : PoAt w H no q) : JA u w X L v q H no na nb (fun _ => none) w.drew where
  pre := fun _ => h.keep ((Below.refl _ _).drew)
  post := fun x hx => by cases hx
  bel := h.bel.drew
  cell := h.cell
  froz := h.froz
  box := hH
  lit := fun _ x hx => by cases hx
  chg := (ChgS.refl _ w).drewN 1
theorem JA.keep (h : JA u w0 X L v q H no na nb c w) {i : Nat} (h1 : i ≠ na) (h2 : i ≠ nb) (y : Value) : JA u w0 X L v q H no na nb (ord.updZ c i y) w := by
  have e1 : ord.updZ c i y na = c na := if_neg (Ne.symm h1)
  have e2 : ord.updZ c i y nb = c nb := if_neg (Ne.symm h2)
  exact ⟨by rw [e1]; exact h.pre, by rw [e1]; exact h.post, h.bel, h.cell, h.froz, h.box, by rw [e1, e2]; exact h.lit, h.chg⟩
theorem JA.below (h : JA u w0 X L v q H no na nb c w) (hb : Below w.heap.size w w') : JA u w0 X L v q H no na nb c w' where
  pre := fun hn => (h.pre hn).keep hb
  post := fun x hx => ⟨(h.post x hx).1.keep hb, (h.post x hx).2⟩
  bel := h.bel.trans (hb.mono h.bel.size)
  cell := (hb.cell (p := ⟨X, 0, none⟩) (block_lt h.cell)).trans h.cell
  froz := (World.frozen?_of_block (hb.block X (block_lt (a := ⟨X, 0, none⟩) h.cell))).trans h.froz
  box := h.box.keep hb
  lit := fun hn x hx => by
    obtain ⟨g, e, hl⟩ := h.lit hn x hx
    exact ⟨g, e, hl.keep hb⟩
  chg := h.chg.trans (ChgS.of_below hb)
theorem JA.build (h : JA u w0 X L v q H no na nb c w) (hne : na ≠ nb) : JA u w0 X L v q H no na nb (ord.updZ c nb (.slice (some ⟨w.heap.size, 0, none⟩) 1 1)) (w.alloc (.cells #[.string q.k, .int .i64 q.a, .int .i64 q.s, .string q.t] 31)) := by
  have k := h.below (alloc_below w (.cells #[.string q.k, .int .i64 q.a, .int .i64 q.s, .string q.t] 31))
  have e1 : ord.updZ c nb (.slice (some ⟨w.heap.size, 0, none⟩) 1 1) na = c na := if_neg hne
  have e2 : ord.updZ c nb (.slice (some ⟨w.heap.size, 0, none⟩) 1 1) nb = some (.slice (some ⟨w.heap.size, 0, none⟩) 1 1) := if_pos rfl
  refine ⟨by rw [e1]; exact k.pre, by rw [e1]; exact k.post, k.bel, k.cell, k.froz, k.box, fun _ x hx => ?_, k.chg⟩
  rw [e2] at hx
  injection hx with hx
  exact ⟨_, hx.symm, one_el (E := poE) w q⟩
theorem JA.append (h : JA u w0 X L v q H no na nb c w) (hn : c na = none) {x : Value} (hx : c nb = some x) (hHv : v.ownBlock ≠ some H) :
    ∃ y w', (Builtin.append_ #[22, 22] 22 #[v, x]).run Try.prog w = .ok y w' ∧ JA u w0 X L v q H no na nb (ord.updZ c na y) w' := by
  obtain ⟨g, rfl, hl⟩ := h.lit hn x hx
  have hb := h.pre hn
  have h16 := hb.ok.few
  obtain ⟨A, c', w', hr, ho, hg, hk, hbel⟩ := run_appL poTy w u.heap.size v L hb.own _ 1 [q] hl (fun e => by cases e) (by simp only [List.length_singleton]; omega) (by simp only [List.length_singleton]; omega) hb.bel.size
  have e1 : ord.updZ c na (.slice A (L.length + 1) c') na = some (.slice A (L.length + 1) c') := if_pos rfl
  have hsz : w0.heap.size ≤ w.heap.size := h.chg.size
  have hX := block_lt (a := ⟨X, 0, none⟩) hb.cell
  have hXv : v.ownBlock ≠ some X := fun e => hb.ne X e rfl
  obtain ⟨g1, g2, g3, g4, g5⟩ := hg
  refine ⟨.slice A (L.length + 1) c', w', hr, ⟨(fun e => by rw [e1] at e; cases e), fun y hy => ?_, h.bel.trans hbel, ?_, ?_, ?_, (fun e => by rw [e1] at e; cases e), ?_⟩⟩
  · rw [e1] at hy
    injection hy with hy
    subst hy
    refine ⟨ho, fun z hz => ?_⟩
    rcases hk with hk | hk
    · exact ⟨hb.ne z (hk ▸ hz), Or.inl (hk ▸ hz)⟩
    · have h1 : (Value.slice A (L.length + 1) c').ownBlock = some z := hz
      have h2 : (Value.slice A (L.length + 1) c').ownBlock = some w.heap.size := hk
      rw [h1] at h2
      injection h2 with h2
      subst h2
      exact ⟨fun e => by rw [← e] at hX; exact Nat.lt_irrefl _ hX, Or.inr hsz⟩
  · exact (World.cell?_of_block (g5 X hX (Ne.symm hXv))).trans h.cell
  · exact (World.frozen?_of_block (g5 X hX (Ne.symm hXv))).trans h.froz
  · exact h.box.same (g5 H h.box.lt (Ne.symm hHv))
  · have hc : ChgS (fun k => v.ownBlock = some k) w w' := ⟨g1, g2, g3, g4, fun k hk hn => g5 k hk (Ne.symm hn)⟩
    exact h.chg.trans hc
/-- what is stored in the end -/
theorem JA.done (h : JA u w0 X L v q H no na nb c w) {x : Value} (hx : c na = some x) (hu : u.heap.size ≤ X) (ok : LgIn (L ++ [q])) : LkS u X w0 v (w.setCell ⟨X, 0, none⟩ x) (L ++ [q]) := by
  obtain ⟨h1, h2⟩ := h.post x hx
  refine ⟨x, RLg.store h.bel hu h.cell h.froz h1 (fun g hg => (h2 g hg).1) ok, ?_, fun g hg => (h2 g hg).2⟩
  exact ChgS.setCell (S := fun k => k = X ∨ v.ownBlock = some k) (a := ⟨X, 0, none⟩) ⟨h.chg.os, h.chg.tape, h.chg.output, h.chg.size, fun k hk hn => h.chg.block k hk fun e => hn (Or.inr e)⟩ (Or.inl rfl) _
end
/-- what the operations of such a region give -/
def apR (X : Nat) (v : Value) (q : Po) : Nat → Value → Prop
  | 0, y => y = .pointer (some ⟨X, 0, none⟩)
  | 1, y => y = .pointer (some ⟨X, 0, none⟩)
  | 2, y => y = .pointer (some ⟨X, 0, none⟩)
  | 3, y => y = .pointer (some ⟨X, 0, none⟩)
  | 4, y => y = v
  | 5, y => y = .agg #[.string q.k, .int .i64 q.a, .int .i64 q.s, .string q.t]
  | 8, y => y = .pointer (some ⟨X, 0, none⟩)
  | 9, y => y = .pointer (some ⟨X, 0, none⟩)
  | _, _ => True
/-! ### runs of single operations -/
theorem run_ldP (H no : Nat) (q : Po) (w : World) (h : PoAt w H no q) : (Instr.loadAt 31 (.pointer (some ⟨H, no, none⟩))).run Try.prog w = .ok (.agg #[.string q.k, .int .i64 q.a, .int .i64 q.s, .string q.t]) w := by
  obtain ⟨h0, h1, h2, h3⟩ := h
  go_simp
theorem run_ldV (A : Addr) (v : Value) (w : World) (h : w.cell? A = some v) : (Instr.loadAt 22 (.pointer (some A))).run Try.prog w = .ok v w := by go_simp
theorem run_fl (G : Nat) (w : World) : (Instr.fieldAt 55 (.pointer (some ⟨G, 0, none⟩)) 0).run Try.prog w = .ok (.pointer (some ⟨G, 0, none⟩)) w := by go_simp
theorem run_lit1 (q : Po) (w : World) : (Instr.buildSlice 22 1 #[(0, .agg #[.string q.k, .int .i64 q.a, .int .i64 q.s, .string q.t])]).run Try.prog w = .ok (.slice (some ⟨w.heap.size, 0, none⟩) 1 1) (w.alloc (.cells #[.string q.k, .int .i64 q.a, .int .i64 q.s, .string q.t] 31)) := by go_simp
theorem makes_app {P : Program} {o : Oper} {a : Act} {w : World} {N : Value → World → Prop} {s x : Operand} {t ty : TypeId} {vs vx u : Value} {w' : World} (ho : o.op = .call { callee := .builtin .append, args := #[s, x], argTypes := #[t, t] }) (ht : o.type = ty) (hs : a.eval s = vs) (hx : a.eval x = vx)
    (hrun : (Builtin.append_ #[t, t] ty #[vs, vx]).run P w = .ok u w') (hN : N u w') : ord.makes P o a w N := by
  unfold ord.makes
  have : (execOp a.eval o).run P w = .ok (.value u) w' := by
    simp [execOp, ho, ht, resolve, invoke, builtin, hs, hx, hrun, Result.andThen]
  rw [this]; exact hN
end Go.Proofs.Ytlglkfgephilnaa
