/- Layer 15, the code: a table's map in memory. -/
import Derived.Maps.OwnSet
import Derived.Maps.Ext
import Derived.Sort.KeysCollected
import Derived.Test.YtcohkhjfncknpaaRouK
namespace Go.Proofs.Ytcohkhjfncknpaa
set_option maxRecDepth 100000
open Go.RowKit
open Go.Maps
theorem kLaw : Keyed Try.prog 9 := string_keyed Try.underlying9
theorem zeroI (w : World) : (zeroValue 3).run Try.prog w = .ok (.int .i64 0) w := by kernel_rfl
/-- a text as a key -/
abbrev kyL (p : ByteArray) : Lit := .string p.data.toList
theorem kyL_inj {p q : ByteArray} (h : kyL p = kyL q) : p = q := by
  injection h with h
  exact ByteArray.ext (Array.ext' h)
theorem ky_is (p : ByteArray) : WideAt.IsKeyLit (kyL p) := by
  first | trivial | (unfold WideAt.IsKeyLit; simp)
/-- a datum that reads as a table -/
structure RepD (D : DataW Unit) (L : List Rt) : Prop where
  has : ∀ p : ByteArray, Maps.has D (kyL p) = (atR L p).isSome
  at_ : ∀ p : ByteArray, D.atKey (kyL p) (.lit (.int .i64 0)) = .lit (.int .i64 ((atR L p).getD 0))
  size : Maps.size D = L.length
  rise : Rise L
/-- block B is a map that reads as a table -/
def MpW (w : World) (B : Nat) (L : List Rt) : Prop := ∃ D : DataW Unit, w.ownsMap Try.prog 9 (plainElem Try.prog 3) B L.length D ∧ RepD D L
theorem MpW.lt {w : World} {B : Nat} {L : List Rt} (h : MpW w B L) : B < w.heap.size := by
  obtain ⟨D, h, _⟩ := h
  exact h.lt
theorem MpW.rise {w : World} {B : Nat} {L : List Rt} (h : MpW w B L) : Rise L := by
  obtain ⟨D, _, h⟩ := h
  exact h.rise
theorem MpW.block {w w' : World} {B : Nat} {L : List Rt} (h : MpW w B L) (e : w'.heap[B]? = w.heap[B]?) : MpW w' B L := by
  obtain ⟨D, ⟨es, clock, h1, h2⟩, h3⟩ := h
  exact ⟨D, ⟨es, clock, e.trans h1, h2⟩, h3⟩
/-- a bound of the entries is their number -/
theorem owns_tight {w : World} {B n : Nat} {D : DataW Unit} (h : w.ownsMap Try.prog 9 (plainElem Try.prog 3) B n D) : w.ownsMap Try.prog 9 (plainElem Try.prog 3) B (Maps.size D) D := by
  obtain ⟨es, clock, h1, h2, h3, h4⟩ := h
  refine ⟨es, clock, h1, h2, ?_, h4⟩
  rw [h4]
  simp [Maps.size, length_sorted]
theorem MpW.made (w : World) : MpW (w.alloc (.map #[] 0)) w.heap.size [] :=
  ⟨.map [], World.ownsMap_made _ _ _ _, fun _ => rfl, fun _ => rfl, rfl, List.Pairwise.nil⟩
/-- 'v, ok := m[k]' -/
theorem MpW.look {w : World} {B : Nat} {L : List Rt} (h : MpW w B L) (p : ByteArray) (hp : p.size ≤ maxLen) : (Instr.lookup 48 (.map (some B)) (.string p) true).run Try.prog w = .ok (.tuple #[.int .i64 ((atR L p).getD 0), .bool (atR L p).isSome]) w := by
  obtain ⟨D, ho, hr⟩ := h
  obtain ⟨v, ps, h1, h2⟩ := ho.look_ok kLaw Try.underlying48 (zeroI w) (zd := .lit (.int .i64 0)) (zp := []) (plainElem_int Try.underlying3 (by decide)) (WideMaps.keyOf_string_mk Try.underlying9 hp)
  obtain ⟨c, rfl, hc, _⟩ := plainElem_int_inv Try.underlying3 h2
  have e := congrArg Prod.fst hc
  simp only at e
  rw [hr.at_ p] at e
  injection e with e
  injection e with _ e
  rw [h1, hr.has p, e]
/-- 'len(m)' -/
theorem MpW.len {w : World} {B : Nat} {L : List Rt} (h : MpW w B L) (ty : TypeId) : (Builtin.len_ #[48] ty #[.map (some B)]).run Try.prog w = .ok (.int .i64 (L.length : Nat)) w := by
  obtain ⟨D, ho, hr⟩ := h
  rw [ho.len Try.underlying48 ty, hr.size]
theorem turned_chg {w w' : World} {B : Nat} (h : w.mapTurned w' B) : ChgS (fun k => k = B) w w' := by
  have g := h.grown
  exact ⟨g.os, g.tape, g.output, g.size, fun k hk hn => g.block k hk fun e => hn (by injection e)⟩
/-- 'm[k] = v' -/
theorem MpW.store {w : World} {B : Nat} {L : List Rt} (h : MpW w B L) (hl : L.length < 1000) (p : ByteArray) (hp : p.size ≤ maxLen) (t : Int) (ht : 0 ≤ t ∧ t ≤ 1000) :
    ∃ w', (Instr.mapUpdate 48 (.map (some B)) (.string p) (.int .i64 t)).run Try.prog w = .ok () w' ∧ MpW w' B (putR L p t) ∧ ChgS (fun k => k = B) w w' := by
  obtain ⟨D, ho, hr⟩ := h
  have wf : (Lit.int .i64 t).wf = true := WalkArith.wf_i64 (by omega)
  obtain ⟨w', h1, h2, h3⟩ := ho.store kLaw Try.underlying48 (by unfold maxLen; omega) (WideMaps.keyOf_string_mk Try.underlying9 hp) (plainElem_int Try.underlying3 wf)
  have ti := ho.tidy kLaw
  have hD := ti.isMap
  have hsz : Maps.size (D.put (kyL p) (.lit (.int .i64 t))) = (putR L p t).length := by
    rw [size_put ti, hr.has p, putR_length hr.rise, hr.size]
  refine ⟨w', h1, ⟨_, by rw [← hsz]; exact owns_tight h2, ?_, ?_, hsz, putR_rise hr.rise p t⟩, turned_chg h3⟩
  · intro q
    rw [atR_put]
    by_cases e : p = q
    · subst e
      rw [if_pos rfl]
      exact has_put_same hD (ky_is p) _
    · rw [if_neg e, ← hr.has q]
      exact has_put_other (fun e2 => e (kyL_inj e2).symm) _
  · intro q
    rw [atR_put]
    by_cases e : p = q
    · subst e
      rw [if_pos rfl]
      exact atKey_put_same hD (ky_is p) _ _
    · rw [if_neg e, ← hr.at_ q]
      exact atKey_put_other (fun e2 => e (kyL_inj e2).symm) _ _
theorem dropR_length {L : List Rt} (h : Rise L) (p : ByteArray) : (dropR L p).length = if (atR L p).isSome = true then L.length - 1 else L.length := by
  induction L with
  | nil => rfl
  | cons r L ih =>
    obtain ⟨h1, h2⟩ := List.pairwise_cons.1 h
    have ih := ih h2
    show _ = if ((if r.p = p then some r.t else atR L p).isSome) = true then _ else _
    unfold dropR at ih ⊢
    by_cases e : r.p = p
    · rw [List.filter_cons_of_neg (by simp [e]), if_pos e, ih, atR_none fun x hx => by rw [← e]; exact (lsB_ne (h1 x hx)).symm]
      rfl
    · rw [List.filter_cons_of_pos (by simp [e]), List.length_cons, ih, if_neg e]
      cases h3 : atR L p with
      | none => rfl
      | some t =>
        have := atR_mem h3
        have := List.length_pos_of_mem this
        simp only [Option.isSome_some, if_true, List.length_cons]
        omega
/-- 'delete(m, k)' -/
theorem MpW.drop {w : World} {B : Nat} {L : List Rt} (h : MpW w B L) (p : ByteArray) (hp : p.size ≤ maxLen) (ty : TypeId) :
    ∃ w', (Builtin.delete_ #[48, 9] ty #[.map (some B), .string p]).run Try.prog w = .ok (.tuple #[]) w' ∧ MpW w' B (dropR L p) ∧ ChgS (fun k => k = B) w w' := by
  obtain ⟨D, ho, hr⟩ := h
  obtain ⟨w', h1, h2, h3⟩ := ho.drop kLaw Try.underlying48 (WideMaps.keyOf_string_mk Try.underlying9 hp) ty
  have ti := ho.tidy kLaw
  have hsz : Maps.size (D.del (kyL p)) = (dropR L p).length := by
    have hs := size_del (k := kyL p) ti
    rw [hr.has p, hr.size] at hs
    rw [dropR_length hr.rise]
    by_cases e : (atR L p).isSome = true
    · rw [if_pos e] at hs ⊢
      omega
    · rw [if_neg e] at hs ⊢
      omega
  refine ⟨w', h1, ⟨_, by rw [← hsz]; exact owns_tight h2, ?_, ?_, hsz, dropR_rise hr.rise p⟩, turned_chg h3⟩
  · intro q
    rw [atR_drop]
    by_cases e : p = q
    · subst e
      rw [if_pos rfl]
      exact has_del_same
    · rw [if_neg e, ← hr.has q]
      exact has_del_other (fun e2 => e (kyL_inj e2).symm)
  · intro q
    rw [atR_drop]
    by_cases e : p = q
    · subst e
      rw [if_pos rfl]
      exact atKey_del_same _
    · rw [if_neg e, ← hr.at_ q]
      exact atKey_del_other (fun e2 => e (kyL_inj e2).symm) _
/-- the code's table: its struct in block G, its map in block B; u: a world before it -/
structure TblA (u : World) (G B : Nat) (w : World) (L : List Rt) (O : Nat → Prop) : Prop where
  bel : Below u.heap.size u w
  uG : u.heap.size ≤ G
  uB : u.heap.size ≤ B
  lG : G < w.heap.size
  ne : G ≠ B
  cell : w.cell? ⟨G, 0, none⟩ = some (.map (some B))
  mp : MpW w B L
  ok : RtOk L
  own : ∀ k, O k ↔ k = G ∨ k = B
theorem TblA.keep {u : World} {G B : Nat} {w w' : World} {L : List Rt} {O T : Nat → Prop} (h : TblA u G B w L O) (hc : ChgS T w w') (hT : ∀ k, T k → u.heap.size ≤ k ∧ ¬ O k) : TblA u G B w' L O where
  bel := by
    refine ⟨hc.os.trans h.bel.os, hc.tape.trans h.bel.tape, hc.output.trans h.bel.output, Nat.le_trans h.bel.size hc.size, fun k hk => ?_⟩
    have := h.bel.size
    rw [hc.block k (by omega) fun hk2 => by have := (hT k hk2).1; omega]
    exact h.bel.block k hk
  uG := h.uG
  uB := h.uB
  lG := Nat.lt_of_lt_of_le h.lG hc.size
  ne := h.ne
  cell := (hc.cell h.lG fun hk => (hT G hk).2 ((h.own G).2 (Or.inl rfl))).trans h.cell
  mp := h.mp.block (hc.block B h.mp.lt fun hk => (hT B hk).2 ((h.own B).2 (Or.inr rfl)))
  ok := h.ok
  own := h.own
theorem TblA.below {u : World} {G B : Nat} {w w' : World} {L : List Rt} {O : Nat → Prop} (h : TblA u G B w L O) (hb : Below w.heap.size w w') : TblA u G B w' L O :=
  h.keep (T := fun _ => False) (ChgS.of_below hb) (fun _ hk => absurd hk id)
/-- the map turned -/
theorem TblA.turn {u : World} {G B : Nat} {w w' : World} {L L' : List Rt} {O : Nat → Prop} (h : TblA u G B w L O) (hc : ChgS (fun k => k = B) w w') (hm : MpW w' B L') (hok : RtOk L') : TblA u G B w' L' O where
  bel := by
    refine ⟨hc.os.trans h.bel.os, hc.tape.trans h.bel.tape, hc.output.trans h.bel.output, Nat.le_trans h.bel.size hc.size, fun k hk => ?_⟩
    have := h.bel.size
    have := h.uB
    rw [hc.block k (by omega) (by omega)]
    exact h.bel.block k hk
  uG := h.uG
  uB := h.uB
  lG := Nat.lt_of_lt_of_le h.lG hc.size
  ne := h.ne
  cell := (hc.cell h.lG h.ne).trans h.cell
  mp := hm
  ok := hok
  own := h.own
end Go.Proofs.Ytcohkhjfncknpaa
