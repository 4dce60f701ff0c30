/- Layer 17, the code: a ledger in memory: its row of posts, and the map of their places. -/
import Derived.Maps.OwnSet
import Derived.Test.YtlglkfgephilnaaRef17J
import Derived.Test.YtlglkfgephilnaaLedK
namespace Go.Proofs.Ytlglkfgephilnaa
set_option maxRecDepth 100000
open Go.RowKit
open Go.Maps Go.ChangeMaps
theorem kLaw : Keyed Try.prog 9 := string_keyed Try.underlying9
theorem zeroI (w : World) : (zeroValue 3).run Try.prog w = .ok (.int .i64 0) w := by kernel_rfl
/-- a text as a key -/
abbrev kyL (p : ByteArray) : Lit := .string p.data.toList
theorem kyL_inj {p q : ByteArray} (h : kyL p = kyL q) : p = q := by
  injection h with h
  exact ByteArray.ext (Array.ext' h)
theorem ky_is (p : ByteArray) : WideAt.IsKeyLit (kyL p) := by
  first | trivial | (unfold WideAt.IsKeyLit; simp)
/-- where a key's post stands -/
def plc (L : List Po) (c : ByteArray) : Option Nat := (L.map Po.k).findIdx? fun x => decide (x = c)
theorem plc_none {L : List Po} {c : ByteArray} : plc L c = none ↔ fndP L c = none := by
  unfold plc
  rw [List.findIdx?_eq_none_iff, fndP_none]
  constructor
  · intro h p hp
    have := h p.k (List.mem_map.2 ⟨p, hp, rfl⟩)
    simpa using this
  · intro h x hx
    obtain ⟨p, hp, rfl⟩ := List.mem_map.1 hx
    simpa using h p hp
theorem plc_some {L : List Po} (ha : L.Pairwise fun a b => a.k ≠ b.k) {c : ByteArray} {j : Nat} (h : plc L c = some j) : ∃ hj : j < L.length, L[j].k = c ∧ fndP L c = some L[j] := by
  unfold plc at h
  obtain ⟨hj, h2, _⟩ := List.findIdx?_eq_some_iff_getElem.1 h
  rw [List.length_map] at hj
  rw [List.getElem_map] at h2
  have h2 : L[j].k = c := by simpa using h2
  exact ⟨hj, h2, by rw [← h2]; exact fndP_of ha (List.getElem_mem hj)⟩
theorem plc_app (L : List Po) (q : Po) (c : ByteArray) : plc (L ++ [q]) c = (plc L c).or (if q.k = c then some L.length else none) := by
  unfold plc
  rw [List.map_append, List.findIdx?_append, List.length_map]
  congr 1
  by_cases h : q.k = c
  · simp [h]
  · simp [h]
/-- a datum that reads as the places of a row's keys -/
structure RepP (D : DataW Unit) (L : List Po) : Prop where
  has : ∀ p : ByteArray, Maps.has D (kyL p) = (plc L p).isSome
  at_ : ∀ p : ByteArray, D.atKey (kyL p) (.lit (.int .i64 0)) = .lit (.int .i64 ((plc L p).getD 0))
  size : Maps.size D = L.length
/-- block B is a map of the places of a row's keys -/
def MpP (w : World) (B : Nat) (L : List Po) : Prop := ∃ D : DataW Unit, w.ownsMap Try.prog 9 (plainElem Try.prog 3) B L.length D ∧ RepP D L
theorem MpP.lt {w : World} {B : Nat} {L : List Po} (h : MpP w B L) : B < w.heap.size := by
  obtain ⟨D, h, _⟩ := h
  exact h.lt
theorem MpP.block {w w' : World} {B : Nat} {L : List Po} (h : MpP w B L) (e : w'.heap[B]? = w.heap[B]?) : MpP w' B L := by
  obtain ⟨D, ⟨es, clock, h1, h2⟩, h3⟩ := h
  exact ⟨D, ⟨es, clock, e.trans h1, h2⟩, h3⟩
/-- only the keys count -/
theorem MpP.keys {w : World} {B : Nat} {L M : List Po} (h : MpP w B L) (e : M.map Po.k = L.map Po.k) : MpP w B M := by
  have hl : M.length = L.length := by rw [← List.length_map (f := Po.k), e, List.length_map]
  have hp : ∀ p, plc M p = plc L p := fun p => by unfold plc; rw [e]
  obtain ⟨D, h1, h2⟩ := h
  exact ⟨D, by rw [hl]; exact h1, fun p => by rw [hp]; exact h2.has p, fun p => by rw [hp]; exact h2.at_ p, by rw [hl]; exact h2.size⟩
/-- a bound of the entries is their number -/
theorem owns_tight {w : World} {B n : Nat} {D : DataW Unit} (h : w.ownsMap Try.prog 9 (plainElem Try.prog 3) B n D) : w.ownsMap Try.prog 9 (plainElem Try.prog 3) B (Maps.size D) D := by
  obtain ⟨es, clock, h1, h2, h3, h4⟩ := h
  refine ⟨es, clock, h1, h2, ?_, h4⟩
  rw [h4]
  simp [Maps.size, length_sorted]
theorem MpP.made (w : World) : MpP (w.alloc (.map #[] 0)) w.heap.size [] :=
  ⟨.map [], World.ownsMap_made _ _ _ _, fun _ => rfl, fun _ => rfl, rfl⟩
/-- 'v, ok := m[k]' -/
theorem MpP.look {w : World} {B : Nat} {L : List Po} (h : MpP w B L) (p : ByteArray) (hp : p.size ≤ maxLen) : (Instr.lookup 58 (.map (some B)) (.string p) true).run Try.prog w = .ok (.tuple #[.int .i64 ((plc L p).getD 0 : Nat), .bool (plc L p).isSome]) w := by
  obtain ⟨D, ho, hr⟩ := h
  obtain ⟨v, ps, h1, h2⟩ := ho.look_ok kLaw Try.underlying58 (zeroI w) (zd := .lit (.int .i64 0)) (zp := []) (plainElem_int Try.underlying3 (by decide)) (WideMaps.keyOf_string_mk Try.underlying9 hp)
  obtain ⟨c, rfl, hc, _⟩ := plainElem_int_inv Try.underlying3 h2
  have e := congrArg Prod.fst hc
  simp only at e
  rw [hr.at_ p] at e
  injection e with e
  injection e with _ e
  rw [h1, hr.has p, e]
theorem turned_chg {w w' : World} {B : Nat} (h : w.mapTurned w' B) : ChgS (fun k => k = B) w w' := by
  have g := h.grown
  exact ⟨g.os, g.tape, g.output, g.size, fun k hk hn => g.block k hk fun e => hn (by injection e)⟩
/-- 'm[k] = len(posts)', of a key that is not there -/
theorem MpP.store {w : World} {B : Nat} {L : List Po} (h : MpP w B L) (hl : L.length < 1000) (q : Po) (hp : q.k.size ≤ maxLen) (hn : fndP L q.k = none) :
    ∃ w', (Instr.mapUpdate 58 (.map (some B)) (.string q.k) (.int .i64 (L.length : Nat))).run Try.prog w = .ok () w' ∧ MpP w' B (L ++ [q]) ∧ ChgS (fun k => k = B) w w' := by
  obtain ⟨D, ho, hr⟩ := h
  have wf : (Lit.int .i64 (L.length : Nat)).wf = true := WalkArith.wf_i64 (by omega)
  obtain ⟨w', h1, h2, h3⟩ := ho.store kLaw Try.underlying58 (by unfold maxLen; omega) (WideMaps.keyOf_string_mk Try.underlying9 hp) (plainElem_int Try.underlying3 wf)
  have ti := ho.tidy kLaw
  have hD := ti.isMap
  have hpn := plc_none.2 hn
  have hsz : Maps.size (D.put (kyL q.k) (.lit (.int .i64 (L.length : Nat)))) = (L ++ [q]).length := by
    rw [size_put ti, hr.has q.k, hpn, List.length_append, List.length_singleton, hr.size]
    rfl
  refine ⟨w', h1, ⟨_, by rw [← hsz]; exact owns_tight h2, ?_, ?_, hsz⟩, turned_chg h3⟩
  · intro p
    rw [plc_app]
    by_cases e : q.k = p
    · subst e
      rw [if_pos rfl, hpn]
      exact has_put_same hD (ky_is _) _
    · rw [if_neg e, Option.or_none, ← hr.has p]
      exact has_put_other (fun e2 => e (kyL_inj e2).symm) _
  · intro p
    rw [plc_app]
    by_cases e : q.k = p
    · subst e
      rw [if_pos rfl, hpn]
      exact atKey_put_same hD (ky_is _) _ _
    · rw [if_neg e, Option.or_none, ← hr.at_ p]
      exact atKey_put_other (fun e2 => e (kyL_inj e2).symm) _ _
/-- 'clear(m)' -/
theorem MpP.clear {w : World} {B : Nat} {L : List Po} (h : MpP w B L) :
    ∃ w', (∀ ty, (Builtin.clear_ #[58] ty #[.map (some B)]).run Try.prog w = .ok (.tuple #[]) w') ∧ MpP w' B [] ∧ ChgS (fun k => k = B) w w' := by
  obtain ⟨D, ⟨es, clock, hb, F, hs, rfl⟩, _⟩ := h
  refine ⟨setBlock w B (.map #[] clock), fun ty => ?_, ⟨.map [], ⟨#[], clock, heap_setBlock_same hb _, ⟨by simp, MapKept.stamped_empty clock, by simp⟩, Nat.le_refl _, rfl⟩, fun _ => rfl, fun _ => rfl, rfl⟩, turned_chg ⟨es, clock, #[], clock, hb, rfl⟩⟩
  simp [Builtin.clear_, run_underlying Try.underlying58, MapKept.run_getObj_map hb, MapKept.run_setObj_map _ hb, Result.andThen]
  rfl
end Go.Proofs.Ytlglkfgephilnaa
