/- Layer 17: ledgers of posts as plain data. -/
import Derived.Test.YtlglkfgephilnaaBase0
namespace Go.Proofs.Ytlglkfgephilnaa
open Go.RowKit
/-- a post: key, amount, state, answer -/
structure Po where
  k : ByteArray
  a : Int
  s : Int
  t : ByteArray
instance : DecidableEq Po := fun x y => decidable_of_iff (x.k = y.k ∧ x.a = y.a ∧ x.s = y.s ∧ x.t = y.t) ⟨fun h => by cases x; cases y; simp only at h; rw [h.1, h.2.1, h.2.2.1, h.2.2.2], fun h => by rw [h]; exact ⟨rfl, rfl, rfl, rfl⟩⟩
instance : Inhabited Po := ⟨⟨⟨#[]⟩, 0, 0, ⟨#[]⟩⟩⟩
/-- may a post be? -/
structure PoOk (p : Po) : Prop where
  k1 : 1 ≤ p.k.size
  k40 : p.k.size ≤ 40
  a0 : 0 ≤ p.a
  aB : p.a ≤ 999999999999
  s : p.s = 1 ∨ p.s = 2
  t : p.t.size ≤ 256
/-- what may be approved -/
def pyK (k : ByteArray) (a : Int) (t : ByteArray) : Bool := decide ((1 ≤ k.size ∧ k.size ≤ 40) ∧ (0 ≤ a ∧ a ≤ 999999999999) ∧ t.size ≤ 256)
def fndP (L : List Po) (k : ByteArray) : Option Po := L.find? fun p => decide (p.k = k)
/-- the total -/
def totP : List Po → Int
  | [] => 0
  | p :: L => (if p.s = 1 then p.a else 0) + totP L
structure LgOk (L : List Po) : Prop where
  few : L.length ≤ 24
  apart : L.Pairwise fun a b => a.k ≠ b.k
  each : ∀ p ∈ L, PoOk p
  tot : totP L ≤ 5000000000000
/-- Approve -/
def apE (L : List Po) (k : ByteArray) (a : Int) (t : ByteArray) : Int :=
  if pyK k a t = true then if (fndP L k).isSome = true then 16 else if 24 ≤ L.length then 14 else if 5000000000000 < totP L + a then 19 else 0 else 1
def apN (L : List Po) (k : ByteArray) (a : Int) (t : ByteArray) : List Po := if apE L k a t = 0 then L ++ [⟨k, a, 1, t⟩] else L
/-- Reverse -/
def rvE (L : List Po) (k : ByteArray) : Int := match fndP L k with
  | some p => if p.s = 2 then 20 else 0
  | none => 15
def rvV (L : List Po) (k : ByteArray) : Int := match fndP L k with
  | some p => if p.s = 2 then 0 else p.a
  | none => 0
/-- a key's post marked as reversed -/
def mrk (L : List Po) (k : ByteArray) : List Po := L.map fun p => if p.k = k then ⟨p.k, p.a, 2, p.t⟩ else p
def rvN (L : List Po) (k : ByteArray) : List Po := if rvE L k = 0 then mrk L k else L
/-- Ask -/
def akP (L : List Po) (k : ByteArray) : Po := (fndP L k).getD ⟨⟨#[]⟩, 0, 0, ⟨#[]⟩⟩
def akB (L : List Po) (k : ByteArray) : Bool := (fndP L k).isSome
theorem LgOk.nil : LgOk [] := ⟨Nat.zero_le _, List.Pairwise.nil, (fun _ h => by cases h), by show (0 : Int) ≤ _; decide⟩
theorem fndP_mem {L : List Po} {k : ByteArray} {p : Po} (h : fndP L k = some p) : p ∈ L ∧ p.k = k := by
  unfold fndP at h
  exact ⟨List.mem_of_find?_eq_some h, by simpa using List.find?_some h⟩
theorem fndP_none {L : List Po} {k : ByteArray} : fndP L k = none ↔ ∀ p ∈ L, p.k ≠ k := by
  unfold fndP
  rw [List.find?_eq_none]
  simp
theorem fndP_of {L : List Po} (h : L.Pairwise fun a b => a.k ≠ b.k) {p : Po} (hp : p ∈ L) : fndP L p.k = some p := by
  induction L with
  | nil => cases hp
  | cons q L ih =>
    obtain ⟨h1, h2⟩ := List.pairwise_cons.1 h
    unfold fndP at ih ⊢
    rcases List.mem_cons.1 hp with rfl | hp
    · simp
    · rw [List.find?_cons_of_neg (by simpa using h1 p hp)]
      exact ih h2 hp
theorem totP_app (L M : List Po) : totP (L ++ M) = totP L + totP M := by
  induction L with
  | nil => simp [totP]
  | cons p L ih => simp only [List.cons_append, totP, ih]; omega
theorem totP_nn {L : List Po} (h : ∀ p ∈ L, PoOk p) : 0 ≤ totP L := by
  induction L with
  | nil => exact Int.le_refl _
  | cons p L ih =>
    have h1 := (h p List.mem_cons_self).a0
    have h2 := ih fun q hq => h q (List.mem_cons_of_mem _ hq)
    simp only [totP]
    split <;> omega
theorem totP_le {L : List Po} (h : ∀ p ∈ L, PoOk p) : totP L ≤ L.length * 999999999999 := by
  induction L with
  | nil => simp [totP]
  | cons p L ih =>
    have h1 := (h p List.mem_cons_self).a0
    have h3 := (h p List.mem_cons_self).aB
    have h2 := ih fun q hq => h q (List.mem_cons_of_mem _ hq)
    simp only [totP, List.length_cons]
    split <;> omega
theorem mrk_keys (L : List Po) (k : ByteArray) : (mrk L k).map Po.k = L.map Po.k := by
  unfold mrk
  rw [List.map_map]
  refine List.map_congr_left fun p _ => ?_
  show (if p.k = k then (⟨p.k, p.a, 2, p.t⟩ : Po) else p).k = p.k
  by_cases e : p.k = k
  · rw [if_pos e]
  · rw [if_neg e]
theorem pairP_keys {L : List Po} : (L.Pairwise fun a b => a.k ≠ b.k) ↔ (L.map Po.k).Pairwise (· ≠ ·) := by rw [List.pairwise_map]
theorem mrk_none {L : List Po} {k : ByteArray} (h : ∀ p ∈ L, p.k ≠ k) : mrk L k = L := by
  unfold mrk
  conv => rhs; rw [← List.map_id L]
  refine List.map_congr_left fun p hp => ?_
  rw [if_neg (h p hp)]
  rfl
/-- the total of what was marked -/
theorem totP_mrk {L : List Po} (h : L.Pairwise fun a b => a.k ≠ b.k) {p : Po} (hp : p ∈ L) (hs : p.s = 1) : totP (mrk L p.k) = totP L - p.a := by
  induction L with
  | nil => cases hp
  | cons q L ih =>
    obtain ⟨h1, h2⟩ := List.pairwise_cons.1 h
    rcases List.mem_cons.1 hp with rfl | hp
    · have e : mrk L p.k = L := mrk_none fun r hr => (h1 r hr).symm
      have : mrk (p :: L) p.k = ⟨p.k, p.a, 2, p.t⟩ :: mrk L p.k := by
        unfold mrk
        rw [List.map_cons, if_pos rfl]
      rw [this, e]
      simp only [totP, hs, if_true]
      rw [if_neg (by decide)]
      omega
    · have hq : q.k ≠ p.k := h1 p hp
      have : mrk (q :: L) p.k = q :: mrk L p.k := by
        unfold mrk
        rw [List.map_cons, if_neg hq]
      rw [this]
      simp only [totP]
      rw [ih h2 hp]
      omega
theorem mem_mrk {L : List Po} {k : ByteArray} {p : Po} (h : p ∈ mrk L k) : (p ∈ L ∧ p.k ≠ k) ∨ ∃ q ∈ L, q.k = k ∧ p = ⟨q.k, q.a, 2, q.t⟩ := by
  unfold mrk at h
  obtain ⟨q, hq, e⟩ := List.mem_map.1 h
  by_cases hk : q.k = k
  · rw [if_pos hk] at e; exact Or.inr ⟨q, hq, hk, e.symm⟩
  · rw [if_neg hk] at e; subst e; exact Or.inl ⟨hq, hk⟩
theorem py_iff {k : ByteArray} {a : Int} {t : ByteArray} : pyK k a t = true ↔ PoOk ⟨k, a, 1, t⟩ := by
  unfold pyK
  rw [decide_eq_true_iff]
  exact ⟨fun ⟨⟨h1, h2⟩, ⟨h3, h4⟩, h5⟩ => ⟨h1, h2, h3, h4, Or.inl rfl, h5⟩, fun ⟨h1, h2, h3, h4, _, h5⟩ => ⟨⟨h1, h2⟩, ⟨h3, h4⟩, h5⟩⟩
/-- when Approve lets through -/
structure ApK (L : List Po) (k : ByteArray) (a : Int) (t : ByteArray) : Prop where
  ok : PoOk ⟨k, a, 1, t⟩
  new : fndP L k = none
  few : L.length < 24
  tot : totP L + a ≤ 5000000000000
theorem ap_iff {L : List Po} {k : ByteArray} {a : Int} {t : ByteArray} : apE L k a t = 0 ↔ ApK L k a t := by
  unfold apE
  by_cases h1 : pyK k a t = true
  · rw [if_pos h1]
    cases h2 : fndP L k with
    | some p =>
      rw [if_pos (show (some p).isSome = true from rfl)]
      exact ⟨(fun h => absurd h (by decide)), fun h => by have := h.new; rw [h2] at this; cases this⟩
    | none =>
      rw [if_neg (by decide)]
      by_cases h3 : 24 ≤ L.length
      · rw [if_pos h3]; exact ⟨(fun h => absurd h (by decide)), fun h => by have := h.few; omega⟩
      · rw [if_neg h3]
        by_cases h4 : 5000000000000 < totP L + a
        · rw [if_pos h4]; exact ⟨(fun h => absurd h (by decide)), fun h => by have := h.tot; omega⟩
        · rw [if_neg h4]; exact ⟨fun _ => ⟨py_iff.1 h1, h2, by omega, by omega⟩, fun _ => rfl⟩
  · rw [if_neg h1]
    exact ⟨(fun h => absurd h (by decide)), fun h => absurd (py_iff.2 h.ok) h1⟩
theorem ap_tot {L : List Po} {k : ByteArray} {a : Int} {t : ByteArray} : totP (L ++ [⟨k, a, 1, t⟩]) = totP L + a := by
  rw [totP_app]
  simp [totP]
theorem ap_ok {L : List Po} (h : LgOk L) (k : ByteArray) (a : Int) (t : ByteArray) : LgOk (apN L k a t) := by
  unfold apN
  by_cases e : apE L k a t = 0
  · rw [if_pos e]
    have z := ap_iff.1 e
    refine ⟨by rw [List.length_append, List.length_singleton]; have := z.few; omega, List.pairwise_append.2 ⟨h.apart, List.pairwise_singleton _ _, fun p hp q hq => ?_⟩, fun p hp => ?_, by rw [ap_tot]; exact z.tot⟩
    · rw [List.mem_singleton.1 hq]; exact fndP_none.1 z.new p hp
    · rcases List.mem_append.1 hp with hp | hp
      · exact h.each p hp
      · rw [List.mem_singleton.1 hp]; exact z.ok
  · rw [if_neg e]; exact h
/-- when Reverse lets through -/
theorem rv_iff {L : List Po} {k : ByteArray} : rvE L k = 0 ↔ ∃ p, fndP L k = some p ∧ p.s ≠ 2 := by
  unfold rvE
  cases h : fndP L k with
  | none => exact ⟨(fun h => absurd h (by decide)), fun ⟨_, h, _⟩ => by cases h⟩
  | some p =>
    show (if p.s = 2 then (20 : Int) else 0) = 0 ↔ _
    by_cases e : p.s = 2
    · rw [if_pos e]; exact ⟨(fun h => absurd h (by decide)), fun ⟨q, hq, hn⟩ => by cases hq; exact absurd e hn⟩
    · rw [if_neg e]; exact ⟨fun _ => ⟨p, rfl, e⟩, fun _ => rfl⟩
theorem rv_tot {L : List Po} (h : LgOk L) {k : ByteArray} (e : rvE L k = 0) : totP (mrk L k) = totP L - rvV L k := by
  obtain ⟨p, hp, hs⟩ := rv_iff.1 e
  obtain ⟨h1, h2⟩ := fndP_mem hp
  have hs1 : p.s = 1 := (h.each p h1).s.resolve_right hs
  have : rvV L k = p.a := by unfold rvV; rw [hp]; exact if_neg hs
  rw [this, ← h2]
  exact totP_mrk h.apart h1 hs1
theorem mrk_ok {L : List Po} (h : LgOk L) {k : ByteArray} (e : rvE L k = 0) : LgOk (mrk L k) := by
  obtain ⟨p, hp, hs⟩ := rv_iff.1 e
  obtain ⟨h1, h2⟩ := fndP_mem hp
  refine ⟨by unfold mrk; rw [List.length_map]; exact h.few, by rw [pairP_keys, mrk_keys, ← pairP_keys]; exact h.apart, fun q hq => ?_, ?_⟩
  · rcases mem_mrk hq with ⟨hq, _⟩ | ⟨r, hr, _, rfl⟩
    · exact h.each q hq
    · have z := h.each r hr
      exact ⟨z.k1, z.k40, z.a0, z.aB, Or.inr rfl, z.t⟩
  · rw [rv_tot h e]
    have : rvV L k = p.a := by unfold rvV; rw [hp]; exact if_neg hs
    have h3 := (h.each p h1).a0
    have := h.tot
    omega
theorem rv_ok {L : List Po} (h : LgOk L) (k : ByteArray) : LgOk (rvN L k) := by
  unfold rvN
  by_cases e : rvE L k = 0
  · rw [if_pos e]; exact mrk_ok h e
  · rw [if_neg e]; exact h
end Go.Proofs.Ytlglkfgephilnaa
