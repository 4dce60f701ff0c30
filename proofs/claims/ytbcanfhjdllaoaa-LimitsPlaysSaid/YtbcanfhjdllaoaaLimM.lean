/- Layer 16: books of uses as plain data. -/
import Derived.Test.YtbcanfhjdllaoaaBase0
namespace Go.Proofs.Ytbcanfhjdllaoaa
open Go.RowKit
/-- a use: card, window, times, sum -/
structure Us where
  c : ByteArray
  w : Int
  n : Int
  s : Int
instance : DecidableEq Us := fun a b => decidable_of_iff (a.c = b.c ∧ a.w = b.w ∧ a.n = b.n ∧ a.s = b.s) ⟨fun h => by cases a; cases b; simp only at h; rw [h.1, h.2.1, h.2.2.1, h.2.2.2], fun h => by rw [h]; exact ⟨rfl, rfl, rfl, rfl⟩⟩
instance : Inhabited Us := ⟨⟨⟨#[]⟩, 0, 0, 0⟩⟩
/-- a rule: ticks, times, sum, once -/
structure Rl where
  k : Int
  t : Int
  s : Int
  o : Int
def mny (x : Int) : Bool := decide (0 ≤ x ∧ x ≤ 999999999999)
def rlK (r : Rl) : Bool := decide ((0 ≤ r.t ∧ r.t ≤ 999999999999) ∧ (0 ≤ r.s ∧ r.s ≤ 999999999999) ∧ (0 ≤ r.o ∧ r.o ≤ 999999999999) ∧ 1 ≤ r.k ∧ r.k ≤ 1099511627776)
/-- may these be asked? -/
def myK (r : Rl) (c : ByteArray) (a t : Int) : Bool := rlK r && decide ((0 ≤ a ∧ a ≤ 999999999999) ∧ (1 ≤ c.size ∧ c.size ≤ 32) ∧ 0 ≤ t ∧ t ≤ 1099511627776)
/-- the window of a tick -/
def winW (r : Rl) (t : Int) : Int := t / r.k
def fndU (L : List Us) (c : ByteArray) : Option Us := L.find? fun u => decide (u.c = c)
/-- what a card used of a window -/
def getU (L : List Us) (c : ByteArray) (W : Int) : Us := match fndU L c with
  | some v => if v.w = W then v else ⟨c, W, 0, 0⟩
  | none => ⟨c, W, 0, 0⟩
/-- a card's use replaced -/
def setU (L : List Us) (u : Us) : List Us := L.map fun v => if v.c = u.c then u else v
/-- the first use of another window taken out -/
def outU (L : List Us) (W : Int) : List Us := L.eraseP fun v => decide (v.w ≠ W)
def putU (L : List Us) (u : Us) : List Us := if (fndU L u.c).isSome = true then setU L u else if L.length < 16 then L ++ [u] else outU L u.w ++ [u]
/-- Try -/
def trE (L : List Us) (r : Rl) (c : ByteArray) (a t : Int) : Int :=
  if myK r c a t = true then
    if r.o < a then 17 else if r.t ≤ (getU L c (winW r t)).n then 18 else if r.s - a < (getU L c (winW r t)).s then 17
    else if (fndU L c).isSome = true then 0 else if L.length < 16 then 0 else if (L.any fun v => decide (v.w ≠ winW r t)) = true then 0 else 14
  else 1
def nxtU (u : Us) (a : Int) : Us := ⟨u.c, u.w, u.n + 1, u.s + a⟩
def trN (L : List Us) (r : Rl) (c : ByteArray) (a t : Int) : List Us := if trE L r c a t = 0 then putU L (nxtU (getU L c (winW r t)) a) else L
/-- Undo -/
def unK (L : List Us) (c : ByteArray) (a W : Int) : Option Us := match fndU L c with
  | some v => if v.w = W ∧ v.n ≠ 0 ∧ a ≤ v.s then some ⟨v.c, v.w, v.n - 1, v.s - a⟩ else none
  | none => none
def unE (L : List Us) (r : Rl) (c : ByteArray) (a t : Int) : Int := if myK r c a t = true then (if (unK L c a (winW r t)).isSome = true then 0 else 15) else 1
def unN (L : List Us) (r : Rl) (c : ByteArray) (a t : Int) : List Us := if myK r c a t = true then (match unK L c a (winW r t) with | some u => setU L u | none => L) else L
/-- what uses may be -/
structure UsOk (u : Us) : Prop where
  c1 : 1 ≤ u.c.size
  c32 : u.c.size ≤ 32
  w0 : 0 ≤ u.w
  n0 : 0 ≤ u.n
  nB : u.n ≤ 1125899906842624
  s0 : 0 ≤ u.s
  sB : u.s ≤ 1125899906842624
  wB : u.w ≤ 9223372036854775807
structure BkOk (L : List Us) : Prop where
  few : L.length ≤ 16
  apart : L.Pairwise fun a b => a.c ≠ b.c
  each : ∀ u ∈ L, UsOk u
open Classical in
noncomputable def reE (F : List Us) : Int := if BkOk F then 0 else 1
theorem BkOk.nil : BkOk [] := ⟨Nat.zero_le _, List.Pairwise.nil, fun u h => by cases h⟩
/-! ### what is found -/
theorem fnd_mem {L : List Us} {c : ByteArray} {v : Us} (h : fndU L c = some v) : v ∈ L ∧ v.c = c := by
  unfold fndU at h
  exact ⟨List.mem_of_find?_eq_some h, by simpa using List.find?_some h⟩
theorem fnd_none {L : List Us} {c : ByteArray} : fndU L c = none ↔ ∀ v ∈ L, v.c ≠ c := by
  unfold fndU
  rw [List.find?_eq_none]
  simp
theorem fnd_of {L : List Us} (h : L.Pairwise fun a b => a.c ≠ b.c) {v : Us} (hv : v ∈ L) : fndU L v.c = some v := by
  induction L with
  | nil => cases hv
  | cons q L ih =>
    obtain ⟨h1, h2⟩ := List.pairwise_cons.1 h
    unfold fndU at ih ⊢
    rcases List.mem_cons.1 hv with rfl | hv
    · simp
    · rw [List.find?_cons_of_neg (by simpa using h1 v hv)]
      exact ih h2 hv
theorem get_card {L : List Us} {c : ByteArray} {W : Int} : (getU L c W).c = c ∧ (getU L c W).w = W := by
  unfold getU
  cases h : fndU L c with
  | none => exact ⟨rfl, rfl⟩
  | some v =>
    show (if v.w = W then v else ⟨c, W, 0, 0⟩ : Us).c = c ∧ (if v.w = W then v else ⟨c, W, 0, 0⟩ : Us).w = W
    by_cases e : v.w = W
    · rw [if_pos e]; exact ⟨(fnd_mem h).2, e⟩
    · rw [if_neg e]; exact ⟨rfl, rfl⟩
theorem mem_set {L : List Us} {u v : Us} (h : v ∈ setU L u) : v = u ∨ (v ∈ L ∧ v.c ≠ u.c) := by
  unfold setU at h
  obtain ⟨x, hx, e⟩ := List.mem_map.1 h
  by_cases hc : x.c = u.c
  · rw [if_pos hc] at e; exact Or.inl e.symm
  · rw [if_neg hc] at e; subst e; exact Or.inr ⟨hx, hc⟩
theorem set_cards (L : List Us) (u : Us) : (setU L u).map Us.c = L.map Us.c := by
  unfold setU
  rw [List.map_map]
  refine List.map_congr_left fun v _ => ?_
  show (if v.c = u.c then u else v).c = v.c
  by_cases e : v.c = u.c
  · rw [if_pos e, e]
  · rw [if_neg e]
theorem pair_cards {L : List Us} : (L.Pairwise fun a b => a.c ≠ b.c) ↔ (L.map Us.c).Pairwise (· ≠ ·) := by rw [List.pairwise_map]
theorem set_ok {L : List Us} (h : BkOk L) {u : Us} (hu : UsOk u) : BkOk (setU L u) where
  few := by unfold setU; rw [List.length_map]; exact h.few
  apart := by rw [pair_cards, set_cards, ← pair_cards]; exact h.apart
  each := fun v hv => by
    rcases mem_set hv with rfl | ⟨hv, _⟩
    · exact hu
    · exact h.each v hv
theorem mem_out {L : List Us} {W : Int} {v : Us} (h : v ∈ outU L W) : v ∈ L := List.mem_of_mem_eraseP h
theorem out_len {L : List Us} {W : Int} (h : (L.any fun v => decide (v.w ≠ W)) = true) : (outU L W).length + 1 = L.length := by
  obtain ⟨v, hv, hp⟩ := List.any_eq_true.1 h
  unfold outU
  have := List.length_pos_of_mem hv
  rw [List.length_eraseP_of_mem hv hp]
  omega
theorem put_ok {L : List Us} (h : BkOk L) {u : Us} (hu : UsOk u) (hr : (fndU L u.c).isSome = true ∨ L.length < 16 ∨ (L.any fun v => decide (v.w ≠ u.w)) = true) : BkOk (putU L u) := by
  unfold putU
  by_cases hf : (fndU L u.c).isSome = true
  · rw [if_pos hf]
    exact set_ok h hu
  · rw [if_neg hf]
    have hn : ∀ v ∈ L, v.c ≠ u.c := fnd_none.1 (by cases hh : fndU L u.c with | none => rfl | some v => rw [hh] at hf; exact absurd rfl hf)
    by_cases hl : L.length < 16
    · rw [if_pos hl]
      refine ⟨by rw [List.length_append, List.length_singleton]; omega, List.pairwise_append.2 ⟨h.apart, List.pairwise_singleton _ _, fun v hv q hq => ?_⟩, fun v hv => ?_⟩
      · rw [List.mem_singleton.1 hq]; exact hn v hv
      · rcases List.mem_append.1 hv with hv | hv
        · exact h.each v hv
        · rw [List.mem_singleton.1 hv]; exact hu
    · rw [if_neg hl]
      have ho := out_len (hr.resolve_left hf |>.resolve_left hl)
      have := h.few
      refine ⟨by rw [List.length_append, List.length_singleton]; omega, List.pairwise_append.2 ⟨h.apart.sublist (List.eraseP_sublist ..), List.pairwise_singleton _ _, fun v hv q hq => ?_⟩, fun v hv => ?_⟩
      · rw [List.mem_singleton.1 hq]; exact hn v (mem_out hv)
      · rcases List.mem_append.1 hv with hv | hv
        · exact h.each v (mem_out hv)
        · rw [List.mem_singleton.1 hv]; exact hu
/-- a card's use in a book that may be -/
theorem get_ok {L : List Us} (h : BkOk L) {c : ByteArray} {W : Int} (hc : 1 ≤ c.size ∧ c.size ≤ 32) (hW : 0 ≤ W) (hW2 : W ≤ 9223372036854775807) : UsOk (getU L c W) := by
  unfold getU
  have h0 : UsOk ⟨c, W, 0, 0⟩ := ⟨hc.1, hc.2, hW, Int.le_refl _, (by show (0 : Int) ≤ _; decide), Int.le_refl _, (by show (0 : Int) ≤ _; decide), hW2⟩
  cases hf : fndU L c with
  | none => exact h0
  | some v =>
    show UsOk (if v.w = W then v else ⟨c, W, 0, 0⟩)
    by_cases e : v.w = W
    · rw [if_pos e]; exact h.each v (fnd_mem hf).1
    · rw [if_neg e]; exact h0
structure MyK (r : Rl) (c : ByteArray) (a t : Int) : Prop where
  rt : 0 ≤ r.t ∧ r.t ≤ 999999999999
  rs : 0 ≤ r.s ∧ r.s ≤ 999999999999
  ro : 0 ≤ r.o ∧ r.o ≤ 999999999999
  rk : 1 ≤ r.k ∧ r.k ≤ 1099511627776
  a : 0 ≤ a ∧ a ≤ 999999999999
  c : 1 ≤ c.size ∧ c.size ≤ 32
  t : 0 ≤ t ∧ t ≤ 1099511627776
theorem my_iff {r : Rl} {c : ByteArray} {a t : Int} : myK r c a t = true ↔ MyK r c a t := by
  unfold myK rlK
  rw [Bool.and_eq_true, decide_eq_true_iff, decide_eq_true_iff]
  exact ⟨fun ⟨⟨h1, h2, h3, h4⟩, h5, h6, h7⟩ => ⟨h1, h2, h3, h4, h5, h6, h7⟩, fun h => ⟨⟨h.rt, h.rs, h.ro, h.rk⟩, h.a, h.c, h.t⟩⟩
theorem win_nn {r : Rl} {t : Int} (hk : 1 ≤ r.k) (ht : 0 ≤ t) : 0 ≤ winW r t := Int.ediv_nonneg ht (by omega)
theorem win_le {r : Rl} {t : Int} (hk : 1 ≤ r.k) (ht : 0 ≤ t ∧ t ≤ 1099511627776) : winW r t ≤ 9223372036854775807 := by
  have h1 : winW r t ≤ t := Int.ediv_le_self _ ht.1
  have _ := hk
  omega
/-- when Try lets through -/
structure TrK (L : List Us) (r : Rl) (c : ByteArray) (a t : Int) : Prop where
  my : MyK r c a t
  once : a ≤ r.o
  times : (getU L c (winW r t)).n < r.t
  sum : (getU L c (winW r t)).s + a ≤ r.s
  room : (fndU L c).isSome = true ∨ L.length < 16 ∨ (L.any fun v => decide (v.w ≠ winW r t)) = true
theorem tr_iff {L : List Us} {r : Rl} {c : ByteArray} {a t : Int} : trE L r c a t = 0 ↔ TrK L r c a t := by
  unfold trE
  by_cases hm : myK r c a t = true
  · rw [if_pos hm]
    by_cases h1 : r.o < a
    · rw [if_pos h1]; exact ⟨(fun h => absurd h (by decide)), fun h => by have := h.once; omega⟩
    rw [if_neg h1]
    by_cases h2 : r.t ≤ (getU L c (winW r t)).n
    · rw [if_pos h2]; exact ⟨(fun h => absurd h (by decide)), fun h => by have := h.times; omega⟩
    rw [if_neg h2]
    by_cases h3 : r.s - a < (getU L c (winW r t)).s
    · rw [if_pos h3]; exact ⟨(fun h => absurd h (by decide)), fun h => by have := h.sum; omega⟩
    rw [if_neg h3]
    by_cases h4 : (fndU L c).isSome = true
    · rw [if_pos h4]; exact ⟨fun _ => ⟨my_iff.1 hm, by omega, by omega, by omega, Or.inl h4⟩, fun _ => rfl⟩
    rw [if_neg h4]
    by_cases h5 : L.length < 16
    · rw [if_pos h5]; exact ⟨fun _ => ⟨my_iff.1 hm, by omega, by omega, by omega, Or.inr (Or.inl h5)⟩, fun _ => rfl⟩
    rw [if_neg h5]
    by_cases h6 : (L.any fun v => decide (v.w ≠ winW r t)) = true
    · rw [if_pos h6]; exact ⟨fun _ => ⟨my_iff.1 hm, by omega, by omega, by omega, Or.inr (Or.inr h6)⟩, fun _ => rfl⟩
    · rw [if_neg h6]
      refine ⟨(fun h => absurd h (by decide)), fun h => ?_⟩
      rcases h.room with h | h | h
      · exact absurd h h4
      · exact absurd h h5
      · exact absurd h h6
  · rw [if_neg hm]
    exact ⟨(fun h => absurd h (by decide)), fun h => absurd (my_iff.2 h.my) hm⟩
theorem tr_ok {L : List Us} (h : BkOk L) (r : Rl) (c : ByteArray) (a t : Int) : BkOk (trN L r c a t) := by
  unfold trN
  by_cases e : trE L r c a t = 0
  · rw [if_pos e]
    have k := tr_iff.1 e
    have g := get_ok h k.my.c (win_nn (t := t) k.my.rk.1 k.my.t.1) (win_le (t := t) k.my.rk.1 k.my.t)
    have gc := get_card (L := L) (c := c) (W := winW r t)
    have h1 := k.times
    have h2 := k.sum
    have h3 := k.my.a
    have h4 := k.my.rt
    have h5 := k.my.rs
    have g1 := g.n0
    have g2 := g.s0
    have hu : UsOk (nxtU (getU L c (winW r t)) a) := ⟨g.c1, g.c32, g.w0, by show 0 ≤ _ + 1; omega, by show _ + 1 ≤ _; omega, by show 0 ≤ _ + a; omega, by show _ + a ≤ _; omega, g.wB⟩
    refine put_ok h hu ?_
    show (fndU L (getU L c (winW r t)).c).isSome = true ∨ _ ∨ (L.any fun v => decide (v.w ≠ (getU L c (winW r t)).w)) = true
    rw [gc.1, gc.2]
    exact k.room
  · rw [if_neg e]
    exact h
theorem un_ok {L : List Us} (h : BkOk L) (r : Rl) (c : ByteArray) (a t : Int) : BkOk (unN L r c a t) := by
  unfold unN
  by_cases e : myK r c a t = true
  · rw [if_pos e]
    have k := my_iff.1 e
    unfold unK
    cases hf : fndU L c with
    | none => exact h
    | some v =>
      have g := h.each v (fnd_mem hf).1
      by_cases hv : v.w = winW r t ∧ v.n ≠ 0 ∧ a ≤ v.s
      · simp only [if_pos hv]
        have h1 := g.n0
        have h2 := g.nB
        have h3 := g.sB
        have h4 := k.a
        exact set_ok h ⟨g.c1, g.c32, g.w0, by show 0 ≤ v.n - 1; omega, by show v.n - 1 ≤ _; omega, by show 0 ≤ v.s - a; omega, by show v.s - a ≤ _; omega, g.wB⟩
      · simp only [if_neg hv]
        exact h
  · rw [if_neg e]
    exact h
end Go.Proofs.Ytbcanfhjdllaoaa
