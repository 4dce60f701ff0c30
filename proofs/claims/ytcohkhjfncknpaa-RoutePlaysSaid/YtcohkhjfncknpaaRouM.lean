/- Layer 15: routes as plain data: texts in byte order, a table as a rising list, known by what it has at each text. -/
import Derived.Test.YtcohkhjfncknpaaBase
namespace Go.Proofs.Ytcohkhjfncknpaa
open Go.RowKit
/-! ### byte order -/
theorem bl_irr : ∀ x : List UInt8, Go.Op.bytesLess x x = false
  | [] => rfl
  | a :: x => by
    unfold Go.Op.bytesLess
    rw [bl_irr x]
    simp
theorem bl_tri : ∀ x y : List UInt8, Go.Op.bytesLess x y = false → Go.Op.bytesLess y x = false → x = y
  | [], [], _, _ => rfl
  | [], _ :: _, h, _ => by simp [Go.Op.bytesLess] at h
  | _ :: _, [], _, h => by simp [Go.Op.bytesLess] at h
  | a :: x, b :: y, h1, h2 => by
    unfold Go.Op.bytesLess at h1 h2
    simp only [Bool.or_eq_false_iff, decide_eq_false_iff_not, Bool.and_eq_false_imp, beq_iff_eq] at h1 h2
    have e : a = b := by
      have e1 := h1.1
      have e2 := h2.1
      rw [UInt8.not_lt] at e1 e2
      exact UInt8.le_antisymm e2 e1
    subst e
    rw [bl_tri x y (h1.2 rfl) (h2.2 rfl)]
theorem bl_trans : ∀ x y z : List UInt8, Go.Op.bytesLess x y = true → Go.Op.bytesLess y z = true → Go.Op.bytesLess x z = true
  | _, _, [], _, h => by simp [Go.Op.bytesLess] at h
  | _, [], _ :: _, h, _ => by simp [Go.Op.bytesLess] at h
  | [], _ :: _, _ :: _, _, _ => rfl
  | a :: x, b :: y, c :: z, h1, h2 => by
    unfold Go.Op.bytesLess at h1 h2 ⊢
    simp only [Bool.or_eq_true, decide_eq_true_eq, Bool.and_eq_true, beq_iff_eq] at h1 h2 ⊢
    rcases h1 with h1 | ⟨rfl, h1⟩
    · rcases h2 with h2 | ⟨rfl, h2⟩
      · exact Or.inl (UInt8.lt_trans h1 h2)
      · exact Or.inl h1
    · rcases h2 with h2 | ⟨rfl, h2⟩
      · exact Or.inl h2
      · exact Or.inr ⟨rfl, bl_trans x y z h1 h2⟩
/-- before in byte order -/
def lsB (x y : ByteArray) : Bool := Go.Op.bytesLess x.toList y.toList
theorem toList_inj {x y : ByteArray} (h : x.toList = y.toList) : x = y := by
  have h1 : x.data.toList = y.data.toList := by
    rw [ByteArray.toList_eq, ByteArray.toList_eq] at h
    exact h
  cases x
  cases y
  congr 1
  exact Array.ext' h1
theorem lsB_irr (x : ByteArray) : lsB x x = false := bl_irr _
theorem lsB_tri {x y : ByteArray} (h1 : lsB x y = false) (h2 : lsB y x = false) : x = y := toList_inj (bl_tri _ _ h1 h2)
theorem lsB_trans {x y z : ByteArray} (h1 : lsB x y = true) (h2 : lsB y z = true) : lsB x z = true := bl_trans _ _ _ h1 h2
theorem lsB_ne {x y : ByteArray} (h : lsB x y = true) : x ≠ y := fun e => by rw [e, lsB_irr] at h; cases h
theorem lsB_asym {x y : ByteArray} (h : lsB x y = true) : lsB y x = false := by
  cases h2 : lsB y x with
  | false => rfl
  | true => have := lsB_trans h h2; rw [lsB_irr] at this; cases this
/-! ### tables -/
/-- a route -/
structure Rt where
  p : ByteArray
  t : Int
instance : DecidableEq Rt := fun a b => decidable_of_iff (a.p = b.p ∧ a.t = b.t) ⟨fun h => by cases a; cases b; simp only at h; rw [h.1, h.2], fun h => by rw [h]; exact ⟨rfl, rfl⟩⟩
/-- what a table has at a text -/
def atR : List Rt → ByteArray → Option Int
  | [], _ => none
  | r :: L, p => if r.p = p then some r.t else atR L p
/-- rising in byte order -/
def Rise (L : List Rt) : Prop := L.Pairwise fun a b => lsB a.p b.p = true
def putR : List Rt → ByteArray → Int → List Rt
  | [], p, t => [⟨p, t⟩]
  | r :: L, p, t => if lsB r.p p = true then r :: putR L p t else if r.p = p then ⟨p, t⟩ :: L else ⟨p, t⟩ :: r :: L
def dropR (L : List Rt) (p : ByteArray) : List Rt := L.filter fun r => decide (r.p ≠ p)
theorem atR_none {L : List Rt} {p : ByteArray} (h : ∀ r ∈ L, r.p ≠ p) : atR L p = none := by
  induction L with
  | nil => rfl
  | cons r L ih =>
    unfold atR
    rw [if_neg (h r (List.mem_cons_self ..))]
    exact ih fun q hq => h q (List.mem_cons_of_mem _ hq)
theorem atR_mem {L : List Rt} {p : ByteArray} {t : Int} (h : atR L p = some t) : (⟨p, t⟩ : Rt) ∈ L := by
  induction L with
  | nil => cases h
  | cons r L ih =>
    unfold atR at h
    by_cases e : r.p = p
    · rw [if_pos e] at h
      injection h with h
      subst e h
      exact List.mem_cons_self ..
    · rw [if_neg e] at h
      exact List.mem_cons_of_mem _ (ih h)
theorem atR_of {L : List Rt} (hr : Rise L) {r : Rt} (h : r ∈ L) : atR L r.p = some r.t := by
  induction L with
  | nil => cases h
  | cons q L ih =>
    unfold atR
    obtain ⟨h1, h2⟩ := List.pairwise_cons.1 hr
    rcases List.mem_cons.1 h with rfl | h
    · rw [if_pos rfl]
    · rw [if_neg (lsB_ne (h1 r h))]
      exact ih h2 h
/-- two rising lists that have the same at each text are one -/
theorem rise_ext : ∀ {L L' : List Rt}, Rise L → Rise L' → (∀ p, atR L p = atR L' p) → L = L'
  | [], [], _, _, _ => rfl
  | [], r :: L', _, _, h => by
    have := h r.p
    unfold atR at this
    rw [if_pos rfl] at this
    cases this
  | r :: L, [], _, _, h => by
    have := h r.p
    unfold atR at this
    rw [if_pos rfl] at this
    cases this
  | r :: L, q :: L', h1, h2, h => by
    obtain ⟨a1, a2⟩ := List.pairwise_cons.1 h1
    obtain ⟨b1, b2⟩ := List.pairwise_cons.1 h2
    have hrq : r.p = q.p := by
      have m1 : (⟨r.p, r.t⟩ : Rt) ∈ q :: L' := atR_mem (by rw [← h r.p]; exact atR_of h1 (List.mem_cons_self ..))
      have m2 : (⟨q.p, q.t⟩ : Rt) ∈ r :: L := atR_mem (by rw [h q.p]; exact atR_of h2 (List.mem_cons_self ..))
      rcases List.mem_cons.1 m1 with e | e
      · exact congrArg Rt.p e
      · rcases List.mem_cons.1 m2 with e2 | e2
        · exact (congrArg Rt.p e2).symm
        · have h3 := lsB_asym (b1 _ e)
          have h4 := a1 _ e2
          rw [h3] at h4
          cases h4
    have hrt : r.t = q.t := by
      have := h r.p
      unfold atR at this
      rw [if_pos rfl, if_pos hrq.symm] at this
      injection this
    have hL : L = L' := rise_ext a2 b2 fun p => by
      by_cases e : r.p = p
      · rw [atR_none fun x hx => by rw [← e]; exact (lsB_ne (a1 x hx)).symm, atR_none fun x hx => by rw [← e, hrq]; exact (lsB_ne (b1 x hx)).symm]
      · have := h p
        unfold atR at this
        rwa [if_neg e, if_neg (by rw [← hrq]; exact e)] at this
    cases r
    cases q
    simp only at hrq hrt
    rw [hrq, hrt, hL]
theorem putR_mem {L : List Rt} {p : ByteArray} {t : Int} {r : Rt} (h : r ∈ putR L p t) : r = ⟨p, t⟩ ∨ r ∈ L := by
  induction L with
  | nil => exact Or.inl (List.mem_singleton.1 h)
  | cons q L ih =>
    unfold putR at h
    split at h
    · rcases List.mem_cons.1 h with rfl | h
      · exact Or.inr (List.mem_cons_self ..)
      · rcases ih h with e | e
        · exact Or.inl e
        · exact Or.inr (List.mem_cons_of_mem _ e)
    · split at h
      · rcases List.mem_cons.1 h with e | h
        · exact Or.inl e
        · exact Or.inr (List.mem_cons_of_mem _ h)
      · rcases List.mem_cons.1 h with e | h
        · exact Or.inl e
        · exact Or.inr h
theorem putR_rise {L : List Rt} (h : Rise L) (p : ByteArray) (t : Int) : Rise (putR L p t) := by
  induction L with
  | nil => exact List.pairwise_singleton _ _
  | cons q L ih =>
    obtain ⟨h1, h2⟩ := List.pairwise_cons.1 h
    unfold putR
    split
    · rename_i hq
      refine List.pairwise_cons.2 ⟨fun r hr => ?_, ih h2⟩
      rcases putR_mem hr with rfl | hr
      · exact hq
      · exact h1 r hr
    · rename_i hq
      split
      · rename_i e
        exact List.pairwise_cons.2 ⟨fun r hr => by rw [← e]; exact h1 r hr, h2⟩
      · rename_i e
        have hpq : lsB p q.p = true := by
          cases h3 : lsB p q.p with
          | true => rfl
          | false => exact absurd (lsB_tri (Bool.eq_false_iff.2 hq) h3) e
        refine List.pairwise_cons.2 ⟨fun r hr => ?_, h⟩
        rcases List.mem_cons.1 hr with rfl | hr
        · exact hpq
        · exact lsB_trans hpq (h1 r hr)
theorem atR_put {L : List Rt} (p : ByteArray) (t : Int) (q : ByteArray) : atR (putR L p t) q = if p = q then some t else atR L q := by
  induction L with
  | nil => rfl
  | cons r L ih =>
    unfold putR
    split
    · rename_i hr
      show (if r.p = q then some r.t else atR (putR L p t) q) = _
      rw [ih]
      by_cases e : p = q
      · subst e
        rw [if_neg (lsB_ne hr), if_pos rfl, if_pos rfl]
      · rw [if_neg e, if_neg e]
        rfl
    · split
      · rename_i e
        show (if p = q then some t else atR L q) = _
        by_cases e2 : p = q
        · rw [if_pos e2, if_pos e2]
        · rw [if_neg e2, if_neg e2]
          show _ = if r.p = q then some r.t else atR L q
          rw [if_neg (by rw [e]; exact e2)]
      · rfl
theorem dropR_rise {L : List Rt} (h : Rise L) (p : ByteArray) : Rise (dropR L p) := List.Pairwise.filter _ h
theorem atR_drop {L : List Rt} (p q : ByteArray) : atR (dropR L p) q = if p = q then none else atR L q := by
  induction L with
  | nil => unfold dropR; simp [atR]
  | cons r L ih =>
    unfold dropR at ih ⊢
    by_cases e : r.p = p
    · rw [List.filter_cons_of_neg (by simp [e]), ih]
      by_cases e2 : p = q
      · rw [if_pos e2, if_pos e2]
      · rw [if_neg e2, if_neg e2]
        show _ = if r.p = q then some r.t else atR L q
        rw [if_neg (by rw [e]; exact e2)]
    · rw [List.filter_cons_of_pos (by simp [e])]
      show (if r.p = q then some r.t else atR (List.filter _ L) q) = if p = q then none else if r.p = q then some r.t else atR L q
      rw [ih]
      by_cases e2 : r.p = q
      · rw [if_pos e2, if_pos e2, if_neg (by rw [← e2]; exact fun e3 => e e3.symm)]
      · rw [if_neg e2, if_neg e2]
/-- how many routes there are then -/
theorem putR_length {L : List Rt} (h : Rise L) (p : ByteArray) (t : Int) : (putR L p t).length = if (atR L p).isSome = true then L.length else L.length + 1 := by
  induction L with
  | nil => rfl
  | cons r L ih =>
    obtain ⟨h1, h2⟩ := List.pairwise_cons.1 h
    unfold putR
    split
    · rename_i hr
      rw [List.length_cons, ih h2]
      show _ = if ((if r.p = p then some r.t else atR L p).isSome) = true then _ else _
      rw [if_neg (lsB_ne hr)]
      split <;> rfl
    · split
      · rename_i e
        show _ = if ((if r.p = p then some r.t else atR L p).isSome) = true then _ else _
        rw [if_pos e]
        rfl
      · rename_i hr e
        have hpr : lsB p r.p = true := by
          cases h3 : lsB p r.p with
          | true => rfl
          | false => exact absurd (lsB_tri (Bool.eq_false_iff.2 hr) h3) e
        show _ = if ((if r.p = p then some r.t else atR L p).isSome) = true then _ else _
        rw [if_neg e, atR_none fun x hx => (lsB_ne (lsB_trans hpr (h1 x hx))).symm]
        rfl
/-! ### the longest -/
/-- what is found among the first k bytes of a text -/
def fndR (L : List Rt) (s : ByteArray) : Nat → Option Int
  | 0 => none
  | k + 1 => if k + 1 ≤ s.size then (match atR L (s.extract 0 (k + 1)) with | some t => some t | none => fndR L s k) else fndR L s k
theorem fndR_congr {L L' : List Rt} {s : ByteArray} : ∀ {k : Nat}, (∀ j, 1 ≤ j → j ≤ k → j ≤ s.size → atR L (s.extract 0 j) = atR L' (s.extract 0 j)) → fndR L s k = fndR L' s k
  | 0, _ => rfl
  | k + 1, h => by
    unfold fndR
    rw [fndR_congr fun j h1 h2 h3 => h j h1 (by omega) h3]
    by_cases e : k + 1 ≤ s.size
    · rw [if_pos e, if_pos e, h (k + 1) (by omega) (Nat.le_refl _) e]
    · rw [if_neg e, if_neg e]
theorem fndR_some {L : List Rt} {s : ByteArray} {t : Int} : ∀ {k : Nat}, fndR L s k = some t → ∃ j, 1 ≤ j ∧ j ≤ k ∧ j ≤ s.size ∧ atR L (s.extract 0 j) = some t ∧ ∀ i, j < i → i ≤ k → i ≤ s.size → atR L (s.extract 0 i) = none
  | 0, h => by cases h
  | k + 1, h => by
    unfold fndR at h
    by_cases e : k + 1 ≤ s.size
    · rw [if_pos e] at h
      cases ha : atR L (s.extract 0 (k + 1)) with
      | some u =>
        rw [ha] at h
        exact ⟨k + 1, by omega, Nat.le_refl _, e, by rw [ha]; exact h, fun i h1 h2 _ => by omega⟩
      | none =>
        rw [ha] at h
        obtain ⟨j, h1, h2, h3, h4, h5⟩ := fndR_some h
        exact ⟨j, h1, by omega, h3, h4, fun i h6 h7 h8 => by
          by_cases e2 : i = k + 1
          · rw [e2]; exact ha
          · exact h5 i h6 (by omega) h8⟩
    · rw [if_neg e] at h
      obtain ⟨j, h1, h2, h3, h4, h5⟩ := fndR_some h
      exact ⟨j, h1, by omega, h3, h4, fun i h6 h7 h8 => h5 i h6 (by omega) h8⟩
theorem fndR_none {L : List Rt} {s : ByteArray} : ∀ {k : Nat}, fndR L s k = none → ∀ i, 1 ≤ i → i ≤ k → i ≤ s.size → atR L (s.extract 0 i) = none
  | 0, _ => fun i h1 h2 _ => by omega
  | k + 1, h => by
    unfold fndR at h
    by_cases e : k + 1 ≤ s.size
    · rw [if_pos e] at h
      cases ha : atR L (s.extract 0 (k + 1)) with
      | some u => rw [ha] at h; cases h
      | none =>
        rw [ha] at h
        exact fun i h1 h2 h3 => by
          by_cases e2 : i = k + 1
          · rw [e2]; exact ha
          · exact fndR_none h i h1 (by omega) h3
    · rw [if_neg e] at h
      exact fun i h1 h2 h3 => fndR_none h i h1 (by omega) h3
theorem fndR_of {L : List Rt} {s : ByteArray} {t : Int} {j : Nat} : ∀ {k : Nat}, 1 ≤ j → j ≤ k → j ≤ s.size → atR L (s.extract 0 j) = some t → (∀ i, j < i → i ≤ k → i ≤ s.size → atR L (s.extract 0 i) = none) → fndR L s k = some t
  | 0, h1, h2, _, _, _ => by omega
  | k + 1, h1, h2, h3, h4, h5 => by
    unfold fndR
    by_cases ej : j = k + 1
    · subst ej
      rw [if_pos h3, h4]
    · have ih := fndR_of (k := k) h1 (by omega) h3 h4 fun i a b c => h5 i a (by omega) c
      by_cases e : k + 1 ≤ s.size
      · rw [if_pos e, h5 (k + 1) (by omega) (Nat.le_refl _) e]
        exact ih
      · rw [if_neg e]
        exact ih
end Go.Proofs.Ytcohkhjfncknpaa
