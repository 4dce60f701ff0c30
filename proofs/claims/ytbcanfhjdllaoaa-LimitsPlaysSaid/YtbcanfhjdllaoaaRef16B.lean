/- The document's book (layer 16): may, at. -/
import Derived.Test.YtbcanfhjdllaoaaRef16A
namespace Go.Proofs.Ytbcanfhjdllaoaa
set_option maxRecDepth 100000
open Go.RowKit
theorem my_eq (r : Rl) (c : ByteArray) (a t : Int) : myK r c a t = (rlK r && mny a && decide (1 ≤ c.size) && decide (c.size ≤ 32) && decide (0 ≤ t) && decide (t ≤ 1099511627776)) := by
  unfold myK mny
  rw [Bool.eq_iff_iff]
  simp only [Bool.and_eq_true, decide_eq_true_eq, and_assoc]
theorem nil_of_size {c : ByteArray} (h : c.size = 0) : c.toList = [] := by
  rw [ByteArray.toList_eq]
  exact List.eq_nil_of_length_eq_zero (Array.length_toList.trans h)
theorem not_nil {c : ByteArray} (h : 1 ≤ c.size) : ¬ c.toList = [] := fun e => by
  have := toList_of_size (s := c) (by omega)
  rw [e] at this
  cases this
/-- where the first of the tests fails, if one does -/
theorem my_ways (r : Rl) (c : ByteArray) (a t : Int) :
    (rlK r = false ∧ myK r c a t = false) ∨ (rlK r = true ∧ mny a = false ∧ myK r c a t = false) ∨ (rlK r = true ∧ mny a = true ∧ c.size = 0 ∧ myK r c a t = false) ∨
    (rlK r = true ∧ mny a = true ∧ 1 ≤ c.size ∧ 32 < c.size ∧ myK r c a t = false) ∨ (rlK r = true ∧ mny a = true ∧ 1 ≤ c.size ∧ c.size ≤ 32 ∧ t < 0 ∧ myK r c a t = false) ∨
    (rlK r = true ∧ mny a = true ∧ 1 ≤ c.size ∧ c.size ≤ 32 ∧ 0 ≤ t ∧ 1099511627776 < t ∧ myK r c a t = false) ∨ (rlK r = true ∧ mny a = true ∧ 1 ≤ c.size ∧ c.size ≤ 32 ∧ 0 ≤ t ∧ t ≤ 1099511627776 ∧ myK r c a t = true) := by
  rw [my_eq]
  cases rlK r
  · exact Or.inl ⟨rfl, rfl⟩
  cases mny a
  · exact Or.inr (Or.inl ⟨rfl, rfl, rfl⟩)
  by_cases h1 : 1 ≤ c.size
  · by_cases h2 : c.size ≤ 32
    · by_cases h3 : 0 ≤ t
      · by_cases h4 : t ≤ 1099511627776
        · simp [h1, h2, h3, h4]
        · have h5 : 1099511627776 < t := by omega
          simp [h1, h2, h3, h4, h5]
      · have h5 : t < 0 := by omega
        simp [h1, h2, h3, h5]
    · have h5 : 32 < c.size := by omega
      simp [h1, h2, h5]
  · have h5 : c.size = 0 := by omega
    simp [h5]
set_option maxHeartbeats 1600000 in
theorem rmay16_any (r : Rl) (c : ByteArray) (a t : Int) (w : World) : Calls Try.prog 26 #[ruV r, .string c, .int .i64 a, .int .i64 t] w fun e w' => e = .returned (.bool (myK r c a t)) ∧ Below w.heap.size w w' := by
  have HR := Lib.hid (fun w => rright16_any r w)
  have HM := Lib.hid (fun w => rmoney_any a w)
  have HBL := Lib.hid (alloc_below w (.cells #[.int .i64 r.k, .int .i64 r.t, .int .i64 r.s, .int .i64 r.o] 38))
  rcases my_ways r c a t with ⟨q0, qm⟩ | ⟨q0, q1, qm⟩ | ⟨q0, q1, q2, qm⟩ | ⟨q0, q1, q2, q3, qm⟩ | ⟨q0, q1, q2, q3, q4, qm⟩ | ⟨q0, q1, q2, q3, q4, q5, qm⟩ | ⟨q0, q1, q2, q3, q4, q5, qm⟩
  all_goals
    rw [q0] at HR
    obtain ⟨bm, hbm⟩ : ∃ b, mny a = b := ⟨_, rfl⟩
    rw [hbm] at HM
    try rw [hbm] at q1
    try subst q1
    clear hbm
    rw [qm]
    clear qm q0
    try (have d1 : decide (((c.size : Nat) : Int) ≤ 32) = true := decide_eq_true (by omega))
    try (have d1 : decide (((c.size : Nat) : Int) ≤ 32) = false := decide_eq_false (by omega))
    try (have d2 : decide (0 ≤ t) = true := decide_eq_true (by omega))
    try (have d2 : decide (0 ≤ t) = false := decide_eq_false (by omega))
    try (have d3 : decide (t ≤ 1099511627776) = true := decide_eq_true (by omega))
    try (have d3 : decide (t ≤ 1099511627776) = false := decide_eq_false (by omega))
    try (have e1 := nil_of_size q2)
    try (have e1 := not_nil q2)
    try (have e2 := toList_of_size (s := c) q2)
    obtain ⟨k, rt, rs, ro⟩ := r
    simp only at HR HBL
    go_enter Try.func26, Try.ntmps26
    go_wp2_with fail
    refine (HR.out _).mono ?_
    rintro e w1 ⟨rfl, hb1⟩
    have HB1 := Lib.hid (HBL.out.trans (hb1.mono HBL.out.size))
    clear hb1
    go_wp2_with fail
    refine (HM.out _).mono ?_
    rintro e w2 ⟨rfl, rfl⟩
    go_wp2_with fail
    go_ret
    exact ⟨rfl, HB1.out⟩
/-- what at tells -/
def AtP (L : List Us) (c : ByteArray) (q : Int) : Prop := (q = -1 ∧ fndU L c = none) ∨ ∃ (k : Nat) (hk : k < L.length), q = (k : Int) ∧ fndU L c = some L[k]
theorem rat16_any (u : World) (X : Nat) (L : List Us) (v : Value) (c : ByteArray) (w : World) (h : RBk u X w L v) :
    Calls Try.prog 25 #[.pointer (some ⟨X, 0, none⟩), .string c] w fun e w' => ∃ q, e = .returned (.int .i64 q) ∧ AtP L c q ∧ w' = w := by
  obtain ⟨A, cc, rfl, hl⟩ := h.own.slice
  have HL := Lib.hid hl
  have HOK := Lib.hid h.ok
  have hcell := h.cell
  have hL16 : (L.length : Int) ≤ 16 := by have := h.ok.few; omega
  clear h hl
  go_enter Try.func25, Try.ntmps25
  go_wp2_with fail
  go_loopw [5] (fun i wr => ∃ k : Nat, k ≤ L.length ∧ i = .int .i64 k ∧ wr = w ∧ ∀ j (h : j < L.length), j < k → L[j].c ≠ c) (fun i _ => L.length - (intOf i).toNat)
  case atStart => exact ⟨0, Nat.zero_le _, rfl, rfl, fun j _ hj => absurd hj (Nat.not_lt_zero j)⟩
  case round =>
    obtain ⟨k, hk, rfl, rfl, hno⟩ := hrel
    have HNO := Lib.hid hno
    clear hno
    by_cases hlt : k < L.length
    · obtain ⟨B, o, rfl, hBl, c1, _, _, _⟩ := us_at HL.out hlt
      have hk1 : (k : Int) < L.length := by omega
      by_cases he : L[k].c = c
      · have HE := Lib.hid (show AtP L c (k : Int) from Or.inr ⟨k, hlt, rfl, by rw [← he]; exact fnd_of HOK.out.apart (List.getElem_mem hlt)⟩)
        have q1 : (L[k].c.toList == c.toList) = true := by rw [he]; simp
        generalize L[k].c = x at *
        clear he
        go_wp2_with fail
        go_ret
        exact ⟨_, rfl, HE.out, rfl⟩
      · have HE := Lib.hid he
        have q1 : (L[k].c.toList == c.toList) = false := by rw [str_eq16]; exact decide_eq_false he
        have HN := Lib.hid (show ∀ j (h : j < L.length), j < k + 1 → L[j].c ≠ c from fun j hj hjk => by
          rcases Nat.lt_or_ge j k with h1 | h1
          · exact HNO.out j hj h1
          · obtain rfl : j = k := by omega
            exact HE.out)
        clear he HE
        generalize L[k].c = x at *
        go_wp2_with fail
        go_roundw
        case rel => exact ⟨k + 1, by omega, by go_num, trivial, HN.out⟩
        case measure => simp [intOf]; omega
    · have hk1 : ¬ (k : Int) < L.length := by omega
      have HE := Lib.hid (show AtP L c (-1) from Or.inl ⟨rfl, fnd_none.2 fun v hv => by
        obtain ⟨j, hj, rfl⟩ := List.getElem_of_mem hv
        exact HNO.out j hj (by omega)⟩)
      go_wp2_with fail
      go_ret
      exact ⟨_, rfl, HE.out, rfl⟩
end Go.Proofs.Ytbcanfhjdllaoaa
