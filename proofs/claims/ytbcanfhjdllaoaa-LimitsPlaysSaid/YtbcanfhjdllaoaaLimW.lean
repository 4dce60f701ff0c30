/- Layer 16, the code: within, isCard, Right, isTransaction, isUse. -/
import Derived.Test.YtbcanfhjdllaoaaLimK
namespace Go.Proofs.Ytbcanfhjdllaoaa
set_option maxRecDepth 100000
open Go.RowKit
def okB (m : Int) (X : Nat → Int) : Nat → Bool
  | 0 => true
  | n + 1 => okB m X n && decide (0 ≤ X n ∧ X n ≤ m)
theorem okB_iff {m : Int} {X : Nat → Int} {n : Nat} : okB m X n = true ↔ ∀ j, j < n → 0 ≤ X j ∧ X j ≤ m := by
  induction n with
  | zero => exact ⟨fun _ j hj => absurd hj (Nat.not_lt_zero j), fun _ => rfl⟩
  | succ n ih =>
    unfold okB
    rw [Bool.and_eq_true, ih, decide_eq_true_iff]
    refine ⟨fun h j hj => ?_, fun h => ⟨fun j hj => h j (by omega), h n (by omega)⟩⟩
    rcases Nat.lt_or_ge j n with h1 | h1
    · exact h.1 j h1
    · obtain rfl : j = n := by omega
      exact h.2
theorem okB_bad {m : Int} {X : Nat → Int} {n j : Nat} (hj : j < n) (h : ¬ (0 ≤ X j ∧ X j ≤ m)) : okB m X n = false := by
  cases e : okB m X n with
  | false => rfl
  | true => exact absurd (okB_iff.1 e j hj) h
theorem within16_any (m : Int) (B n c : Nat) (X : Nat → Int) (w : World) (hn : n ≤ 1000) (hA : ∀ i, i < n → w.cell? ⟨B, i, none⟩ = some (.int .i64 (X i))) :
    Calls Try.prog 27 #[.int .i64 m, .slice (some ⟨B, 0, none⟩) n c] w fun e w' => e = .returned (.bool (okB m X n)) ∧ w' = w := by
  have HA := Lib.hid hA
  clear hA
  go_enter Try.func27, Try.ntmps27
  go_wp2_with fail
  go_loopw [9] (fun i wr => ∃ k : Nat, k ≤ n ∧ i = .int .i64 k ∧ wr = w ∧ ∀ j, j < k → 0 ≤ X j ∧ X j ≤ m) (fun i _ => n - (intOf i).toNat)
  case atStart => exact ⟨0, Nat.zero_le _, rfl, rfl, fun j hj => absurd hj (Nat.not_lt_zero j)⟩
  case round =>
    obtain ⟨k, hk, rfl, rfl, hok⟩ := hrel
    have HOK := Lib.hid hok
    clear hok
    by_cases hlt : k < n
    · have hc := HA.out k hlt
      have hki : (k : Int) < n := by omega
      by_cases h1 : X k < 0
      · have HE := Lib.hid (okB_bad (m := m) (X := X) hlt (by omega))
        generalize X k = y at *
        go_wp2_with fail
        go_ret
        exact ⟨by rw [HE.out]; rfl, rfl⟩
      · by_cases h2 : m < X k
        · have HE := Lib.hid (okB_bad (m := m) (X := X) hlt (by omega))
          generalize X k = y at *
          go_wp2_with fail
          go_ret
          exact ⟨by rw [HE.out]; rfl, rfl⟩
        · have HE := Lib.hid (show ∀ j, j < k + 1 → 0 ≤ X j ∧ X j ≤ m from fun j hj => by
            rcases Nat.lt_or_ge j k with h | h
            · exact HOK.out j h
            · obtain rfl : j = k := by omega
              omega)
          generalize X k = y at *
          go_wp2_with fail
          go_roundw
          case rel => exact ⟨k + 1, by omega, by go_num, trivial, HE.out⟩
          case measure => simp [intOf]; omega
    · obtain rfl : k = n := by omega
      have HE := Lib.hid (okB_iff.2 HOK.out)
      go_wp2_with fail
      go_ret
      exact ⟨by rw [HE.out]; rfl, rfl⟩
theorem cell_new {w : World} {cs : Array Value} {T : TypeId} {B i : Nat} {v : Value} (hB : B = w.heap.size) (h : cs[i]? = some v) : (w.alloc (.cells cs T)).cell? ⟨B, i, none⟩ = some v := by
  subst hB
  exact (World.cell?_alloc_at _ _ _ _ rfl).trans h
/-- of one number -/
theorem within1 (m x : Int) (B : Nat) (w : World) (h : w.cell? ⟨B, 0, none⟩ = some (.int .i64 x)) : Calls Try.prog 27 #[.int .i64 m, .slice (some ⟨B, 0, none⟩) 1 1] w fun e w' => e = .returned (.bool (decide (0 ≤ x ∧ x ≤ m))) ∧ w' = w := by
  have h := within16_any m B 1 1 (fun _ => x) w (by decide) (fun i hi => by
    obtain rfl : i = 0 := by omega
    exact h)
  have e : okB m (fun _ => x) 1 = decide (0 ≤ x ∧ x ≤ m) := by unfold okB okB; rw [Bool.true_and]
  rw [e] at h
  exact h
theorem within2 (m x y : Int) (B : Nat) (w : World) (h : w.cell? ⟨B, 0, none⟩ = some (.int .i64 x) ∧ w.cell? ⟨B, 1, none⟩ = some (.int .i64 y)) : Calls Try.prog 27 #[.int .i64 m, .slice (some ⟨B, 0, none⟩) 2 2] w fun e w' => e = .returned (.bool (decide (0 ≤ x ∧ x ≤ m) && decide (0 ≤ y ∧ y ≤ m))) ∧ w' = w := by
  have h := within16_any m B 2 2 (fun i => if i = 0 then x else y) w (by decide) (fun i hi => by
    rcases (show i = 0 ∨ i = 1 by omega) with rfl | rfl
    · exact h.1
    · exact h.2)
  have e : okB m (fun i => if i = 0 then x else y) 2 = (decide (0 ≤ x ∧ x ≤ m) && decide (0 ≤ y ∧ y ≤ m)) := by unfold okB okB okB; rw [Bool.true_and]; rfl
  rw [e] at h
  exact h
theorem within3 (m x y z : Int) (B : Nat) (w : World) (h : w.cell? ⟨B, 0, none⟩ = some (.int .i64 x) ∧ w.cell? ⟨B, 1, none⟩ = some (.int .i64 y) ∧ w.cell? ⟨B, 2, none⟩ = some (.int .i64 z)) : Calls Try.prog 27 #[.int .i64 m, .slice (some ⟨B, 0, none⟩) 3 3] w fun e w' => e = .returned (.bool (decide (0 ≤ x ∧ x ≤ m) && decide (0 ≤ y ∧ y ≤ m) && decide (0 ≤ z ∧ z ≤ m))) ∧ w' = w := by
  have h := within16_any m B 3 3 (fun i => if i = 0 then x else if i = 1 then y else z) w (by decide) (fun i hi => by
    rcases (show i = 0 ∨ i = 1 ∨ i = 2 by omega) with rfl | rfl | rfl
    · exact h.1
    · exact h.2.1
    · exact h.2.2)
  have e : okB m (fun i => if i = 0 then x else if i = 1 then y else z) 3 = (decide (0 ≤ x ∧ x ≤ m) && decide (0 ≤ y ∧ y ≤ m) && decide (0 ≤ z ∧ z ≤ m)) := by unfold okB okB okB okB; rw [Bool.true_and]; rfl
  rw [e] at h
  exact h
def cdK (c : ByteArray) : Bool := decide (1 ≤ c.size ∧ c.size ≤ 32)
theorem iscard_any (c : ByteArray) (w : World) : Calls Try.prog 33 #[.string c] w fun e w' => e = .returned (.bool (cdK c)) ∧ w' = w := by
  rcases (show c.size = 0 ∨ (1 ≤ c.size ∧ 32 < c.size) ∨ (1 ≤ c.size ∧ c.size ≤ 32) by omega) with h | h | h
  · have HE := Lib.hid (show cdK c = false from decide_eq_false (by omega))
    have d1 : decide ((1 : Int) ≤ ((c.size : Nat) : Int)) = false := decide_eq_false (by omega)
    clear h
    go_enter Try.func33, Try.ntmps33
    go_wp2_with fail
    go_ret
    exact ⟨by rw [HE.out]; rfl, rfl⟩
  · have HE := Lib.hid (show cdK c = false from decide_eq_false (by omega))
    have d1 : decide ((1 : Int) ≤ ((c.size : Nat) : Int)) = true := decide_eq_true (by omega)
    have d2 : decide (((c.size : Nat) : Int) ≤ 32) = false := decide_eq_false (by omega)
    clear h
    go_enter Try.func33, Try.ntmps33
    go_wp2_with fail
    go_ret
    exact ⟨by rw [HE.out]; rfl, rfl⟩
  · have HE := Lib.hid (show cdK c = true from decide_eq_true h)
    have d1 : decide ((1 : Int) ≤ ((c.size : Nat) : Int)) = true := decide_eq_true (by omega)
    have d2 : decide (((c.size : Nat) : Int) ≤ 32) = true := decide_eq_true (by omega)
    clear h
    go_enter Try.func33, Try.ntmps33
    go_wp2_with fail
    go_ret
    exact ⟨by rw [HE.out]; rfl, rfl⟩
theorem rl_code (k t s o : Int) : rlK ⟨k, t, s, o⟩ = (decide (1 ≤ k) && decide (0 ≤ k ∧ k ≤ 1099511627776) && (decide (0 ≤ t ∧ t ≤ 999999999999) && decide (0 ≤ s ∧ s ≤ 999999999999) && decide (0 ≤ o ∧ o ≤ 999999999999))) := by
  unfold rlK
  rw [Bool.eq_iff_iff]
  simp only [Bool.and_eq_true, decide_eq_true_eq]
  omega
set_option maxHeartbeats 1600000 in
theorem cright_any (k t s o : Int) (w : World) : Calls Try.prog 18 #[ruW k t s o] w fun e w' => e = .returned (.bool (rlK ⟨k, t, s, o⟩)) ∧ Below w.heap.size w w' := by
  rw [rl_code]
  have hbl := alloc_below w (.cells #[.int .i64 k, .int .i64 t, .int .i64 s, .int .i64 o] 38)
  have HBL := Lib.hid hbl
  clear hbl
  have W1 := Lib.hid (fun B W h => within1 1099511627776 k B W h)
  have W3 := Lib.hid (fun B W h => within3 999999999999 t s o B W h)
  generalize (decide (0 ≤ t ∧ t ≤ 999999999999) && decide (0 ≤ s ∧ s ≤ 999999999999) && decide (0 ≤ o ∧ o ≤ 999999999999)) = b3 at *
  obtain ⟨b1, hb1⟩ : ∃ b, decide (0 ≤ k ∧ k ≤ 1099511627776) = b := ⟨_, rfl⟩
  rw [hb1] at W1
  rw [hb1]
  clear hb1
  obtain ⟨d, hd⟩ : ∃ d, decide (1 ≤ k) = d := ⟨_, rfl⟩
  rw [hd]
  cases d with
  | false =>
    go_enter Try.func18, Try.ntmps18
    go_wp2_with fail
    go_ret
    exact ⟨rfl, HBL.out⟩
  | true =>
    cases b1 with
    | false =>
      go_enter Try.func18, Try.ntmps18
      go_wp2_with fail
      refine (W1.out _ _ (cell_new (by simp) rfl)).mono ?_
      rintro e w1 ⟨rfl, rfl⟩
      go_wp2_with fail
      go_ret
      exact ⟨rfl, HBL.out.alloc (by simp) _⟩
    | true =>
      go_enter Try.func18, Try.ntmps18
      go_wp2_with fail
      refine (W1.out _ _ (cell_new (by simp) rfl)).mono ?_
      rintro e w1 ⟨rfl, rfl⟩
      go_wp2_with fail
      refine (W3.out _ _ ⟨cell_new (by simp) rfl, cell_new (by simp) rfl, cell_new (by simp) rfl⟩).mono ?_
      rintro e w2 ⟨rfl, rfl⟩
      go_wp2_with fail
      go_ret
      exact ⟨by cases b3 <;> rfl, (HBL.out.alloc (by simp) _).alloc (by simp; omega) _⟩
theorem my_code (r : Rl) (c : ByteArray) (a t : Int) : myK r c a t = (rlK r && cdK c && decide (0 ≤ a ∧ a ≤ 999999999999) && decide (0 ≤ t ∧ t ≤ 1099511627776)) := by
  unfold myK cdK
  cases rlK r
  · rfl
  rw [Bool.eq_iff_iff]
  simp only [Bool.and_eq_true, decide_eq_true_eq, true_and]
  exact ⟨fun ⟨h1, h2, h3⟩ => ⟨⟨h2, h1⟩, h3⟩, fun ⟨⟨h2, h1⟩, h3⟩ => ⟨h1, h2, h3⟩⟩
set_option maxHeartbeats 1600000 in
theorem istx_any (k rt s o : Int) (c : ByteArray) (a t : Int) (w : World) : Calls Try.prog 29 #[ruW k rt s o, .string c, .int .i64 a, .int .i64 t] w fun e w' => e = .returned (.bool (myK ⟨k, rt, s, o⟩ c a t)) ∧ Below w.heap.size w w' := by
  rw [my_code]
  have hbl := alloc_below w (.cells #[.int .i64 k, .int .i64 rt, .int .i64 s, .int .i64 o] 38)
  have HBL := Lib.hid hbl
  clear hbl
  have HR := Lib.hid (fun W => cright_any k rt s o W)
  have HC := Lib.hid (fun W => iscard_any c W)
  have W1 := Lib.hid (fun B W h => within1 999999999999 a B W h)
  have W2 := Lib.hid (fun B W h => within1 1099511627776 t B W h)
  generalize rlK ⟨k, rt, s, o⟩ = b1 at *
  generalize cdK c = b2 at *
  generalize decide (0 ≤ a ∧ a ≤ 999999999999) = b3 at *
  generalize decide (0 ≤ t ∧ t ≤ 1099511627776) = b4 at *
  cases b1 with
  | false =>
    go_enter Try.func29, Try.ntmps29
    go_wp2_with fail
    refine (HR.out _).mono ?_
    rintro e w1 ⟨rfl, hb1⟩
    have HB1 := Lib.hid (HBL.out.trans (hb1.mono HBL.out.size))
    clear hb1
    go_wp2_with fail
    go_ret
    exact ⟨rfl, HB1.out⟩
  | true =>
    cases b2 with
    | false =>
      go_enter Try.func29, Try.ntmps29
      go_wp2_with fail
      refine (HR.out _).mono ?_
      rintro e w1 ⟨rfl, hb1⟩
      have HB1 := Lib.hid (HBL.out.trans (hb1.mono HBL.out.size))
      clear hb1
      go_wp2_with fail
      refine (HC.out _).mono ?_
      rintro e w2 ⟨rfl, rfl⟩
      go_wp2_with fail
      go_ret
      exact ⟨rfl, HB1.out⟩
    | true =>
      cases b3 with
      | false =>
        go_enter Try.func29, Try.ntmps29
        go_wp2_with fail
        refine (HR.out _).mono ?_
        rintro e w1 ⟨rfl, hb1⟩
        have HB1 := Lib.hid (HBL.out.trans (hb1.mono HBL.out.size))
        clear hb1
        go_wp2_with fail
        refine (HC.out _).mono ?_
        rintro e w2 ⟨rfl, rfl⟩
        go_wp2_with fail
        refine (W1.out _ _ (cell_new (by simp) rfl)).mono ?_
        rintro e w3 ⟨rfl, rfl⟩
        go_wp2_with fail
        go_ret
        exact ⟨rfl, HB1.out.alloc HB1.out.size _⟩
      | true =>
        go_enter Try.func29, Try.ntmps29
        go_wp2_with fail
        refine (HR.out _).mono ?_
        rintro e w1 ⟨rfl, hb1⟩
        have HB1 := Lib.hid (HBL.out.trans (hb1.mono HBL.out.size))
        clear hb1
        go_wp2_with fail
        refine (HC.out _).mono ?_
        rintro e w2 ⟨rfl, rfl⟩
        go_wp2_with fail
        refine (W1.out _ _ (cell_new (by simp) rfl)).mono ?_
        rintro e w3 ⟨rfl, rfl⟩
        go_wp2_with fail
        refine (W2.out _ _ (cell_new (by simp) rfl)).mono ?_
        rintro e w4 ⟨rfl, rfl⟩
        go_wp2_with fail
        go_ret
        exact ⟨by cases b4 <;> rfl, (HB1.out.alloc HB1.out.size _).alloc (HB1.out.alloc HB1.out.size _).size _⟩
/-- may a book be restored with this use? -/
def usK (u : Us) : Bool := cdK u.c && decide (0 ≤ u.w ∧ u.w ≤ 9223372036854775807) && (decide (0 ≤ u.n ∧ u.n ≤ 1125899906842624) && decide (0 ≤ u.s ∧ u.s ≤ 1125899906842624))
theorem us_iff {u : Us} : usK u = true ↔ UsOk u := by
  unfold usK cdK
  simp only [Bool.and_eq_true, decide_eq_true_eq]
  exact ⟨fun ⟨⟨⟨h1, h2⟩, h3, h4⟩, ⟨h5, h6⟩, h7, h8⟩ => ⟨h1, h2, h3, h5, h6, h7, h8, h4⟩, fun ⟨h1, h2, h3, h5, h6, h7, h8, h4⟩ => ⟨⟨⟨h1, h2⟩, h3, h4⟩, ⟨h5, h6⟩, h7, h8⟩⟩
abbrev usV (u : Us) : Value := .agg #[.string u.c, .int .i64 u.w, .int .i64 u.n, .int .i64 u.s]
set_option maxHeartbeats 1600000 in
theorem isuse_any (c : ByteArray) (W n s : Int) (w : World) : Calls Try.prog 22 #[.agg #[.string c, .int .i64 W, .int .i64 n, .int .i64 s]] w fun e w' => e = .returned (.bool (usK ⟨c, W, n, s⟩)) ∧ Below w.heap.size w w' := by
  unfold usK
  have hbl := alloc_below w (.cells #[.string c, .int .i64 W, .int .i64 n, .int .i64 s] 31)
  have HBL := Lib.hid hbl
  clear hbl
  have HC := Lib.hid (fun W => iscard_any c W)
  have W1 := Lib.hid (fun B V h => within1 9223372036854775807 W B V h)
  have W2 := Lib.hid (fun B V h => within2 1125899906842624 n s B V h)
  simp only
  generalize cdK c = b1 at *
  generalize decide (0 ≤ W ∧ W ≤ 9223372036854775807) = b2 at *
  generalize (decide (0 ≤ n ∧ n ≤ 1125899906842624) && decide (0 ≤ s ∧ s ≤ 1125899906842624)) = b3 at *
  cases b1 with
  | false =>
    go_enter Try.func22, Try.ntmps22
    go_wp2_with fail
    refine (HC.out _).mono ?_
    rintro e w1 ⟨rfl, rfl⟩
    go_wp2_with fail
    go_ret
    exact ⟨rfl, HBL.out⟩
  | true =>
    cases b2 with
    | false =>
      go_enter Try.func22, Try.ntmps22
      go_wp2_with fail
      refine (HC.out _).mono ?_
      rintro e w1 ⟨rfl, rfl⟩
      go_wp2_with fail
      refine (W1.out _ _ (cell_new (by simp) rfl)).mono ?_
      rintro e w2 ⟨rfl, rfl⟩
      go_wp2_with fail
      go_ret
      exact ⟨rfl, HBL.out.alloc (by simp) _⟩
    | true =>
      go_enter Try.func22, Try.ntmps22
      go_wp2_with fail
      refine (HC.out _).mono ?_
      rintro e w1 ⟨rfl, rfl⟩
      go_wp2_with fail
      refine (W1.out _ _ (cell_new (by simp) rfl)).mono ?_
      rintro e w2 ⟨rfl, rfl⟩
      go_wp2_with fail
      refine (W2.out _ _ ⟨cell_new (by simp) rfl, cell_new (by simp) rfl⟩).mono ?_
      rintro e w3 ⟨rfl, rfl⟩
      go_wp2_with fail
      go_ret
      exact ⟨by cases b3 <;> rfl, (HBL.out.alloc (by simp) _).alloc (by simp; omega) _⟩
end Go.Proofs.Ytbcanfhjdllaoaa
