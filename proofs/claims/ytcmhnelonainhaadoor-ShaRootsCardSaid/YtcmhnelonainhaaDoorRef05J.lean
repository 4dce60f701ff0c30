/- The reference: Word and Start. -/
import Derived.Test.YtcmhnelonainhaaDoorRef05I
namespace Go.Proofs.YtcmhnelonainhaaDoor
open Go.RowKit
/-- the whole part of a cube root, of a square root -/
def wh3 (p : Nat) : Nat := ((List.range 8).filter fun c => decide (c * c * c ≤ p)).length - 1
def wh2 (p : Nat) : Nat := ((List.range 20).filter fun c => decide (c * c ≤ p)).length - 1
theorem cube_one {v V X : Nat} (h1 : v * v * v ≤ X) (h2 : X < (v + 1) * (v + 1) * (v + 1)) (h3 : V * V * V ≤ X) (h4 : X < (V + 1) * (V + 1) * (V + 1)) : v = V := by
  have key : ∀ a b : Nat, a < b → (a + 1) * (a + 1) * (a + 1) ≤ b * b * b := fun a b h => Nat.mul_le_mul (Nat.mul_le_mul h h) h
  rcases Nat.lt_trichotomy v V with h | h | h
  · have := key v V h; omega
  · exact h
  · have := key V v h; omega
theorem square_one {v V X : Nat} (h1 : v * v ≤ X) (h2 : X < (v + 1) * (v + 1)) (h3 : V * V ≤ X) (h4 : X < (V + 1) * (V + 1)) : v = V := by
  have key : ∀ a b : Nat, a < b → (a + 1) * (a + 1) ≤ b * b := fun a b h => Nat.mul_le_mul h h
  rcases Nat.lt_trichotomy v V with h | h | h
  · have := key v V h; omega
  · exact h
  · have := key V v h; omega
/-- the constants are what the roots have behind the point -/
theorem word_root {i : Nat} (hi : i < 64) : let V := wh3 (pr i) * 4294967296 + kc i; V * V * V ≤ pr i * 65536 ^ 6 ∧ pr i * 65536 ^ 6 < (V + 1) * (V + 1) * (V + 1) :=
  (show ∀ i, i < 64 → (wh3 (pr i) * 4294967296 + kc i) * (wh3 (pr i) * 4294967296 + kc i) * (wh3 (pr i) * 4294967296 + kc i) ≤ pr i * 65536 ^ 6 ∧ pr i * 65536 ^ 6 < (wh3 (pr i) * 4294967296 + kc i + 1) * (wh3 (pr i) * 4294967296 + kc i + 1) * (wh3 (pr i) * 4294967296 + kc i + 1) by decide +kernel) i hi
theorem start_root {i : Nat} (hi : i < 8) : let V := wh2 (pr i) * 4294967296 + at8 st0 i; V * V ≤ pr i * 65536 ^ 4 ∧ pr i * 65536 ^ 4 < (V + 1) * (V + 1) :=
  (show ∀ i, i < 8 → (wh2 (pr i) * 4294967296 + at8 st0 i) * (wh2 (pr i) * 4294967296 + at8 st0 i) ≤ pr i * 65536 ^ 4 ∧ pr i * 65536 ^ 4 < (wh2 (pr i) * 4294967296 + at8 st0 i + 1) * (wh2 (pr i) * 4294967296 + at8 st0 i + 1) by decide +kernel) i hi
theorem rword_in (i : Nat) (w : World) (hi : i < 64) : Calls Tryd.prog 17 #[.int .i64 (i : Nat)] w fun e w' => e = .returned (.int .i64 (kc i : Nat)) ∧ Below w.heap.size w w' := by
  have h63 : (i : Int) < 64 := by omega
  have HW := Lib.hid (word_root hi)
  have HP := Lib.hid (pr_le hi)
  go_enter Tryd.func17, Tryd.ntmps17
  go_wp2_with fail
  refine (primes_any 64 w (by decide)).mono ?_
  rintro e w1 ⟨v, rfl, h1, h2⟩
  obtain ⟨A, cap, rfl, _, _, har, _⟩ := OwnI.slice h1
  obtain ⟨g, rfl, _, ha⟩ := har (by decide)
  have HB1 := Lib.hid h2
  have hca := ha.cell (j := i) hi (Nat.zero_add i).symm
  clear h1 h2 har ha
  obtain ⟨p, hp⟩ : ∃ p, pr i = p := ⟨_, rfl⟩
  simp only [ints, hp] at hca
  rw [hp] at HP HW
  clear hp
  go_wp2_with fail
  refine (root3_any p w1 (by have := HP.out; omega)).mono ?_
  rintro e w2 ⟨v, rfl, h1, h2, h3⟩
  obtain rfl := cube_one h1 h2 HW.out.1 HW.out.2
  have HK := Lib.hid (show (wh3 p * 4294967296 + kc i) % 4294967296 = kc i by have := kc_lt i; omega)
  rw [HK.out]
  have HB2 := Lib.hid (HB1.out.trans (h3.mono HB1.out.size))
  clear h1 h2 h3
  go_wp2_with fail
  go_ret
  exact ⟨rfl, HB2.out⟩
theorem rstart_in (i : Nat) (w : World) (hi : i < 8) : Calls Tryd.prog 19 #[.int .i64 (i : Nat)] w fun e w' => e = .returned (.int .i64 (at8 st0 i : Nat)) ∧ Below w.heap.size w w' := by
  have h63 : (i : Int) < 8 := by omega
  have HW := Lib.hid (start_root hi)
  have HP := Lib.hid (pr_le (show i < 64 by omega))
  go_enter Tryd.func19, Tryd.ntmps19
  go_wp2_with fail
  refine (primes_any 8 w (by decide)).mono ?_
  rintro e w1 ⟨v, rfl, h1, h2⟩
  obtain ⟨A, cap, rfl, _, _, har, _⟩ := OwnI.slice h1
  obtain ⟨g, rfl, _, ha⟩ := har (by decide)
  have HB1 := Lib.hid h2
  have hca := ha.cell (j := i) hi (Nat.zero_add i).symm
  clear h1 h2 har ha
  obtain ⟨p, hp⟩ : ∃ p, pr i = p := ⟨_, rfl⟩
  simp only [ints, hp] at hca
  rw [hp] at HP HW
  clear hp
  go_wp2_with fail
  refine (root2_any p w1 (by have := HP.out; omega)).mono ?_
  rintro e w2 ⟨v, rfl, h1, h2, h3⟩
  obtain rfl := square_one h1 h2 HW.out.1 HW.out.2
  have HK := Lib.hid (show (wh2 p * 4294967296 + at8 st0 i) % 4294967296 = at8 st0 i by have := at8_lt st0_ok i; omega)
  rw [HK.out]
  have HB2 := Lib.hid (HB1.out.trans (h3.mono HB1.out.size))
  clear h1 h2 h3
  go_wp2_with fail
  go_ret
  exact ⟨rfl, HB2.out⟩
theorem rword_out (i : Int) (w : World) (hi : i < 0 ∨ 64 ≤ i) : Calls Tryd.prog 17 #[.int .i64 i] w fun e w' => e = .returned (.int .i64 0) ∧ w = w' := by
  by_cases h : i < 0
  · go_enter Tryd.func17, Tryd.ntmps17
    go_wp2_with fail
    go_ret
    exact ⟨rfl, rfl⟩
  · have h0 : 0 ≤ i := by omega
    have h64 : 64 ≤ i := by omega
    clear hi h
    go_enter Tryd.func17, Tryd.ntmps17
    go_wp2_with fail
    go_ret
    exact ⟨rfl, rfl⟩
theorem rstart_out (i : Int) (w : World) (hi : i < 0 ∨ 8 ≤ i) : Calls Tryd.prog 19 #[.int .i64 i] w fun e w' => e = .returned (.int .i64 0) ∧ w = w' := by
  by_cases h : i < 0
  · go_enter Tryd.func19, Tryd.ntmps19
    go_wp2_with fail
    go_ret
    exact ⟨rfl, rfl⟩
  · have h0 : 0 ≤ i := by omega
    have h64 : 8 ≤ i := by omega
    clear hi h
    go_enter Tryd.func19, Tryd.ntmps19
    go_wp2_with fail
    go_ret
    exact ⟨rfl, rfl⟩
end Go.Proofs.YtcmhnelonainhaaDoor
