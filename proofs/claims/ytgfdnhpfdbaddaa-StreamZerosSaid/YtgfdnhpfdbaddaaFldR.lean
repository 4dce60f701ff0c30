/- Contracts of the reference's field. -/
import Derived.Test.YtgfdnhpfdbaddaaFldA
namespace Go.Proofs.Ytgfdnhpfdbaddaa
open Go.RowKit

/-- the product of polynomials, not yet divided -/
def clm (a b : Nat) : Nat → Nat
  | 0 => 0
  | k + 1 => if b / 2 ^ k % 2 = 1 then clm a b k ^^^ (a <<< k) else clm a b k
/-- divided from the top -/
def rdk : Nat → Nat → Nat
  | 0, p => p
  | k + 1, p => rdk k (if p / 2 ^ (k + 8) % 2 = 1 then p ^^^ (283 <<< k) else p)
theorem bit_xor (a b k : Nat) : (a ^^^ b) / 2 ^ k % 2 = (a / 2 ^ k + b / 2 ^ k) % 2 := by
  rw [← Nat.shiftRight_eq_div_pow, Nat.shiftRight_xor_distrib, gx_par, Nat.shiftRight_eq_div_pow, Nat.shiftRight_eq_div_pow]
theorem clm_lin1 (a b c : Nat) : ∀ k, clm (a ^^^ b) c k = clm a c k ^^^ clm b c k
  | 0 => (Nat.xor_self 0).symm
  | k + 1 => by
    simp only [clm]
    rw [clm_lin1 a b c k, Nat.shiftLeft_xor_distrib]
    split
    · exact x4 _ _ _ _
    · rfl
theorem lin_if (p q a : Nat) (x y z : Nat) (h : z % 2 = (x + y) % 2) : (if z % 2 = 1 then (p ^^^ q) ^^^ a else p ^^^ q) = (if x % 2 = 1 then p ^^^ a else p) ^^^ (if y % 2 = 1 then q ^^^ a else q) := by
  rcases Nat.mod_two_eq_zero_or_one x with h1 | h1 <;> rcases Nat.mod_two_eq_zero_or_one y with h2 | h2
  · rw [if_neg (by omega), if_neg (by omega), if_neg (by omega)]
  · rw [if_pos (by omega), if_neg (by omega), if_pos (by omega), Nat.xor_assoc]
  · rw [if_pos (by omega), if_pos (by omega), if_neg (by omega), Nat.xor_assoc, Nat.xor_assoc, Nat.xor_comm q]
  · rw [if_neg (by omega), if_pos (by omega), if_pos (by omega), x4, Nat.xor_self, Nat.xor_zero]
theorem clm_lin2 (a b c : Nat) : ∀ k, clm a (b ^^^ c) k = clm a b k ^^^ clm a c k
  | 0 => (Nat.xor_self 0).symm
  | k + 1 => by
    simp only [clm]
    rw [clm_lin2 a b c k]
    exact lin_if _ _ _ _ _ _ (bit_xor b c k)
theorem rdk_lin : ∀ (k p q : Nat), rdk k (p ^^^ q) = rdk k p ^^^ rdk k q
  | 0, _, _ => rfl
  | k + 1, p, q => by
    simp only [rdk]
    rw [← rdk_lin k, lin_if _ _ _ _ _ _ (bit_xor p q (k + 8))]
theorem clm_zero1 (b : Nat) : ∀ k, clm 0 b k = 0
  | 0 => rfl
  | k + 1 => by
    simp only [clm]
    rw [clm_zero1 b k, Nat.zero_shiftLeft]
    split <;> rfl
theorem clm_zero2 (a : Nat) : ∀ k, clm a 0 k = 0
  | 0 => rfl
  | k + 1 => by
    simp only [clm]
    rw [clm_zero2 a k, Nat.zero_div, if_neg (by decide)]
theorem clm_gm {a b : Nat} (ha : a < 256) (hb : b < 256) : rdk 7 (clm a b 8) = gm a b := by
  have z : rdk 7 0 = 0 := by decide
  exact bilin (fun a b => rdk 7 (clm a b 8)) gm (fun a => by rw [clm_zero2, gm_zero2, z]) (fun b => by rw [clm_zero1, gm_zero1, z])
    (fun a b c _ _ _ => by rw [clm_lin1, rdk_lin]) (fun a b c ha hb _ => gm_xor1 a b c ha hb) (fun a b c _ _ _ => by rw [clm_lin2, rdk_lin]) (fun a b c _ _ _ => gm_xor2 a b c)
    (by decide +kernel) a ha b hb
theorem shl_lt {a k : Nat} (ha : a < 256) (hk : k < 8) : a <<< k < 32768 := by
  rw [Nat.shiftLeft_eq]
  calc a * 2 ^ k ≤ a * 128 := Nat.mul_le_mul_left a (Nat.pow_le_pow_right (by decide) (show k ≤ 7 by omega) : 2 ^ k ≤ 2 ^ 7)
    _ < 32768 := by omega
theorem clm_lt {a : Nat} (b : Nat) (ha : a < 256) : ∀ k, k ≤ 8 → clm a b k < 32768
  | 0, _ => (by decide : 0 < 32768)
  | k + 1, hk => by
    simp only [clm]
    have ih := clm_lt b ha k (by omega)
    split
    · exact Nat.xor_lt_two_pow (n := 15) ih (shl_lt ha (by omega))
    · exact ih
theorem bit_test {x k : Nat} {c : Bool} (h : decide (x / 2 ^ k % 2 = 1) = c) : ((((x : Nat) : Int) / 2 ^ k).tmod 2 == 1) = c := by
  have e : ((x : Nat) : Int) / 2 ^ k = ((x / 2 ^ k : Nat) : Int) := by simp
  rw [e, ← h, Int.tmod_eq_emod_of_nonneg (Int.natCast_nonneg _)]
  generalize x / 2 ^ k = y
  by_cases hy : y % 2 = 1
  · rw [decide_eq_true hy, beq_iff_eq]; omega
  · rw [decide_eq_false hy, beq_eq_false_iff_ne]; omega
theorem shl_wrap {a k : Nat} (h : a <<< k < 32768) : wrap64 ((a : Int) * 2 ^ k) = ((a <<< k : Nat) : Int) := by
  have e : (a : Int) * 2 ^ k = ((a <<< k : Nat) : Int) := by rw [Nat.shiftLeft_eq]; simp
  rw [e]
  unfold wrap64
  generalize a <<< k = y at *
  omega

set_option maxHeartbeats 800000 in
theorem rmul_any (a b : Nat) (w : World) (ha : a < 256) (hb : b < 256) :
    Calls Try.prog 39 #[.int .u8 a, .int .u8 b] w fun e w' => e = .returned (.int .u8 (gm a b : Nat)) ∧ w = w' := by
  go_enter Try.func39, Try.ntmps39
  go_wp2_with fail
  go_loop [5, 6] (fun p i => ∃ (k p' : Nat), k ≤ 8 ∧ p' = clm a b k ∧ p = .int .i64 p' ∧ i = .int .i64 k) (fun _ i => 8 - (intOf i).toNat)
  case atStart => exact ⟨0, 0, by decide, rfl, rfl, rfl⟩
  case round =>
    obtain ⟨k, p', hk, hp, rfl, rfl⟩ := hrel
    have hp' := clm_lt b ha k hk
    rw [← hp] at hp'
    by_cases h0 : k < 8
    · have hs := shl_lt ha h0
      by_cases hbit : b / 2 ^ k % 2 = 1
      · have HP := Lib.hid (show p' ^^^ (a <<< k) = clm a b (k + 1) by rw [hp]; simp only [clm, if_pos hbit])
        have ht := bit_test (decide_eq_true hbit)
        have hx : bits BinOp.xor .i64 (p' : Int) (wrap64 ((a : Int) * 2 ^ k)) = ((p' ^^^ (a <<< k) : Nat) : Int) := by
          rw [show wrap64 ((a : Int) * 2 ^ k) = ((a <<< k : Nat) : Int) from shl_wrap hs]
          exact i64_xor_nat _ _ (by omega) (by omega)
        clear hp
        go_wp2_with fail
        go_round
        case rel => exact ⟨k + 1, _, by omega, HP.out, by rw [← hx], by go_num⟩
        case measure => simp [intOf]; omega
      · have HP := Lib.hid (show p' = clm a b (k + 1) by rw [hp]; simp only [clm, if_neg hbit])
        have ht := bit_test (decide_eq_false hbit)
        clear hp
        go_wp2_with fail
        go_round
        case rel => exact ⟨k + 1, _, by omega, HP.out, rfl, by go_num⟩
        case measure => simp [intOf]; omega
    · obtain rfl : k = 8 := by omega
      have HG := Lib.hid (show rdk 7 p' = gm a b by rw [hp]; exact clm_gm ha hb)
      have hgl := gm_lt b ha
      clear hp
      go_wp2_with fail
      go_loop [5, 7] (fun p i => ∃ (k p' : Nat), k ≤ 7 ∧ p' < 32768 ∧ rdk k p' = gm a b ∧ p = .int .i64 p' ∧ i = .int .i64 ((k : Int) + 7)) (fun _ i => (intOf i).toNat)
      case atStart => exact ⟨7, p', by decide, hp', HG.out, rfl, rfl⟩
      case round =>
        obtain ⟨k, p', hk, hp', hg, rfl, rfl⟩ := hrel
        have HG := Lib.hid hg
        clear hg
        by_cases h0 : 0 < k
        · obtain ⟨j, rfl⟩ : ∃ j, k = j + 1 := ⟨k - 1, by omega⟩
          have hs : 283 <<< j < 32768 := by
            have : ∀ j, j < 7 → 283 <<< j < 32768 := by decide
            exact this j (by omega)
          by_cases hbit : p' / 2 ^ (j + 8) % 2 = 1
          · have HP := Lib.hid (show rdk j (p' ^^^ (283 <<< j)) = gm a b by rw [← HG.out]; simp only [rdk, if_pos hbit])
            have ht := bit_test (decide_eq_true hbit)
            have hx : bits BinOp.xor .i64 (p' : Int) (wrap64 (283 * 2 ^ j)) = ((p' ^^^ (283 <<< j) : Nat) : Int) := by
              rw [show wrap64 (283 * 2 ^ j) = ((283 <<< j : Nat) : Int) from shl_wrap hs]
              exact i64_xor_nat _ _ (by omega) (by omega)
            have hpl : p' ^^^ (283 <<< j) < 32768 := Nat.xor_lt_two_pow (n := 15) hp' hs
            go_wp2_with fail
            go_round
            case rel => exact ⟨j, _, by omega, hpl, HP.out, by rw [← hx], by go_num⟩
            case measure => simp [intOf]; omega
          · have HP := Lib.hid (show rdk j p' = gm a b by rw [← HG.out]; simp only [rdk, if_neg hbit])
            have ht := bit_test (decide_eq_false hbit)
            go_wp2_with fail
            go_round
            case rel => exact ⟨j, _, by omega, hp', HP.out, rfl, by go_num⟩
            case measure => simp [intOf]; omega
        · obtain rfl : k = 0 := by omega
          have HG2 := Lib.hid (show p' = gm a b from HG.out)
          have hpl : p' < 256 := by rw [HG2.out]; exact hgl
          clear h0 HG hgl
          go_wp2_with fail
          go_ret
          exact ⟨ret_u8 HG2.out, rfl⟩
end Go.Proofs.Ytgfdnhpfdbaddaa
