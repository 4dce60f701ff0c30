/- Contracts of the reference's field: powers, inverses, byte maps. -/
import Derived.Test.YtgfdnhpfdbaddaaFldR
namespace Go.Proofs.Ytgfdnhpfdbaddaa
open Go.RowKit

theorem rpow_any (a : Nat) (n : Int) (w : World) (ha : a < 256) (hn : n ≤ 9223372036854775807) :
    Calls Try.prog 40 #[.int .u8 a, .int .i64 n] w fun e w' => e = .returned (.int .u8 (gpow a n.toNat : Nat)) ∧ w = w' := by
  by_cases h0 : n ≤ 0
  · have HE := Lib.hid (show 1 = gpow a n.toNat by rw [show n.toNat = 0 by omega]; rfl)
    go_enter Try.func40, Try.ntmps40
    go_wp2_with fail
    go_ret
    exact ⟨ret_u8 HE.out, rfl⟩
  · obtain ⟨m, rfl⟩ := Int.eq_ofNat_of_zero_le (show 0 ≤ n by omega)
    rw [Int.toNat_natCast]
    by_cases ha0 : a = 0
    · subst ha0
      have HE := Lib.hid (show 0 = gpow 0 m from (gpow_zero (by omega)).symm)
      go_enter Try.func40, Try.ntmps40
      go_wp2_with fail
      go_ret
      exact ⟨ret_u8 HE.out, rfl⟩
    · have HE := Lib.hid (gpow_mod ha ha0 m)
      obtain ⟨r, hr⟩ : ∃ r, m % 255 = r := ⟨_, rfl⟩
      have HR := Lib.hid hr
      have hm : ((m : Int) % 255) = (r : Int) := by omega
      have hrl : r < 255 := by omega
      clear hr
      have hz : ((a : Int) == 0) = false := by rw [beq_eq_false_iff_ne]; omega
      go_enter Try.func40, Try.ntmps40
      go_wp2_with fail
      go_loop [5, 6] (fun p i => ∃ (k p' : Nat), k ≤ r ∧ p' = gpow a k ∧ p = .int .u8 p' ∧ i = .int .i64 k) (fun _ i => r - (intOf i).toNat)
      case atStart => exact ⟨0, 1, Nat.zero_le _, rfl, rfl, rfl⟩
      case round =>
        obtain ⟨k, p', hk, hp, rfl, rfl⟩ := hrel
        have hp' := gpow_lt ha k
        rw [← hp] at hp'
        by_cases hlt : k < r
        · have HP := Lib.hid (show gm p' a = gpow a (k + 1) by rw [hp]; rfl)
          clear hp
          go_wp2_with (go_at_call 39; refine (rmul_any _ _ _ (by assumption) (by assumption)).mono ?_; rintro e w' ⟨rfl, rfl⟩)
          go_round
          case rel => exact ⟨k + 1, _, by omega, HP.out, rfl, by go_num⟩
          case measure => simp [intOf]; omega
        · obtain rfl : k = r := by omega
          have HP := Lib.hid (show p' = gpow a m by rw [hp, ← HE.out, HR.out])
          clear hp
          go_wp2_with fail
          go_ret
          exact ⟨ret_u8 HP.out, rfl⟩

/-- turned left, bit by bit -/
def rlf (a n : Nat) : Nat → Nat
  | 0 => 0
  | k + 1 => if a / 2 ^ k % 2 = 1 then rlf a n k ||| (1 <<< ((k + n) % 8)) else rlf a n k
theorem rlf_lt (a n : Nat) : ∀ k, rlf a n k < 256
  | 0 => (by decide : 0 < 256)
  | k + 1 => by
    simp only [rlf]
    split
    · refine Nat.or_lt_two_pow (n := 8) (rlf_lt a n k) ?_
      have : ∀ x, x < 8 → 1 <<< x < 2 ^ 8 := by decide
      exact this _ (Nat.mod_lt _ (by decide))
    · exact rlf_lt a n k
theorem rlf_rotl {a n : Nat} (ha : a < 256) (hn : n < 8) : rlf a n 8 = rotl a n := by
  have : ∀ n, n < 8 → ∀ a, a < 256 → rlf a n 8 = rotl a n := by decide +kernel
  exact this n hn a ha

theorem rleft_any (a n : Nat) (t : Int) (w : World) (ha : a < 256) (hn : n < 8) (ht : t = (n : Int)) :
    Calls Try.prog 38 #[.int .u8 a, .int .i64 t] w fun e w' => e = .returned (.int .u8 (rotl a n : Nat)) ∧ w = w' := by
  subst ht
  go_enter Try.func38, Try.ntmps38
  go_wp2_with fail
  go_loop [5, 6] (fun p i => ∃ (k p' : Nat), k ≤ 8 ∧ p' = rlf a n k ∧ p = .int .i64 p' ∧ i = .int .i64 k) (fun _ i => 8 - (intOf i).toNat)
  case atStart => exact ⟨0, 0, by decide, rfl, rfl, rfl⟩
  case round =>
    obtain ⟨k, p', hk, hp, rfl, rfl⟩ := hrel
    have hp' := rlf_lt a n k
    rw [← hp] at hp'
    by_cases h0 : k < 8
    · by_cases hbit : a / 2 ^ k % 2 = 1
      · have HP := Lib.hid (show p' ||| (1 <<< ((k + n) % 8)) = rlf a n (k + 1) by rw [hp]; simp only [rlf, if_pos hbit])
        have ht := bit_test (decide_eq_true hbit)
        have hs : 1 <<< ((k + n) % 8) < 32768 := by
          have : ∀ x, x < 8 → 1 <<< x < 32768 := by decide
          exact this _ (Nat.mod_lt _ (by decide))
        have hx : bits BinOp.or .i64 (p' : Int) (wrap64 (2 ^ ((k + n) % 8))) = ((p' ||| (1 <<< ((k + n) % 8)) : Nat) : Int) := by
          have e := shl_wrap hs
          rw [Int.natCast_one, Int.one_mul] at e
          rw [e]
          exact i64_or_nat _ _ (by omega) (by omega)
        clear hp
        go_wp2_with fail
        go_round
        case rel => exact ⟨k + 1, _, by omega, HP.out, by rw [← hx], by go_num⟩
        case measure => simp [intOf]; omega
      · have HP := Lib.hid (show p' = rlf a n (k + 1) by rw [hp]; simp only [rlf, if_neg hbit])
        have ht := bit_test (decide_eq_false hbit)
        clear hp
        go_wp2_with fail
        go_round
        case rel => exact ⟨k + 1, _, by omega, HP.out, rfl, by go_num⟩
        case measure => simp [intOf]; omega
    · obtain rfl : k = 8 := by omega
      have HG := Lib.hid (show p' = rotl a n by rw [hp]; exact rlf_rotl ha hn)
      clear hp
      go_wp2_with fail
      go_ret
      exact ⟨ret_u8 HG.out, rfl⟩
end Go.Proofs.Ytgfdnhpfdbaddaa
