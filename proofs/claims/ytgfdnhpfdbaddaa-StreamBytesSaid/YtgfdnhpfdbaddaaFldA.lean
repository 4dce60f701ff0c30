/- Contracts of package field. -/
import Derived.Test.YtgfdnhpfdbaddaaRows
import Derived.Test.YtgfdnhpfdbaddaaGf
import Derived.Test.YtgfdnhpfdbaddaaBits
import Derived.WalkKit
import Derived.ProofKit
import Derived.Lib.Hide
import Derived.WalkMore
namespace Go.Proofs.Ytgfdnhpfdbaddaa
open Go.RowKit

theorem and128 : ∀ a, a < 256 → (a &&& 128) = if a < 128 then 0 else 128 := by decide +kernel
theorem and7 : ∀ a, a < 8 → (a &&& 7) = a := by decide +kernel
theorem ret_u8 {a b : Nat} (h : a = b) : Ending.returned (.int .u8 (a : Int)) = .returned (.int .u8 (b : Int)) := by rw [h]
theorem ret_u8' {a : Int} {b : Nat} (h : a = (b : Int)) : Ending.returned (.int .u8 a) = .returned (.int .u8 (b : Int)) := by rw [h]

theorem gmk_done : ∀ (k a p : Nat), gmk k a 0 p = p
  | 0, _, _ => rfl
  | k + 1, a, p => by
    simp only [gmk]
    rw [if_neg (by decide)]
    exact gmk_done k _ _

theorem double_any (a : Nat) (w : World) (ha : a < 256) :
    Calls Try.prog 53 #[.int .u8 a] w fun e w' => e = .returned (.int .u8 (dbl a : Nat)) ∧ w = w' := by
  have hand : bits BinOp.and .u8 (a : Int) 128 = (((a &&& 128) : Nat) : Int) := u8_and_nat a 128 ha (by decide)
  rw [and128 a ha] at hand
  by_cases h : a < 128
  · rw [if_pos h] at hand
    have HD := Lib.hid (show dbl a = 2 * a from if_pos h)
    go_enter Try.func53, Try.ntmps53
    go_wp2
    go_ret
    exact ⟨ret_u8' (by rw [HD.out]; omega), rfl⟩
  · rw [if_neg h] at hand
    have HD := Lib.hid (show dbl a = (2 * a - 256) ^^^ 27 from if_neg h)
    have HX := Lib.hid (show bits BinOp.xor .u8 ((a : Int) * 2 % 256) 27 = ((dbl a : Nat) : Int) by
      rw [HD.out, show (a : Int) * 2 % 256 = ((2 * a - 256 : Nat) : Int) by omega]
      exact u8_xor_nat _ 27 (by omega) (by decide))
    go_enter Try.func53, Try.ntmps53
    go_wp2
    go_ret
    exact ⟨ret_u8' HX.out, rfl⟩

theorem mul_any (a b : Nat) (w : World) (ha : a < 256) (hb : b < 256) :
    Calls Try.prog 45 #[.int .u8 a, .int .u8 b] w fun e w' => e = .returned (.int .u8 (gm a b : Nat)) ∧ w = w' := by
  go_enter Try.func45, Try.ntmps45
  go_wp2_with fail
  go_loop [0, 1, 5] (fun x y p => ∃ k a' b' p' : Nat, k ≤ 8 ∧ b' < 2 ^ k ∧ a' < 256 ∧ p' < 256 ∧ gmk k a' b' p' = gm a b ∧ x = .int .u8 a' ∧ y = .int .u8 b' ∧ p = .int .u8 p') (fun _ y _ => (intOf y).toNat)
  case atStart => exact ⟨8, a, b, 0, Nat.le_refl _, hb, ha, by decide, rfl, rfl, rfl, rfl⟩
  case round =>
    obtain ⟨k, a', b', p', hk, hb', ha', hp', hg, rfl, rfl, rfl⟩ := hrel
    have HG := Lib.hid hg
    clear hg
    have hand : bits BinOp.and .u8 (b' : Int) 1 = (((b' &&& 1) : Nat) : Int) := u8_and_nat b' 1 (Nat.lt_of_lt_of_le hb' (Nat.le_trans (Nat.pow_le_pow_right (by decide) hk) (by decide))) (by decide)
    rw [Nat.and_one_is_mod] at hand
    by_cases h0 : 0 < b'
    · have hxl := xor8 hp' ha'
      have hx : bits BinOp.xor .u8 (p' : Int) (a' : Int) = ((p' ^^^ a' : Nat) : Int) := u8_xor_nat p' a' hp' ha'
      obtain ⟨k, rfl⟩ : ∃ j, k = j + 1 := by
        cases k with
        | zero => exact absurd hb' (by simp; omega)
        | succ j => exact ⟨j, rfl⟩
      have hb2 : b' / 2 < 2 ^ k := by rw [Nat.pow_succ] at hb'; omega
      have HB := Lib.hid hb2
      clear hb2 hb'
      by_cases hodd : b' % 2 = 1
      · have HG2 := Lib.hid (show gmk k (dbl a') (b' / 2) (p' ^^^ a') = gm a b by rw [← HG.out]; simp only [gmk, if_pos hodd])
        go_wp2_with (go_at_call 53; refine (double_any _ _ (by assumption)).mono ?_; rintro e w' ⟨rfl, rfl⟩)
        go_round
        case rel => exact ⟨k, dbl a', b' / 2, p' ^^^ a', by omega, HB.out, dbl_lt ha', hxl, HG2.out, rfl, by go_num, rfl⟩
        case measure => simp [intOf]; omega
      · have HG2 := Lib.hid (show gmk k (dbl a') (b' / 2) p' = gm a b by rw [← HG.out]; simp only [gmk, if_neg hodd])
        have hev : ((b' : Int) % 2 == 1) = false := by rw [beq_eq_false_iff_ne]; omega
        go_wp2_with (go_at_call 53; refine (double_any _ _ (by assumption)).mono ?_; rintro e w' ⟨rfl, rfl⟩)
        go_round
        case rel => exact ⟨k, dbl a', b' / 2, p', by omega, HB.out, dbl_lt ha', hp', HG2.out, rfl, by go_num, rfl⟩
        case measure => simp [intOf]; omega
    · obtain rfl : b' = 0 := by omega
      rw [gmk_done] at HG
      clear hand hb' h0
      go_wp2_with fail
      go_ret
      exact ⟨ret_u8 HG.out, rfl⟩
theorem rot_any (a n : Nat) (w : World) (ha : a < 256) (hn : n < 8) :
    Calls Try.prog 61 #[.int .u8 a, .int .i64 n] w fun e w' => e = .returned (.int .u8 (rotl a n : Nat)) ∧ w = w' := by
  have hand : bits BinOp.and .u64 (n : Int) 7 = ((n &&& 7 : Nat) : Int) := u64_and_nat n 7 (by omega) (by decide)
  rw [and7 n hn] at hand
  have HX := Lib.hid (show bits BinOp.or .u8 ((a : Int) * 2 ^ n % 256) ((a : Int) / 2 ^ (8 - n)) = ((rotl a n : Nat) : Int) by
    have h1 : (a : Int) * 2 ^ n % 256 = ((a * 2 ^ n % 256 : Nat) : Int) := by simp
    have h2 : (a : Int) / 2 ^ (8 - n) = ((a / 2 ^ (8 - n) : Nat) : Int) := by simp
    rw [h1, h2]
    exact u8_or_nat _ _ (Nat.mod_lt _ (by decide)) (Nat.lt_of_le_of_lt (Nat.div_le_self _ _) ha))
  go_enter Try.func61, Try.ntmps61
  go_wp2
  go_ret
  exact ⟨ret_u8' HX.out, rfl⟩

theorem left_any (a n : Nat) (t : Int) (w : World) (ha : a < 256) (hn : n < 8) (ht : t = (n : Int)) :
    Calls Try.prog 52 #[.int .u8 a, .int .i64 t] w fun e w' => e = .returned (.int .u8 (rotl a n : Nat)) ∧ w = w' := by
  subst ht
  go_enter Try.func52, Try.ntmps52
  go_wp2_with (go_at_call 61; refine (rot_any _ _ _ (by assumption) (by assumption)).mono ?_; rintro e w' ⟨rfl, rfl⟩)
  go_ret
  exact ⟨rfl, rfl⟩

theorem pow_any (a : Nat) (n : Int) (w : World) (ha : a < 256) (hn : n ≤ 9223372036854775807) :
    Calls Try.prog 56 #[.int .u8 a, .int .i64 n] w fun e w' => e = .returned (.int .u8 (gpow a n.toNat : Nat)) ∧ w = w' := by
  go_enter Try.func56, Try.ntmps56
  go_wp2_with fail
  go_step3
  go_wp2_with fail
  go_step3
  go_wp2_with fail
  go_loop [1, 5, 6] (fun x p s => ∃ (m : Int) (p' s' : Nat), m ≤ 9223372036854775807 ∧ p' < 256 ∧ s' < 256 ∧ gm p' (gpow s' m.toNat) = gpow a n.toNat ∧ x = .int .i64 m ∧ p = .int .u8 p' ∧ s = .int .u8 s') (fun x _ _ => (intOf x).toNat)
  case atStart => exact ⟨n, 1, a, hn, by decide, ha, one_gm (gpow_lt ha _), rfl, rfl, rfl⟩
  case round =>
    obtain ⟨m, p', s', hm, hp', hs', hg, rfl, rfl, rfl⟩ := hrel
    have HG := Lib.hid hg
    clear hg
    by_cases h0 : 0 < m
    · obtain ⟨k, rfl⟩ := Int.eq_ofNat_of_zero_le (show 0 ≤ m by omega)
      have hk : k ≤ 9223372036854775807 := by omega
      have hand : bits BinOp.and .i64 (k : Int) 1 = (((k &&& 1) : Nat) : Int) := i64_and_nat k 1 (by omega) (by decide)
      rw [Nat.and_one_is_mod] at hand
      have HT := Lib.hid (show ((k : Int) / 2).toNat = k / 2 by omega)
      have hsl := gm_lt s' hs'
      by_cases hodd : k % 2 = 1
      · have hpl := gm_lt s' hp'
        have HG2 := Lib.hid (show gm (gm p' s') (gpow (gm s' s') ((k : Int) / 2).toNat) = gpow a n.toNat by
          rw [← HG.out, HT.out, gpow_sq hs', gm_assoc hp' hs' (gpow_lt hs' _)]
          rw [show gm s' (gpow s' (2 * (k / 2))) = gpow s' (1 + 2 * (k / 2)) by rw [gpow_add hs']; congr 1; exact (one_gm hs').symm]
          congr 2
          omega)
        have hev : ((k : Int) % 2 == 0) = false := by rw [beq_eq_false_iff_ne]; omega
        go_wp2_with (go_at_call 45; refine (mul_any _ _ _ (by assumption) (by assumption)).mono ?_; rintro e w' ⟨rfl, rfl⟩)
        go_round
        case rel => exact ⟨(k : Int) / 2, _, _, by omega, hpl, hsl, HG2.out, rfl, rfl, rfl⟩
        case measure => simp [intOf]; omega
      · have HG2 := Lib.hid (show gm p' (gpow (gm s' s') ((k : Int) / 2).toNat) = gpow a n.toNat by
          rw [← HG.out, HT.out, gpow_sq hs']
          congr 2
          omega)
        have hev : ((k : Int) % 2 == 0) = true := by rw [beq_iff_eq]; omega
        go_wp2_with (go_at_call 45; refine (mul_any _ _ _ (by assumption) (by assumption)).mono ?_; rintro e w' ⟨rfl, rfl⟩)
        go_round
        case rel => exact ⟨(k : Int) / 2, _, _, by omega, hp', hsl, HG2.out, rfl, rfl, rfl⟩
        case measure => simp [intOf]; omega
    · rw [show m.toNat = 0 by omega] at HG
      have HP := Lib.hid (show p' = gpow a n.toNat by rw [← HG.out]; exact (gm_one hp').symm)
      clear HG
      go_wp2_with fail
      go_ret
      exact ⟨ret_u8 HP.out, rfl⟩

theorem inv_any (a : Nat) (w : World) (ha : a < 256) :
    Calls Try.prog 51 #[.int .u8 a] w fun e w' => e = .returned (.int .u8 (ginv a : Nat)) ∧ w = w' := by
  go_enter Try.func51, Try.ntmps51
  go_wp2_with (go_at_call 56; refine (pow_any _ _ _ (by assumption) (by decide)).mono ?_; rintro e w' ⟨rfl, rfl⟩)
  go_ret
  exact ⟨rfl, rfl⟩

theorem x8 {a b : Nat} (ha : a < 256) (hb : b < 256) : bits BinOp.xor .u8 (a : Int) (b : Int) = ((a ^^^ b : Nat) : Int) := u8_xor_nat a b ha hb
theorem rotl_lt {a n : Nat} (ha : a < 256) (hn : n < 8) : rotl a n < 256 := by
  have : ∀ n, n < 8 → ∀ a, a < 256 → rotl a n < 256 := by decide +kernel
  exact this n hn a ha

set_option maxHeartbeats 800000 in
theorem box_any (a : Nat) (w : World) (ha : a < 256) :
    Calls Try.prog 44 #[.int .u8 a] w fun e w' => e = .returned (.int .u8 (box a : Nat)) ∧ w = w' := by
  have HB := Lib.hid (show gbox (ginv a) = box a from rfl)
  have hi := ginv_lt ha
  have HI := Lib.hid (inv_any a w ha)
  generalize ginv a = i at *
  have l1 := rotl_lt (n := 1) hi (by decide)
  have l2 := rotl_lt (n := 2) hi (by decide)
  have l3 := rotl_lt (n := 3) hi (by decide)
  have l4 := rotl_lt (n := 4) hi (by decide)
  have e1 := x8 hi l1
  have k1 := xor8 hi l1
  have e2 := x8 k1 l2
  have k2 := xor8 k1 l2
  have e3 := x8 k2 l3
  have k3 := xor8 k2 l3
  have e4 := x8 k3 l4
  have k4 := xor8 k3 l4
  have e5 : bits BinOp.xor .u8 ((i ^^^ rotl i 1 ^^^ rotl i 2 ^^^ rotl i 3 ^^^ rotl i 4 : Nat) : Int) 99 = ((i ^^^ rotl i 1 ^^^ rotl i 2 ^^^ rotl i 3 ^^^ rotl i 4 ^^^ 99 : Nat) : Int) := x8 k4 (show 99 < 256 by decide)
  have HB2 := Lib.hid (show (i ^^^ rotl i 1 ^^^ rotl i 2 ^^^ rotl i 3 ^^^ rotl i 4 ^^^ 99) = box a from HB.out)
  clear HB
  go_enter Try.func44, Try.ntmps44
  go_wp2_with (first | (go_at_call 51; refine HI.out.mono ?_; rintro e w' ⟨rfl, rfl⟩) | (go_at_call 52; (first | (with_reducible refine (left_any i 1 1 w hi (by decide) (by decide)).mono ?_) | (with_reducible refine (left_any i 2 2 w hi (by decide) (by decide)).mono ?_) | (with_reducible refine (left_any i 3 3 w hi (by decide) (by decide)).mono ?_) | (with_reducible refine (left_any i 4 4 w hi (by decide) (by decide)).mono ?_)); rintro e w' ⟨rfl, rfl⟩))
  go_ret
  exact ⟨ret_u8 HB2.out, rfl⟩
end Go.Proofs.Ytgfdnhpfdbaddaa
