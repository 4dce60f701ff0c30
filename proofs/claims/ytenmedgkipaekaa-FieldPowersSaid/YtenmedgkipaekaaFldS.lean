/- Contracts of the reference's field: powers, inverses, byte maps. -/
import Derived.Test.YtenmedgkipaekaaFldR
namespace Go.Proofs.Ytenmedgkipaekaa
open Go.RowKit

theorem rpow_any (a : Nat) (n : Int) (w : World) (ha : a < 256) (hn : n ≤ 9223372036854775807) :
    Calls Try.prog 15 #[.int .u8 a, .int .i64 n] w fun e w' => e = .returned (.int .u8 (gpow a n.toNat : Nat)) ∧ w = w' := by
  by_cases h0 : n ≤ 0
  · have HE := Lib.hid (show 1 = gpow a n.toNat by rw [show n.toNat = 0 by omega]; rfl)
    go_enter Try.func15, Try.ntmps15
    go_wp2_with fail
    go_ret
    exact ⟨ret_u8 HE.out, rfl⟩
  · obtain ⟨m, rfl⟩ := Int.eq_ofNat_of_zero_le (show 0 ≤ n by omega)
    rw [Int.toNat_natCast]
    by_cases ha0 : a = 0
    · subst ha0
      have HE := Lib.hid (show 0 = gpow 0 m from (gpow_zero (by omega)).symm)
      go_enter Try.func15, Try.ntmps15
      go_wp2_with fail
      go_ret
      exact ⟨ret_u8 HE.out, rfl⟩
    · have HE := Lib.hid (gpow_mod ha ha0 m)
      obtain ⟨r, hr⟩ : ∃ r, m % 255 = r := ⟨_, rfl⟩
      have HR := Lib.hid hr
      have hm : ((m : Int) % 255) = (r : Int) := by omega
      have hrl : r < 255 := by omega
      clear hr
      have hz : ((a : Int) == 0) = false := by rw [beq_eq_false_iff_ne]; omega
      go_enter Try.func15, Try.ntmps15
      go_wp2_with fail
      go_loop [5, 6] (fun p i => ∃ (k p' : Nat), k ≤ r ∧ p' = gpow a k ∧ p = .int .u8 p' ∧ i = .int .i64 k) (fun _ i => r - (intOf i).toNat)
      case atStart => exact ⟨0, 1, Nat.zero_le _, rfl, rfl, rfl⟩
      case round =>
        obtain ⟨k, p', hk, hp, rfl, rfl⟩ := hrel
        have hp' := gpow_lt ha k
        rw [← hp] at hp'
        by_cases hlt : k < r
        · have HP := Lib.hid (show gm p' a = gpow a (k + 1) by rw [hp]; rfl)
          clear hp
          go_wp2_with (go_at_call 13; refine (rmul_any _ _ _ (by assumption) (by assumption)).mono ?_; rintro e w' ⟨rfl, rfl⟩)
          go_round
          case rel => exact ⟨k + 1, _, by omega, HP.out, rfl, by go_num⟩
          case measure => simp [intOf]; omega
        · obtain rfl : k = r := by omega
          have HP := Lib.hid (show p' = gpow a m by rw [hp, ← HE.out, HR.out])
          clear hp
          go_wp2_with fail
          go_ret
          exact ⟨ret_u8 HP.out, rfl⟩

set_option maxRecDepth 100000 in
theorem rinv_any (a : Nat) (w : World) (ha : a < 256) :
    Calls Try.prog 17 #[.int .u8 a] w fun e w' => e = .returned (.int .u8 (ginv a : Nat)) ∧ w = w' := by
  go_enter Try.func17, Try.ntmps17
  go_wp2_with fail
  go_loop [3] (fun i => ∃ k : Nat, 1 ≤ k ∧ k ≤ 256 ∧ Hid (∀ c, 1 ≤ c → c < k → gm a c ≠ 1) ∧ i = .int .i64 k) (fun i => 256 - (intOf i).toNat)
  case atStart => exact ⟨1, by decide, by decide, Lib.hid (fun c h1 h2 => by omega), rfl⟩
  case round =>
    obtain ⟨k, hk1, hk, HN, rfl⟩ := hrel
    by_cases hlt : k < 256
    · have hml := gm_lt k ha
      have HM := Lib.hid (rmul_any a k w ha hlt)
      by_cases hg : gm a k = 1
      · have HE := Lib.hid (ginv_only ha hlt hg)
        rw [hg] at HM
        clear hg hml
        go_wp2_with (go_at_call 13; refine HM.out.mono ?_; rintro e w' ⟨rfl, rfl⟩)
        go_ret
        exact ⟨ret_u8 HE.out, rfl⟩
      · have hz : (((gm a k : Nat) : Int) == 1) = false := by rw [beq_eq_false_iff_ne]; omega
        have HN2 := Lib.hid (show ∀ c, 1 ≤ c → c < k + 1 → gm a c ≠ 1 from fun c h1 h2 => by
          by_cases e : c = k
          · rw [e]; exact hg
          · exact HN.out c h1 (by omega))
        go_wp2_with (go_at_call 13; refine HM.out.mono ?_; rintro e w' ⟨rfl, rfl⟩)
        go_round
        case rel => exact ⟨k + 1, by omega, by omega, HN2, by go_num⟩
        case measure => simp [intOf]; omega
    · obtain rfl : k = 256 := by omega
      have HE := Lib.hid (show 0 = ginv a by
        by_cases h0 : a = 0
        · rw [h0, ginv_zero]
        · exact absurd (gm_inv ha h0) (HN.out _ (Nat.pos_of_ne_zero (ginv_ne ha h0)) (ginv_lt ha)))
      go_wp2_with fail
      go_ret
      exact ⟨ret_u8 HE.out, rfl⟩

/-- turned left, bit by bit -/
def rlf (a n : Nat) : Nat → Nat
  | 0 => 0
  | k + 1 => if a / 2 ^ k % 2 = 1 then rlf a n k ||| (1 <<< ((k + n) % 8)) else rlf a n k
theorem rlf_lt (a n : Nat) : ∀ k, rlf a n k < 256
  | 0 => (by decide : 0 < 256)
  | k + 1 => by
    simp only [rlf]
    split
    · refine Nat.or_lt_two_pow (n := 8) (rlf_lt a n k) ?_
      have : ∀ x, x < 8 → 1 <<< x < 2 ^ 8 := by decide
      exact this _ (Nat.mod_lt _ (by decide))
    · exact rlf_lt a n k
theorem rlf_rotl {a n : Nat} (ha : a < 256) (hn : n < 8) : rlf a n 8 = rotl a n := by
  have : ∀ n, n < 8 → ∀ a, a < 256 → rlf a n 8 = rotl a n := by decide +kernel
  exact this n hn a ha

theorem rleft_any (a n : Nat) (t : Int) (w : World) (ha : a < 256) (hn : n < 8) (ht : t = (n : Int)) :
    Calls Try.prog 24 #[.int .u8 a, .int .i64 t] w fun e w' => e = .returned (.int .u8 (rotl a n : Nat)) ∧ w = w' := by
  subst ht
  go_enter Try.func24, Try.ntmps24
  go_wp2_with fail
  go_loop [5, 6] (fun p i => ∃ (k p' : Nat), k ≤ 8 ∧ p' = rlf a n k ∧ p = .int .i64 p' ∧ i = .int .i64 k) (fun _ i => 8 - (intOf i).toNat)
  case atStart => exact ⟨0, 0, by decide, rfl, rfl, rfl⟩
  case round =>
    obtain ⟨k, p', hk, hp, rfl, rfl⟩ := hrel
    have hp' := rlf_lt a n k
    rw [← hp] at hp'
    by_cases h0 : k < 8
    · by_cases hbit : a / 2 ^ k % 2 = 1
      · have HP := Lib.hid (show p' ||| (1 <<< ((k + n) % 8)) = rlf a n (k + 1) by rw [hp]; simp only [rlf, if_pos hbit])
        have ht := bit_test (decide_eq_true hbit)
        have hs : 1 <<< ((k + n) % 8) < 32768 := by
          have : ∀ x, x < 8 → 1 <<< x < 32768 := by decide
          exact this _ (Nat.mod_lt _ (by decide))
        have hx : bits BinOp.or .i64 (p' : Int) (wrap64 (2 ^ ((k + n) % 8))) = ((p' ||| (1 <<< ((k + n) % 8)) : Nat) : Int) := by
          have e := shl_wrap hs
          rw [Int.natCast_one, Int.one_mul] at e
          rw [e]
          exact i64_or_nat _ _ (by omega) (by omega)
        clear hp
        go_wp2_with fail
        go_round
        case rel => exact ⟨k + 1, _, by omega, HP.out, by rw [← hx], by go_num⟩
        case measure => simp [intOf]; omega
      · have HP := Lib.hid (show p' = rlf a n (k + 1) by rw [hp]; simp only [rlf, if_neg hbit])
        have ht := bit_test (decide_eq_false hbit)
        clear hp
        go_wp2_with fail
        go_round
        case rel => exact ⟨k + 1, _, by omega, HP.out, rfl, by go_num⟩
        case measure => simp [intOf]; omega
    · obtain rfl : k = 8 := by omega
      have HG := Lib.hid (show p' = rotl a n by rw [hp]; exact rlf_rotl ha hn)
      clear hp
      go_wp2_with fail
      go_ret
      exact ⟨ret_u8 HG.out, rfl⟩

set_option maxHeartbeats 800000 in
theorem rbox_any (a : Nat) (w : World) (ha : a < 256) :
    Calls Try.prog 19 #[.int .u8 a] w fun e w' => e = .returned (.int .u8 (box a : Nat)) ∧ w = w' := by
  have HB := Lib.hid (show gbox (ginv a) = box a from rfl)
  have hi := ginv_lt ha
  have HI := Lib.hid (rinv_any a w ha)
  generalize ginv a = i at *
  have l1 := rotl_lt (n := 1) hi (by decide)
  have l2 := rotl_lt (n := 2) hi (by decide)
  have l3 := rotl_lt (n := 3) hi (by decide)
  have l4 := rotl_lt (n := 4) hi (by decide)
  have e1 := x8 hi l1
  have k1 := xor8 hi l1
  have e2 := x8 k1 l2
  have k2 := xor8 k1 l2
  have e3 := x8 k2 l3
  have k3 := xor8 k2 l3
  have e4 := x8 k3 l4
  have k4 := xor8 k3 l4
  have e5 : bits BinOp.xor .u8 ((i ^^^ rotl i 1 ^^^ rotl i 2 ^^^ rotl i 3 ^^^ rotl i 4 : Nat) : Int) 99 = ((i ^^^ rotl i 1 ^^^ rotl i 2 ^^^ rotl i 3 ^^^ rotl i 4 ^^^ 99 : Nat) : Int) := x8 k4 (show 99 < 256 by decide)
  have HB2 := Lib.hid (show (i ^^^ rotl i 1 ^^^ rotl i 2 ^^^ rotl i 3 ^^^ rotl i 4 ^^^ 99) = box a from HB.out)
  clear HB
  go_enter Try.func19, Try.ntmps19
  go_wp2_with (first | (go_at_call 17; refine HI.out.mono ?_; rintro e w' ⟨rfl, rfl⟩) | (go_at_call 24; (first | (with_reducible refine (rleft_any i 1 1 w hi (by decide) (by decide)).mono ?_) | (with_reducible refine (rleft_any i 2 2 w hi (by decide) (by decide)).mono ?_) | (with_reducible refine (rleft_any i 3 3 w hi (by decide) (by decide)).mono ?_) | (with_reducible refine (rleft_any i 4 4 w hi (by decide) (by decide)).mono ?_)); rintro e w' ⟨rfl, rfl⟩))
  go_ret
  exact ⟨ret_u8 HB2.out, rfl⟩

set_option maxRecDepth 100000 in
theorem runbox_any (a : Nat) (w : World) (ha : a < 256) :
    Calls Try.prog 21 #[.int .u8 a] w fun e w' => e = .returned (.int .u8 (unbox a : Nat)) ∧ w = w' := by
  go_enter Try.func21, Try.ntmps21
  go_wp2_with fail
  go_loop [3] (fun i => ∃ k : Nat, k ≤ 256 ∧ Hid (∀ c, c < k → box c ≠ a) ∧ i = .int .i64 k) (fun i => 256 - (intOf i).toNat)
  case atStart => exact ⟨0, by decide, Lib.hid (fun c h2 => by omega), rfl⟩
  case round =>
    obtain ⟨k, hk, HN, rfl⟩ := hrel
    by_cases hlt : k < 256
    · have hml := box_lt hlt
      have HM := Lib.hid (rbox_any k w hlt)
      by_cases hg : box k = a
      · have HE := Lib.hid (show k = unbox a by rw [← hg, unbox_box hlt])
        rw [hg] at HM
        clear hg hml
        go_wp2_with (go_at_call 19; refine HM.out.mono ?_; rintro e w' ⟨rfl, rfl⟩)
        go_ret
        exact ⟨ret_u8 HE.out, rfl⟩
      · have hz : (((box k : Nat) : Int) == (a : Int)) = false := by rw [beq_eq_false_iff_ne]; omega
        have HN2 := Lib.hid (show ∀ c, c < k + 1 → box c ≠ a from fun c h2 => by
          by_cases e : c = k
          · rw [e]; exact hg
          · exact HN.out c (by omega))
        go_wp2_with (go_at_call 19; refine HM.out.mono ?_; rintro e w' ⟨rfl, rfl⟩)
        go_round
        case rel => exact ⟨k + 1, by omega, HN2, by go_num⟩
        case measure => simp [intOf]; omega
    · exact absurd (box_unbox ha) (HN.out _ (Nat.lt_of_lt_of_le (unbox_lt ha) (by omega)))
end Go.Proofs.Ytenmedgkipaekaa
