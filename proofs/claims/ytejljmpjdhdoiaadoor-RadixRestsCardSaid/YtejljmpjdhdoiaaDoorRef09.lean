/- The reference of layer 9. -/
import Derived.Test.YtejljmpjdhdoiaaDoorRadM
import Derived.Test.YtejljmpjdhdoiaaDoorRadC
import Derived.Test.YtejljmpjdhdoiaaDoorRadD
import Derived.Test.YtejljmpjdhdoiaaDoorRef01B
namespace Go.Proofs.YtejljmpjdhdoiaaDoor
open Go.RowKit

set_option maxHeartbeats 400000 in
theorem qpower_any (m : Int) (w : World) :
    Calls Tryd.prog 15 #[.int .i64 m] w fun e w' => e = .returned (.int .i64 (pw m : Nat)) ∧ w = w' := by
  by_cases h1 : m < 1
  · have HZ := Lib.hid (pw_none (Or.inl h1))
    go_enter Tryd.func15, Tryd.ntmps15
    go_wp2_with fail
    go_ret
    exact ⟨by rw [HZ.out]; rfl, rfl⟩
  · by_cases h2 : 16 < m
    · have HZ := Lib.hid (pw_none (Or.inr h2))
      go_enter Tryd.func15, Tryd.ntmps15
      go_wp2_with fail
      go_ret
      exact ⟨by rw [HZ.out]; rfl, rfl⟩
    · obtain ⟨K, rfl⟩ : ∃ K : Nat, m = (K : Int) := ⟨m.toNat, by omega⟩
      have HZ := Lib.hid (pw_at (k := K) (by omega) (by omega))
      go_enter Tryd.func15, Tryd.ntmps15
      go_wp2_with fail
      go_loop [3, 4] (fun p i => ∃ k : Nat, k ≤ K ∧ i = .int .i64 k ∧ p = .int .i64 (10 ^ k : Nat)) (fun _ i => K - (intOf i).toNat)
      case atStart => exact ⟨0, Nat.zero_le _, rfl, rfl⟩
      case round =>
        obtain ⟨k, hk, rfl, rfl⟩ := hrel
        by_cases hlt : k < K
        · have hb := ten_le k (by omega)
          have HS := Lib.hid (show 10 ^ (k + 1) = 10 * 10 ^ k by rw [Nat.pow_succ, Nat.mul_comm])
          generalize 10 ^ k = q at *
          go_wp2_with fail
          go_round
          case rel => exact ⟨k + 1, by omega, by go_num, by rw [HS.out]; go_num⟩
          case measure => simp [intOf]; omega
        · obtain rfl : k = K := by omega
          generalize 10 ^ k = q at *
          go_wp2_with fail
          go_ret
          exact ⟨by rw [HZ.out]; rfl, rfl⟩

set_option maxHeartbeats 400000 in
theorem qwidth_any (m : Int) (w : World) :
    Calls Tryd.prog 17 #[.int .i64 m] w fun e w' => e = .returned (.int .i64 (wd m : Nat)) ∧ w = w' := by
  have HC := Lib.hid (qpower_any m w)
  have hle := pw_le m
  by_cases h : pw m = 0
  · have HZ := Lib.hid (wd_none h)
    rw [h] at HC
    clear h hle
    go_enter Tryd.func17, Tryd.ntmps17
    go_wp2_with fail
    refine HC.out.mono ?_
    rintro e w' ⟨rfl, rfl⟩
    go_wp2_with fail
    go_loop [3, 4] (fun n p => n = .int .i64 0 ∧ p = .int .i64 (-1)) (fun _ _ => 0)
    case atStart => exact ⟨rfl, rfl⟩
    case round =>
      obtain ⟨rfl, rfl⟩ := hrel
      go_wp2_with fail
      go_ret
      exact ⟨by rw [HZ.out]; rfl, rfl⟩
  · have HL := Lib.hid (pw_lt8 m)
    obtain ⟨q, hq⟩ : ∃ q : Nat, pw m = q + 1 := ⟨pw m - 1, by omega⟩
    have HW := Lib.hid (show wd m = cnt 8 q by unfold wd; rw [hq]; rfl)
    rw [hq] at HC HL hle
    have hs : ((q + 1 : Nat) : Int) - 1 = q := by omega
    clear h hq
    generalize ((q + 1 : Nat) : Int) = p at *
    go_enter Tryd.func17, Tryd.ntmps17
    go_wp2_with fail
    refine HC.out.mono ?_
    rintro e w' ⟨rfl, rfl⟩
    go_wp2_with fail
    go_loop [3, 4] (fun n p => ∃ (c f x : Nat), c + f = 8 ∧ n = .int .i64 c ∧ p = .int .i64 x ∧ x ≤ 10000000000000000 ∧ x < 256 ^ f ∧ c + cnt f x = cnt 8 q) (fun _ p => (intOf p).toNat)
    case atStart => exact ⟨0, 8, q, rfl, rfl, rfl, by omega, by have := HL.out; rw [Nat.add_sub_cancel] at this; exact this, Nat.zero_add _⟩
    case round =>
      obtain ⟨c, f, x, hcf, rfl, rfl, hx, hxf, hcnt⟩ := hrel
      have HX := Lib.hid hxf
      have HN := Lib.hid hcnt
      clear hxf hcnt
      by_cases h0 : x = 0
      · subst h0
        have HE := Lib.hid (show wd m = c by rw [HW.out, ← HN.out, cnt_zero]; rfl)
        go_wp2_with fail
        go_ret
        exact ⟨by rw [HE.out]; rfl, rfl⟩
      · obtain ⟨f, rfl⟩ : ∃ f', f = f' + 1 := by
          cases f with
          | zero => have := HX.out; rw [Nat.pow_zero] at this; omega
          | succ f => exact ⟨f, rfl⟩
        have HY := Lib.hid (show x / 256 < 256 ^ f by rw [Nat.div_lt_iff_lt_mul (by decide)]; have := HX.out; rw [Nat.pow_succ] at this; exact this)
        have HM := Lib.hid (show c + 1 + cnt f (x / 256) = cnt 8 q by have := HN.out; rw [cnt_step h0] at this; omega)
        go_wp2_with fail
        go_round
        case rel => exact ⟨c + 1, f, x / 256, by omega, by go_num, by go_num, by omega, HY.out, HM.out⟩
        case measure => simp [intOf]; omega

theorem qin_any (n m : Int) (w : World) :
    Calls Tryd.prog 30 #[.int .i64 n, .int .i64 m] w fun e w' => e = .returned (.bool (inP n m)) ∧ w = w' := by
  have HC := Lib.hid (qpower_any m w)
  by_cases h0 : 0 ≤ n
  · have HZ := Lib.hid (show inP n m = decide (n < (pw m : Nat)) by unfold inP; rw [decide_eq_true h0]; rfl)
    generalize ((pw m : Nat) : Int) = p at *
    have hd : decide (0 ≤ n) = true := decide_eq_true h0
    go_enter Tryd.func30, Tryd.ntmps30
    go_wp2_with fail
    refine HC.out.mono ?_
    rintro e w' ⟨rfl, rfl⟩
    go_wp2_with fail
    go_ret
    exact ⟨by rw [HZ.out]; rfl, rfl⟩
  · have HZ := Lib.hid (show inP n m = false by unfold inP; rw [decide_eq_false h0]; rfl)
    have hd : decide (0 ≤ n) = false := decide_eq_false h0
    go_enter Tryd.func30, Tryd.ntmps30
    go_wp2_with fail
    go_ret
    exact ⟨by rw [HZ.out]; rfl, rfl⟩
end Go.Proofs.YtejljmpjdhdoiaaDoor
