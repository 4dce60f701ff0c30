/- The reference of layer 1: texts. -/
import Derived.Test.YtcohkhjfncknpaaDig0
namespace Go.Proofs.Ytcohkhjfncknpaa
open Go.RowKit

set_option maxHeartbeats 400000 in
theorem texts_any (s : ByteArray) (w : World) (hs : s.size ≤ maxLen) :
    Calls Try.prog 29 #[.string s] w fun e w' => e = .returned (.int .i64 (faultOf s.data.toList)) ∧ w = w' := by
  unfold maxLen at hs
  go_enter Try.func29, Try.ntmps29
  go_wp2
  go_loop [3] (fun i => ∃ k : Nat, k ≤ s.size ∧ i = .int .i64 k ∧ (s.data.toList.take k).all isDig = true) (fun i => s.size - (intOf i).toNat)
  case atStart => exact ⟨0, Nat.zero_le _, rfl, rfl⟩
  case round =>
    obtain ⟨k, hk, rfl, ha⟩ := hrel
    by_cases hlt : k < s.size
    · by_cases h1 : (s[k].toNat : Int) < 48
      · have HB := Lib.hid (all_bad s k hlt (by unfold isDig; simp; omega))
        go_wp2
        go_ret
        exact ⟨ret_int (by unfold faultOf; rw [HB.out]; rfl), rfl⟩
      · by_cases h2 : (57 : Int) < s[k].toNat
        · have HB := Lib.hid (all_bad s k hlt (by unfold isDig; simp; omega))
          go_wp2
          go_ret
          exact ⟨ret_int (by unfold faultOf; rw [HB.out]; rfl), rfl⟩
        · have HB := Lib.hid (all_snoc s k hlt ha (by unfold isDig; simp; omega))
          clear ha
          go_wp2
          go_round
          case rel => exact ⟨k + 1, by omega, by go_num, HB.out⟩
          case measure => simp [intOf]; omega
    · have e : k = s.size := by omega
      subst e
      have HA := Lib.hid ha
      clear ha
      by_cases hl : 999 < s.size
      all_goals
        go_wp2
        go_ret
        refine ⟨ret_int ?_, rfl⟩
        have h := HA.out
        rw [List.take_of_length_le (by simp)] at h
        unfold faultOf
        rw [h]
        simp [hl]

end Go.Proofs.Ytcohkhjfncknpaa
