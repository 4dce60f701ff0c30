/- The reference of layer 1: Valid. -/
import Derived.Test.YtgpgleojkldndaaDoorDigA
import Derived.Test.YtgpgleojkldndaaDoorRef0
namespace Go.Proofs.YtgpgleojkldndaaDoor
open Go.RowKit

set_option maxHeartbeats 400000 in
theorem digsum_any (s : ByteArray) (w : World) (hs : s.size ≤ 1000) (hd : s.data.toList.all isDig = true) :
    Calls Tryd.prog 40 #[.string s] w fun e w' => e = .returned (.int .i64 (psum s.size 0 s s.size)) ∧ w = w' := by
  have HD := Lib.hid hd
  clear hd
  go_enter Tryd.func40, Tryd.ntmps40
  go_wp2
  go_loop [3, 4] (fun t i => ∃ k : Nat, k ≤ s.size ∧ i = .int .i64 k ∧ t = .int .i64 (psum s.size 0 s k)) (fun _ i => s.size - (intOf i).toNat)
  case atStart => exact ⟨0, Nat.zero_le _, rfl, rfl⟩
  case round =>
    obtain ⟨k, hk, rfl, rfl⟩ := hrel
    by_cases hlt : k < s.size
    · obtain ⟨hb1, hb2⟩ := dig_at s k hlt HD.out
      have hps := psum_le s.size 0 s HD.out k
      have HS := Lib.hid (show psum s.size 0 s (k+1) = psum s.size 0 s k + wt (s.size - 1 - k) (s[k].toNat - 48) by rw [← dg_eq s k hlt]; rfl)
      go_wp2
      all_goals
        go_round
        case rel => exact ⟨k + 1, by omega, by go_num, fin1 HS.out rfl (by unfold wt; simp only [beq_iff_eq, beq_eq_false_iff_ne] at *; split <;> (try split) <;> omega)⟩
        case measure => simp [intOf]; omega
    · have e : k = s.size := by omega
      subst e
      go_wp2
      go_ret
      exact ⟨rfl, rfl⟩

set_option maxHeartbeats 400000 in
theorem rvalid_any (s : ByteArray) (w : World) (hs : s.size ≤ maxLen) :
    Calls Tryd.prog 24 #[.string s] w fun e w' => e = .returned (.bool (validB s)) ∧ w = w' := by
  by_cases hf : faultOf s.data.toList = 0
  · obtain ⟨hd, hl⟩ := fault_zero hf
    have hl' : s.size ≤ 999 := by rw [Array.length_toList] at hl; exact hl
    have HD := Lib.hid hd
    have HF := Lib.hid hf
    have hp := psum_le s.size 0 s hd s.size
    by_cases h0 : s.size = 0
    · have h00 : ¬ (0 : Int) < s.size := by omega
      have h01 : decide (0 < s.size) = false := decide_eq_false (by omega)
      have HB := Lib.hid (show validB s = false by unfold validB; rw [h01]; simp)
      clear hf hd hl h0
      go_enter Tryd.func24, Tryd.ntmps24
      go_wp2_with (first | (go_at_call 39; refine (texts_any s _ hs).mono ?_; rintro e w' ⟨rfl, rfl⟩; rw [HF.out]))
      go_ret
      exact ⟨by rw [HB.out]; rfl, rfl⟩
    · have h00 : (0 : Int) < s.size := by omega
      have h01 : decide (0 < s.size) = true := decide_eq_true (by omega)
      have HB := Lib.hid (show validB s = ((psum s.size 0 s s.size : Int) % 10 == 0) by
        unfold validB; rw [h01, hf]; simp only [Bool.true_and, decide_true]; rw [Bool.eq_iff_iff]; simp; omega)
      clear hf hd hl h0
      go_enter Tryd.func24, Tryd.ntmps24
      go_wp2_with (first | (go_at_call 39; refine (texts_any s _ hs).mono ?_; rintro e w' ⟨rfl, rfl⟩; rw [HF.out]) | (go_at_call 40; refine (digsum_any s _ (by omega) HD.out).mono ?_; rintro e w' ⟨rfl, rfl⟩))
      go_ret
      exact ⟨by rw [HB.out]; rfl, rfl⟩
  · have hf' : (faultOf s.data.toList == 0) = false := by simpa using hf
    have HB := Lib.hid (show validB s = false by unfold validB; rw [decide_eq_false hf]; simp)
    clear hf
    go_enter Tryd.func24, Tryd.ntmps24
    go_wp2_with (go_at_call 39; refine (texts_any s _ hs).mono ?_; rintro e w' ⟨rfl, rfl⟩)
    go_ret
    exact ⟨by rw [HB.out]; rfl, rfl⟩

end Go.Proofs.YtgpgleojkldndaaDoor
