/- Number. -/
import Derived.Test.YtcohkhjfncknpaaDig0
namespace Go.Proofs.Ytcohkhjfncknpaa
open Go.RowKit

/-- the number that the first k digits tell -/
def acc (s : ByteArray) : Nat → Nat
  | 0 => 0
  | k + 1 => 10 * acc s k + dg s k

theorem acc_step (s : ByteArray) (k : Nat) : acc s k ≤ acc s (k + 1) := by simp only [acc]; omega

theorem acc_mono (s : ByteArray) (a b : Nat) (h : a ≤ b) : acc s a ≤ acc s b := by
  induction b with
  | zero => obtain rfl : a = 0 := by omega
            exact Nat.le_refl _
  | succ b ih =>
    rcases Nat.lt_or_ge a (b + 1) with h' | h'
    · exact Nat.le_trans (ih (by omega)) (acc_step s b)
    · obtain rfl : a = b + 1 := by omega
      exact Nat.le_refl _

def dnE (s : ByteArray) : Int := if faultOf s.data.toList ≠ 0 then faultOf s.data.toList else if s.size = 0 then 3 else if 9223372036854775807 < acc s s.size then 5 else 0

def dnV (s : ByteArray) : Int := if dnE s = 0 then acc s s.size else 0

set_option maxHeartbeats 800000 in
theorem number_any (s : ByteArray) (w : World) (hs : s.size ≤ maxLen) :
    Calls Try.prog 27 #[.string s] w fun e w' => e = .returned (.tuple #[.int .i64 (dnV s), .int .i64 (dnE s)]) ∧ ∃ n, w' = w.drewN n := by
  by_cases hf : faultOf s.data.toList = 0
  · obtain ⟨hd, hl⟩ := fault_zero hf
    have hl' : s.size ≤ 999 := by rw [Array.length_toList] at hl; exact hl
    have HD := Lib.hid hd
    have HF := Lib.hid hf
    clear hf hd hl
    by_cases h0 : s.size = 0
    · have e1 : s.toList = [] := by
        rw [ByteArray.toList_eq]; exact List.eq_nil_of_length_eq_zero (Array.length_toList.trans h0)
      have HB := Lib.hid (show dnE s = 3 by unfold dnE; rw [if_neg (by rw [HF.out]; decide), if_pos h0])
      have HV := Lib.hid (show dnV s = 0 by unfold dnV; rw [HB.out]; rfl)
      clear h0
      go_enter Try.func27, Try.ntmps27
      go_wp2_with (go_at_call 33; refine (fault_any s _ hs).mono ?_; rintro e w' ⟨rfl, rfl⟩; rw [HF.out])
      go_ret2
      exact ⟨by rw [HB.out, HV.out]; rfl, 0, rfl⟩
    · have e1 := toList_of_size (s := s) (by omega)
      have e2 : ¬ s.toList = [] := by intro h; rw [h] at e1; cases e1
      go_enter Try.func27, Try.ntmps27
      go_wp2_with (go_at_call 33; refine (fault_any s _ hs).mono ?_; rintro e w' ⟨rfl, rfl⟩; rw [HF.out])
      go_loopw [5, 17] (fun t i wr => ∃ k : Nat, k ≤ s.size ∧ i = .int .i64 k ∧ t = .int .i64 (acc s k) ∧ acc s k ≤ 9223372036854775807 ∧ ∃ n, wr = w.drewN n) (fun _ i _ => s.size - (intOf i).toNat)
      case atStart => exact ⟨0, Nat.zero_le _, rfl, rfl, by simp [acc], 0, rfl⟩
      case round =>
        obtain ⟨k, hk, rfl, rfl, hle, hn⟩ := hrel
        have HN := Lib.hid hn
        clear hn
        by_cases hlt : k < s.size
        · obtain ⟨hb1, hb2⟩ := dig_at s k hlt HD.out
          obtain ⟨d, e0, hd9⟩ : ∃ d : Nat, (s[k].toNat : Int) - 48 = d ∧ d < 10 := ⟨s[k].toNat - 48, by omega, by omega⟩
          have HS := Lib.hid (show acc s (k + 1) = 10 * acc s k + d by simp only [acc]; rw [dg_eq s k hlt]; omega)
          generalize hq : acc s k = q at *
          have HQ := Lib.hid hq
          clear hq
          by_cases hbig : 9223372036854775807 < 10 * q + d
          · have ht : ((9223372036854775807 : Int) - d) / 10 < q := by omega
            have ht2 : (0 : Int) ≤ 9223372036854775807 - d := by omega
            have HB := Lib.hid (show dnE s = 5 by
              unfold dnE; rw [if_neg (by rw [HF.out]; decide), if_neg h0, if_pos (by have := acc_mono s (k + 1) s.size (by omega); have := HS.out; omega)])
            have HV := Lib.hid (show dnV s = 0 by unfold dnV; rw [HB.out]; rfl)
            clear hbig
            go_wp2_with (go_at_call 34; refine (value_any _ _ (by omega) (by omega)).mono ?_; rintro e w' ⟨rfl, rfl⟩)
            go_ret2
            exact ⟨by rw [HB.out, HV.out]; rfl, HN.out⟩
          · have ht : ¬ ((9223372036854775807 : Int) - d) / 10 < q := by omega
            have ht2 : (0 : Int) ≤ 9223372036854775807 - d := by omega
            go_wp2_with (go_at_call 34; refine (value_any _ _ (by omega) (by omega)).mono ?_; rintro e w' ⟨rfl, rfl⟩)
            go_roundw
            case rel => exact ⟨k + 1, by omega, by go_num, by rw [HS.out]; go_num, by rw [HS.out]; omega, HN.out⟩
            case measure => simp [intOf]; omega
        · obtain rfl : k = s.size := by omega
          have HB := Lib.hid (show dnE s = 0 by unfold dnE; rw [if_neg (by rw [HF.out]; decide), if_neg h0, if_neg (by omega)])
          have HV := Lib.hid (show dnV s = acc s s.size by unfold dnV; rw [if_pos HB.out])
          go_wp2_with fail
          go_ret2
          exact ⟨by rw [HB.out, HV.out]; rfl, HN.out⟩
  · have hf' : (faultOf s.data.toList != 0) = true := by simpa using hf
    have HB := Lib.hid (show dnE s = faultOf s.data.toList by unfold dnE; rw [if_pos hf])
    have HV := Lib.hid (show dnV s = 0 by unfold dnV; rw [HB.out, if_neg hf])
    clear hf
    go_enter Try.func27, Try.ntmps27
    go_wp2_with (go_at_call 33; refine (fault_any s _ hs).mono ?_; rintro e w' ⟨rfl, rfl⟩)
    go_ret2
    exact ⟨by rw [HB.out, HV.out]; rfl, 0, rfl⟩
end Go.Proofs.Ytcohkhjfncknpaa
