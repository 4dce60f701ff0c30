/- The reference of layer 1: texts, sum, Valid, Luhn. -/
import Derived.Test.YtglajdedalikdaaDoorDigB
namespace Go.Proofs.YtglajdedalikdaaDoor
open Go.RowKit

set_option maxHeartbeats 400000 in
theorem texts_any (s : ByteArray) (w : World) (hs : s.size ≤ maxLen) :
    Calls Tryd.prog 29 #[.string s] w fun e w' => e = .returned (.int .i64 (faultOf s.data.toList)) ∧ w = w' := by
  unfold maxLen at hs
  go_enter Tryd.func29, Tryd.ntmps29
  go_wp2
  go_loop [3] (fun i => ∃ k : Nat, k ≤ s.size ∧ i = .int .i64 k ∧ (s.data.toList.take k).all isDig = true) (fun i => s.size - (intOf i).toNat)
  case atStart => exact ⟨0, Nat.zero_le _, rfl, rfl⟩
  case round =>
    obtain ⟨k, hk, rfl, ha⟩ := hrel
    by_cases hlt : k < s.size
    · by_cases h1 : (s[k].toNat : Int) < 48
      · have HB := Lib.hid (all_bad s k hlt (by unfold isDig; simp; omega))
        go_wp2
        go_ret
        exact ⟨ret_int (by unfold faultOf; rw [HB.out]; rfl), rfl⟩
      · by_cases h2 : (57 : Int) < s[k].toNat
        · have HB := Lib.hid (all_bad s k hlt (by unfold isDig; simp; omega))
          go_wp2
          go_ret
          exact ⟨ret_int (by unfold faultOf; rw [HB.out]; rfl), rfl⟩
        · have HB := Lib.hid (all_snoc s k hlt ha (by unfold isDig; simp; omega))
          clear ha
          go_wp2
          go_round
          case rel => exact ⟨k + 1, by omega, by go_num, HB.out⟩
          case measure => simp [intOf]; omega
    · have e : k = s.size := by omega
      subst e
      have HA := Lib.hid ha
      clear ha
      by_cases hl : 999 < s.size
      all_goals
        go_wp2
        go_ret
        refine ⟨ret_int ?_, rfl⟩
        have h := HA.out
        rw [List.take_of_length_le (by simp)] at h
        unfold faultOf
        rw [h]
        simp [hl]

set_option maxHeartbeats 400000 in
theorem sum_any (s : ByteArray) (w : World) (hs : s.size ≤ 1000) (hd : s.data.toList.all isDig = true) :
    Calls Tryd.prog 31 #[.string s] w fun e w' => e = .returned (.int .i64 (psum s.size 0 s s.size)) ∧ w = w' := by
  have HD := Lib.hid hd
  clear hd
  go_enter Tryd.func31, Tryd.ntmps31
  go_wp2
  go_loop [3, 4] (fun t i => ∃ k : Nat, k ≤ s.size ∧ i = .int .i64 k ∧ t = .int .i64 (psum s.size 0 s k)) (fun _ i => s.size - (intOf i).toNat)
  case atStart => exact ⟨0, Nat.zero_le _, rfl, rfl⟩
  case round =>
    obtain ⟨k, hk, rfl, rfl⟩ := hrel
    by_cases hlt : k < s.size
    · obtain ⟨hb1, hb2⟩ := dig_at s k hlt HD.out
      have hps := psum_le s.size 0 s HD.out k
      have HS := Lib.hid (show psum s.size 0 s (k+1) = psum s.size 0 s k + wt (s.size - 1 - k) (s[k].toNat - 48) by rw [← dg_eq s k hlt]; rfl)
      go_wp2
      all_goals
        go_round
        case rel => exact ⟨k + 1, by omega, by go_num, fin1 HS.out rfl (by unfold wt; simp only [beq_iff_eq, beq_eq_false_iff_ne] at *; split <;> (try split) <;> omega)⟩
        case measure => simp [intOf]; omega
    · have e : k = s.size := by omega
      subst e
      go_wp2
      go_ret
      exact ⟨rfl, rfl⟩

set_option maxHeartbeats 400000 in
theorem rvalid_any (s : ByteArray) (w : World) (hs : s.size ≤ maxLen) :
    Calls Tryd.prog 20 #[.string s] w fun e w' => e = .returned (.bool (validB s)) ∧ w = w' := by
  by_cases hf : faultOf s.data.toList = 0
  · obtain ⟨hd, hl⟩ := fault_zero hf
    have hl' : s.size ≤ 999 := by rw [Array.length_toList] at hl; exact hl
    have HD := Lib.hid hd
    have HF := Lib.hid hf
    have hp := psum_le s.size 0 s hd s.size
    by_cases h0 : s.size = 0
    · have h00 : ¬ (0 : Int) < s.size := by omega
      have h01 : decide (0 < s.size) = false := decide_eq_false (by omega)
      have HB := Lib.hid (show validB s = false by unfold validB; rw [h01]; simp)
      clear hf hd hl h0
      go_enter Tryd.func20, Tryd.ntmps20
      go_wp2_with (first | (go_at_call 29; refine (texts_any s _ hs).mono ?_; rintro e w' ⟨rfl, rfl⟩; rw [HF.out]))
      go_ret
      exact ⟨by rw [HB.out]; rfl, rfl⟩
    · have h00 : (0 : Int) < s.size := by omega
      have h01 : decide (0 < s.size) = true := decide_eq_true (by omega)
      have HB := Lib.hid (show validB s = ((psum s.size 0 s s.size : Int) % 10 == 0) by
        unfold validB; rw [h01, hf]; simp only [Bool.true_and, decide_true]; rw [Bool.eq_iff_iff]; simp; omega)
      clear hf hd hl h0
      go_enter Tryd.func20, Tryd.ntmps20
      go_wp2_with (first | (go_at_call 29; refine (texts_any s _ hs).mono ?_; rintro e w' ⟨rfl, rfl⟩; rw [HF.out]) | (go_at_call 31; refine (sum_any s _ (by omega) HD.out).mono ?_; rintro e w' ⟨rfl, rfl⟩))
      go_ret
      exact ⟨by rw [HB.out]; rfl, rfl⟩
  · have hf' : (faultOf s.data.toList == 0) = false := by simpa using hf
    have HB := Lib.hid (show validB s = false by unfold validB; rw [decide_eq_false hf]; simp)
    clear hf
    go_enter Tryd.func20, Tryd.ntmps20
    go_wp2_with (go_at_call 29; refine (texts_any s _ hs).mono ?_; rintro e w' ⟨rfl, rfl⟩)
    go_ret
    exact ⟨by rw [HB.out]; rfl, rfl⟩

set_option maxHeartbeats 800000 in
theorem rluhn_ok (s : ByteArray) (w : World) (hd : s.data.toList.all isDig = true) (hl : s.size ≤ 999) :
    Calls Tryd.prog 18 #[.string s] w fun e w' => e = .returned (.tuple #[.int .i64 (luhnOf s), .int .i64 0]) ∧ Below w.heap.size w w' := by
  have HD := Lib.hid hd
  have HF := Lib.hid (fault_ok hd (by simpa using hl))
  clear hd
  go_enter Tryd.func18, Tryd.ntmps18
  go_wp2_with (go_at_call 29; refine (texts_any _ _ (by unfold maxLen; omega)).mono ?_; rintro e w' ⟨rfl, rfl⟩; rw [HF.out])
  go_loopw [5] (fun i wr => ∃ d : Nat, d ≤ 9 ∧ i = .int .i64 d ∧ (∀ c, c < d → (psum s.size 1 s s.size + c) % 10 ≠ 0) ∧ Below w.heap.size w wr) (fun i _ => 9 - (intOf i).toNat)
  case atStart => exact ⟨0, by omega, rfl, fun c hc => absurd hc (by omega), Below.refl _ _⟩
  case round =>
    obtain ⟨d, hd9, rfl, hno, hb⟩ := hrel
    have HN := Lib.hid hno
    clear hno
    by_cases hlt : d < 9
    · have hcv := conv1 (48 + d) wr
      rw [show ((48 : Int) + d).toNat = 48 + d by omega] at hcv
      have HO := Lib.hid (show (s ++ ByteArray.mk #[chr (48 + d)]).data.toList.all isDig = true from oct_snoc s d HD.out (by omega))
      have HS := Lib.hid (psum_snoc_all s (chr (48 + d)))
      have hz : (s ++ ByteArray.mk #[chr (48 + d)]).size = s.size + 1 := snoc_size s _
      have hz' : (s ++ ByteArray.mk #[chr (48 + d)]).size ≤ 1000 := by omega
      have HU := Lib.hid (show (chr (48 + d)).toNat - 48 = d by rw [chr_toNat _ (by omega)]; omega)
      have hp := psum_le s.size 1 s HD.out s.size
      generalize hq : psum s.size 1 s s.size = q at *
      have HQ := Lib.hid hq
      have HS2 := Lib.hid (show psum (s ++ ByteArray.mk #[chr (48 + d)]).size 0 (s ++ ByteArray.mk #[chr (48 + d)]) (s ++ ByteArray.mk #[chr (48 + d)]).size = q + d from HS.out.trans (by rw [HU.out]))
      clear hq
      by_cases hm : (q + d) % 10 = 0
      · have hm' : (((q + d : Nat) : Int) % 10 == 0) = true := by simp; omega
        have HL := Lib.hid (show luhnOf s = d by unfold luhnOf; rw [HQ.out]; omega)
        go_wp2_with (go_at_call 31; (with_reducible refine (sum_any (s ++ ByteArray.mk #[chr (48 + d)]) _ hz' HO.out).mono ?_); rintro e w' ⟨rfl, rfl⟩; rw [HS2.out])
        go_ret2
        exact ⟨ret_two HL.out.symm, hb.alloc hb.size _⟩
      · have hm' : (((q + d : Nat) : Int) % 10 == 0) = false := by simp; omega
        have HN2 := Lib.hid (show ∀ c, c < d + 1 → (q + c) % 10 ≠ 0 from fun c hc => by
          rcases Nat.lt_or_ge c d with h | h
          · exact HN.out c h
          · obtain rfl : c = d := by omega
            exact hm)
        clear hm
        go_wp2_with (go_at_call 31; (with_reducible refine (sum_any (s ++ ByteArray.mk #[chr (48 + d)]) _ hz' HO.out).mono ?_); rintro e w' ⟨rfl, rfl⟩; rw [HS2.out])
        go_roundw
        case rel => exact ⟨d + 1, by omega, by go_num, HN2.out, hb.alloc hb.size _⟩
        case measure => simp [intOf]; omega
    · obtain rfl : d = 9 := by omega
      have HL := Lib.hid (show luhnOf s = 9 by
        unfold luhnOf
        have h := HN.out
        generalize psum s.size 1 s s.size = q at *
        have h0 := h 0 (by omega); have h1 := h 1 (by omega); have h2 := h 2 (by omega); have h3 := h 3 (by omega); have h4 := h 4 (by omega)
        have h5 := h 5 (by omega); have h6 := h 6 (by omega); have h7 := h 7 (by omega); have h8 := h 8 (by omega)
        omega)
      go_wp2_with fail
      go_ret2
      exact ⟨ret_two HL.out.symm, hb⟩

set_option maxHeartbeats 400000 in
theorem rluhn_bad (s : ByteArray) (w : World) (hs : s.size ≤ maxLen) (hb : ¬ faultOf s.data.toList = 0) :
    Calls Tryd.prog 18 #[.string s] w fun e w' => e = .returned (.tuple #[.int .i64 0, .int .i64 (faultOf s.data.toList)]) ∧ w = w' := by
  have hb' : (faultOf s.data.toList != 0) = true := by simpa using hb
  go_enter Tryd.func18, Tryd.ntmps18
  go_wp2_with (go_at_call 29; refine (texts_any _ _ hs).mono ?_; rintro e w' ⟨rfl, rfl⟩)
  go_ret2
  exact ⟨rfl, rfl⟩
end Go.Proofs.YtglajdedalikdaaDoor
