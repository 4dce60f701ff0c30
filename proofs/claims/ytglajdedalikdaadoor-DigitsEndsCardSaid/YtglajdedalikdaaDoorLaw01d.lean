import Derived.Test.YtglajdedalikdaaDoorLaw01a
namespace Go.Proofs.YtglajdedalikdaaDoor
open Go.RowKit

theorem valid_snoc (s : ByteArray) (c : Nat) (hd : s.data.toList.all isDig = true) (hl : s.size < 999) (hc : c < 10) :
    validB (s ++ ByteArray.mk #[chr (48 + c)]) = (((c : Nat) : Int) == luhnOf s) := by
  have h1 := oct_snoc s c hd hc
  have h2 := psum_snoc_all s (chr (48 + c))
  have h3 := snoc_size s (chr (48 + c))
  rw [chr_toNat _ (by omega)] at h2
  have h4 := fault_ok h1 (by rw [Array.length_toList]; show (snoc s (chr (48 + c))).size ≤ 999; omega)
  show validB (snoc s (chr (48 + c))) = _
  unfold validB luhnOf
  rw [h2, h4, h3, decide_eq_true (show 0 < s.size + 1 by omega)]
  generalize psum s.size 1 s s.size = q
  simp only [Bool.true_and, decide_true]
  rw [Bool.eq_iff_iff]
  simp only [decide_eq_true_eq, beq_iff_eq]
  omega

set_option maxRecDepth 100000 in
set_option maxHeartbeats 800000 in
theorem ends_any (s : ByteArray) (w : World) (hs : s.size ≤ maxLen) (hw : Wts w) :
    Calls Tryd.prog 8 #[.string s] w fun e w' => e = .returned (.bool true) ∧ Below w.heap.size w w' := by
  have HW := Lib.hid hw
  clear hw
  by_cases hf : faultOf s.data.toList = 0
  · obtain ⟨hd, hl⟩ := fault_zero hf
    have hl' : s.size ≤ 999 := by rw [Array.length_toList] at hl; exact hl
    have HD := Lib.hid hd
    clear hf hd hl
    by_cases hl9 : s.size < 999
    · have hl9' : ¬ (999 : Int) ≤ s.size := by omega
      go_enter Tryd.func8, Tryd.ntmps8
      go_wp2_with fail
      refine (small_any _ HW.out).mono ?_
      rintro e w1 ⟨rfl, hb1⟩
      have HW1 := Lib.hid (HW.out.keep hb1)
      go_wp2_with fail
      refine (luhn_ok s _ HD.out hl' HW1.out).mono ?_
      rintro e w2 ⟨rfl, n2, rfl⟩
      have HB := Lib.hid (drawn hb1 n2)
      have HW2 := Lib.hid (HW1.out.drewN n2)
      clear hb1 HW1
      go_wp2_with fail
      go_loopw [6] (fun i wr => ∃ c : Nat, c ≤ 10 ∧ i = .int .i64 c ∧ Below w.heap.size w wr) (fun i _ => 10 - (intOf i).toNat)
      case atStart => exact ⟨0, by omega, rfl, HB.out⟩
      case round =>
        obtain ⟨c, hc, rfl, hb⟩ := hrel
        have HBr := Lib.hid hb
        have HWr := Lib.hid (HW.out.keep hb)
        clear hb
        by_cases hlt : c < 10
        · have hcv := conv1 (48 + c) wr
          rw [show ((48 : Int) + c).toNat = 48 + c by omega] at hcv
          have HV := Lib.hid (valid_snoc s c HD.out hl9 hlt)
          have hz : (s ++ ByteArray.mk #[chr (48 + c)]).size = s.size + 1 := snoc_size s _
          generalize hL : luhnOf s = L at *
          have hz' : (s ++ ByteArray.mk #[chr (48 + c)]).size ≤ maxLen := by unfold maxLen; omega
          clear hL
          go_wp2_with fail
          refine (valid_any _ _ hz' ((HWr.out.keep ((Below.refl _ _).alloc (Nat.le_refl _) _)))).mono ?_
          rintro e w5 ⟨rfl, n5, rfl⟩
          rw [HV.out]
          go_wp2_with fail
          go_roundw
          case rel => exact ⟨c + 1, by omega, by go_num, drawn (HBr.out.alloc HBr.out.size _) n5⟩
          case measure => simp [intOf]; omega
        · obtain rfl : c = 10 := by omega
          go_wp2_with fail
          go_ret
          exact ⟨rfl, HBr.out⟩
    · have hl9' : (999 : Int) ≤ s.size := by omega
      go_enter Tryd.func8, Tryd.ntmps8
      go_wp2_with fail
      refine (small_any _ HW.out).mono ?_
      rintro e w1 ⟨rfl, hb1⟩
      have HW1 := Lib.hid (HW.out.keep hb1)
      go_wp2_with fail
      refine (luhn_ok s _ HD.out hl' HW1.out).mono ?_
      rintro e w2 ⟨rfl, n2, rfl⟩
      go_wp2_with fail
      go_ret
      exact ⟨rfl, drawn hb1 n2⟩
  · have hf' : (faultOf s.data.toList != 0) = true := by simpa using hf
    have HF := Lib.hid hf
    clear hf
    go_enter Tryd.func8, Tryd.ntmps8
    go_wp2_with fail
    refine (small_any _ HW.out).mono ?_
    rintro e w1 ⟨rfl, hb1⟩
    go_wp2_with fail
    refine (luhn_bad s _ hs HF.out).mono ?_
    rintro e w2 ⟨rfl, rfl⟩
    go_wp2_with fail
    go_ret
    exact ⟨rfl, hb1⟩
end Go.Proofs.YtglajdedalikdaaDoor
