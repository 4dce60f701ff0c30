import Derived.Test.YtglajdedalikdabDoorLaw01a
namespace Go.Proofs.YtglajdedalikdabDoor
open Go.RowKit

theorem snoc_extract (s : ByteArray) (k : Nat) (h : s.size = k + 1) : snoc (s.extract 0 k) (s[k]'(by omega)) = s := by
  apply ByteArray.ext
  unfold snoc
  rw [ByteArray.data_append]
  apply Array.ext'
  rw [Array.toList_append]
  have hl : s.data.toList.length = k + 1 := by rw [Array.length_toList]; exact h
  show (s.extract 0 k).data.toList ++ [s[k]] = s.data.toList
  rw [show (s.extract 0 k).data.toList = s.data.toList.take k by simp [ByteArray.data_extract]]
  have h2 := List.take_succ_eq_append_getElem (l := s.data.toList) (i := k) (by omega)
  rw [List.take_of_length_le (by omega)] at h2
  exact h2.symm
theorem extract_size (s : ByteArray) (k : Nat) (h : s.size = k + 1) : (s.extract 0 k).size = k := by
  rw [ByteArray.size_extract]; omega
/-- valid is what ends in its check digit -/
theorem valid_last (s : ByteArray) (k : Nat) (h : s.size = k + 1) (h9 : s.size ≤ 999) :
    validB s = (decide (faultOf (s.extract 0 k).data.toList = 0) && isDig (s[k]'(by omega)) && decide (luhnOf (s.extract 0 k) = ((s[k]'(by omega)).toNat : Int) - 48)) := by
  have e := snoc_extract s k h
  have hz := extract_size s k h
  generalize s.extract 0 k = t at *
  generalize (s[k]'(by omega)) = c at *
  subst e
  rw [snoc_size] at h9
  have hp := psum_snoc_all t c
  have hf : faultOf (snoc t c).data.toList = 0 ↔ faultOf t.data.toList = 0 ∧ isDig c = true := by
    constructor
    · intro hh
      obtain ⟨h1, h2⟩ := fault_zero hh
      rw [snoc_list, List.all_append, Bool.and_eq_true] at h1
      exact ⟨fault_ok h1.1 (by rw [Array.length_toList]; show t.size ≤ 999; omega), by simpa using h1.2⟩
    · rintro ⟨h1, h2⟩
      obtain ⟨h3, _⟩ := fault_zero h1
      exact fault_ok (by rw [snoc_list, List.all_append, h3]; simp [h2]) (by rw [Array.length_toList]; show (snoc t c).size ≤ 999; rw [snoc_size]; omega)
  unfold validB luhnOf
  rw [hp, snoc_size, decide_eq_true (show 0 < t.size + 1 by omega)]
  generalize psum t.size 1 t t.size = q
  by_cases h1 : faultOf t.data.toList = 0 ∧ isDig c = true
  · rw [decide_eq_true (hf.2 h1), decide_eq_true h1.1, h1.2]
    have hc := h1.2
    unfold isDig at hc
    simp only [Bool.and_eq_true, decide_eq_true_eq] at hc
    simp only [Bool.true_and]
    rw [decide_eq_decide]
    omega
  · rw [decide_eq_false (fun hh => h1 (hf.1 hh))]
    have : (decide (faultOf t.data.toList = 0) && isDig c) = false := by
      cases h2 : (decide (faultOf t.data.toList = 0) && isDig c)
      · rfl
      · simp only [Bool.and_eq_true, decide_eq_true_eq] at h2; exact absurd h2 h1
    rw [this]; simp

theorem valid_empty (w : World) (hw : Wts w) : Calls Tryd.prog 7 #[.string ⟨#[]⟩] w fun e w' => e = .returned (.bool false) ∧ ∃ n, w' = w.drewN n :=
  (valid_any _ w (by decide) hw).mono fun e w' ⟨he, h⟩ => ⟨he.trans (by rw [show validB ⟨#[]⟩ = false by decide]), h⟩

set_option maxRecDepth 100000 in
set_option maxHeartbeats 1600000 in
theorem last_any (s : ByteArray) (w : World) (hs : s.size ≤ maxLen) (hw : Wts w) :
    Calls Tryd.prog 4 #[.string s] w fun e w' => e = .returned (.bool true) ∧ Below w.heap.size w w' := by
  have HW := Lib.hid hw
  clear hw
  by_cases h0 : s.size = 0
  · obtain rfl : s = ⟨#[]⟩ := by
      cases s with | mk d => cases d with | mk l => cases l with | nil => rfl | cons a b => simp [ByteArray.size] at h0
    clear h0
    go_enter Tryd.func4, Tryd.ntmps4
    go_wp2_with fail
    refine (small_any _ HW.out).mono ?_
    rintro e w1 ⟨rfl, hb1⟩
    have HW1 := Lib.hid (HW.out.keep hb1)
    go_wp2_with fail
    refine (valid_empty _ HW1.out).mono ?_
    rintro e w2 ⟨rfl, n2, rfl⟩
    go_wp2_with fail
    go_ret
    exact ⟨rfl, drawn hb1 n2⟩
  · have e1 := toList_of_size (s := s) (by omega)
    have e2 : ¬ s.toList = [] := by intro h; rw [h] at e1; cases e1
    have e3 : ¬ s.size = 0 := h0
    by_cases hl9 : s.size ≤ 999
    · obtain ⟨k, hk⟩ : ∃ k, s.size = k + 1 := ⟨s.size - 1, by omega⟩
      have hlt : k < s.size := by omega
      have HL := Lib.hid (show validB s = (decide (faultOf (s.extract 0 k).data.toList = 0) && isDig (s[k]'hlt) && decide (luhnOf (s.extract 0 k) = ((s[k]'hlt).toNat : Int) - 48)) from valid_last s k hk hl9)
      have hz := extract_size s k hk
      have hki : (s.size : Int) - 1 = k := by omega
      have hn9 : ¬ (999 : Int) < s.size := by omega
      have HZ := Lib.hid hz
      obtain ⟨t, ht⟩ : ∃ t, s.extract 0 k = t := ⟨_, rfl⟩
      rw [ht] at HL HZ
      clear hk hz
      by_cases hf : faultOf t.data.toList = 0
      · obtain ⟨hd, _⟩ := fault_zero hf
        have HD := Lib.hid hd
        rw [decide_eq_true hf, Bool.true_and] at HL
        clear hd hf
        have htl : t.size ≤ 999 := by have := HZ.out; omega
        rcases (show ((s[k]'hlt).toNat : Int) < 48 ∨ (57 : Int) < (s[k]'hlt).toNat ∨ (48 ≤ (s[k]'hlt).toNat ∧ (s[k]'hlt).toNat ≤ 57) by omega) with hc | hc | ⟨hc, hc'⟩
        iterate 2
          · have HV := Lib.hid (show validB s = false by
              rw [HL.out, show isDig (s[k]'hlt) = false by unfold isDig; simp; omega]; rfl)
            go_enter Tryd.func4, Tryd.ntmps4
            go_wp2_with fail
            refine (small_any _ HW.out).mono ?_
            rintro e w1 ⟨rfl, hb1⟩
            have HW1 := Lib.hid (HW.out.keep hb1)
            go_wp2_with fail
            refine (luhn_ok t _ HD.out htl HW1.out).mono ?_
            rintro e w2 ⟨rfl, n2, rfl⟩
            go_wp2_with fail
            refine (valid_any s _ hs (HW1.out.drewN n2)).mono ?_
            rintro e w3 ⟨rfl, n3, rfl⟩
            rw [HV.out]
            go_wp2_with fail
            go_ret
            exact ⟨rfl, drawn hb1 (n2 + n3)⟩
        · have HV := Lib.hid (show validB s = (luhnOf t == ((s[k]'hlt).toNat : Int) - 48) by
            rw [HL.out, show isDig (s[k]'hlt) = true by unfold isDig; simp; omega, Bool.true_and]
            rw [Bool.eq_iff_iff]; simp)
          go_enter Tryd.func4, Tryd.ntmps4
          go_wp2_with fail
          refine (small_any _ HW.out).mono ?_
          rintro e w1 ⟨rfl, hb1⟩
          have HW1 := Lib.hid (HW.out.keep hb1)
          go_wp2_with fail
          refine (luhn_ok t _ HD.out htl HW1.out).mono ?_
          rintro e w2 ⟨rfl, n2, rfl⟩
          go_wp2_with fail
          refine (valid_any s _ hs (HW1.out.drewN n2)).mono ?_
          rintro e w3 ⟨rfl, n3, rfl⟩
          rw [HV.out]
          go_wp2_with fail
          go_ret
          exact ⟨rfl, drawn hb1 (n2 + n3)⟩
      · have HV := Lib.hid (show validB s = false by rw [HL.out, decide_eq_false hf]; simp)
        have HF := Lib.hid hf
        have hf' : (faultOf t.data.toList == 0) = false := by simpa using hf
        have htm : t.size ≤ maxLen := by have := HZ.out; unfold maxLen; omega
        clear hf
        go_enter Tryd.func4, Tryd.ntmps4
        go_wp2_with fail
        refine (small_any _ HW.out).mono ?_
        rintro e w1 ⟨rfl, hb1⟩
        have HW1 := Lib.hid (HW.out.keep hb1)
        go_wp2_with fail
        refine (luhn_bad t _ htm HF.out).mono ?_
        rintro e w2 ⟨rfl, rfl⟩
        go_wp2_with fail
        refine (valid_any s _ hs HW1.out).mono ?_
        rintro e w3 ⟨rfl, n3, rfl⟩
        rw [HV.out]
        go_wp2_with fail
        go_ret
        exact ⟨rfl, drawn hb1 n3⟩
    · have h9 : (999 : Int) < s.size := by omega
      have HV := Lib.hid (show validB s = false by
        cases hv : validB s
        · rfl
        · unfold validB at hv
          simp only [Bool.and_eq_true, decide_eq_true_eq] at hv
          have := (fault_zero hv.2.1).2
          rw [Array.length_toList] at this
          exact absurd this hl9)
      go_enter Tryd.func4, Tryd.ntmps4
      go_wp2_with fail
      refine (small_any _ HW.out).mono ?_
      rintro e w1 ⟨rfl, hb1⟩
      have HW1 := Lib.hid (HW.out.keep hb1)
      go_wp2_with fail
      refine (valid_empty _ HW1.out).mono ?_
      rintro e w2 ⟨rfl, n2, rfl⟩
      go_wp2_with fail
      refine (valid_any s _ hs (HW1.out.drewN n2)).mono ?_
      rintro e w3 ⟨rfl, n3, rfl⟩
      rw [HV.out]
      go_wp2_with fail
      go_ret
      exact ⟨rfl, drawn hb1 (n2 + n3)⟩
end Go.Proofs.YtglajdedalikdabDoor
