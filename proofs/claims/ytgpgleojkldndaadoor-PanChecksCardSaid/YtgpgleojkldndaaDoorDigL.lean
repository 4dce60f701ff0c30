/- Valid is what ends in its check digit. -/
import Derived.Test.YtgpgleojkldndaaDoorDigB
namespace Go.Proofs.YtgpgleojkldndaaDoor
open Go.RowKit

theorem snoc_extract (s : ByteArray) (k : Nat) (h : s.size = k + 1) : snoc (s.extract 0 k) (s[k]'(by omega)) = s := by
  apply ByteArray.ext
  unfold snoc
  rw [ByteArray.data_append]
  apply Array.ext'
  rw [Array.toList_append]
  have hl : s.data.toList.length = k + 1 := by rw [Array.length_toList]; exact h
  show (s.extract 0 k).data.toList ++ [s[k]] = s.data.toList
  rw [show (s.extract 0 k).data.toList = s.data.toList.take k by simp [ByteArray.data_extract]]
  have h2 := List.take_succ_eq_append_getElem (l := s.data.toList) (i := k) (by omega)
  rw [List.take_of_length_le (by omega)] at h2
  exact h2.symm
theorem extract_size (s : ByteArray) (k : Nat) (h : s.size = k + 1) : (s.extract 0 k).size = k := by
  rw [ByteArray.size_extract]; omega
/-- valid is what ends in its check digit -/
theorem valid_last (s : ByteArray) (k : Nat) (h : s.size = k + 1) (h9 : s.size ≤ 999) :
    validB s = (decide (faultOf (s.extract 0 k).data.toList = 0) && isDig (s[k]'(by omega)) && decide (luhnOf (s.extract 0 k) = ((s[k]'(by omega)).toNat : Int) - 48)) := by
  have e := snoc_extract s k h
  have hz := extract_size s k h
  generalize s.extract 0 k = t at *
  generalize (s[k]'(by omega)) = c at *
  subst e
  rw [snoc_size] at h9
  have hp := psum_snoc_all t c
  have hf : faultOf (snoc t c).data.toList = 0 ↔ faultOf t.data.toList = 0 ∧ isDig c = true := by
    constructor
    · intro hh
      obtain ⟨h1, h2⟩ := fault_zero hh
      rw [snoc_list, List.all_append, Bool.and_eq_true] at h1
      exact ⟨fault_ok h1.1 (by rw [Array.length_toList]; show t.size ≤ 999; omega), by simpa using h1.2⟩
    · rintro ⟨h1, h2⟩
      obtain ⟨h3, _⟩ := fault_zero h1
      exact fault_ok (by rw [snoc_list, List.all_append, h3]; simp [h2]) (by rw [Array.length_toList]; show (snoc t c).size ≤ 999; rw [snoc_size]; omega)
  unfold validB luhnOf
  rw [hp, snoc_size, decide_eq_true (show 0 < t.size + 1 by omega)]
  generalize psum t.size 1 t t.size = q
  by_cases h1 : faultOf t.data.toList = 0 ∧ isDig c = true
  · rw [decide_eq_true (hf.2 h1), decide_eq_true h1.1, h1.2]
    have hc := h1.2
    unfold isDig at hc
    simp only [Bool.and_eq_true, decide_eq_true_eq] at hc
    simp only [Bool.true_and]
    rw [decide_eq_decide]
    omega
  · rw [decide_eq_false (fun hh => h1 (hf.1 hh))]
    have : (decide (faultOf t.data.toList = 0) && isDig c) = false := by
      cases h2 : (decide (faultOf t.data.toList = 0) && isDig c)
      · rfl
      · simp only [Bool.and_eq_true, decide_eq_true_eq] at h2; exact absurd h2 h1
    rw [this]; simp
end Go.Proofs.YtgpgleojkldndaaDoor
