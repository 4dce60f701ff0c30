import Derived.Test.YtglajdedalikdaaDoorDig3
namespace Go.Proofs.YtglajdedalikdaaDoor
open Go.RowKit

theorem quiet_add_same {P : Program} {f : FuncId} {args : Array Value} {w : World} {a n : Nat} {v : Value}
    (h : Calls P f args (w.drewN (a + n)) fun e w' => e = .returned v ∧ w' = w.drewN (a + n)) :
    Calls P f args (w.drewN (a + n)) fun e w'' => e = .returned v ∧ ∃ m, w'' = w.drewN (a + m) :=
  h.mono fun _ _ ⟨he, hm⟩ => ⟨he, n, hm⟩
theorem same_flip {P : Program} {f : FuncId} {args : Array Value} {w : World} {R : Ending → Prop} (h : Calls P f args w fun e w' => R e ∧ w = w') : Calls P f args w fun e w' => R e ∧ w' = w :=
  h.mono fun _ _ ⟨a, b⟩ => ⟨a, b.symm⟩

theorem ret_two {a b : Int} {v : Value} (h : a = b) : Ending.returned (.tuple #[.int .i64 a, v]) = .returned (.tuple #[.int .i64 b, v]) := by rw [h]
def luhnOf (s : ByteArray) : Int := ((10 - (psum s.size 1 s s.size) % 10) % 10 : Nat)
def validB (s : ByteArray) : Bool := decide (0 < s.size) && (decide (faultOf s.data.toList = 0) && decide (psum s.size 0 s s.size % 10 = 0))

theorem fault_zero {l : List UInt8} (h : faultOf l = 0) : l.all isDig = true ∧ l.length ≤ 999 := by
  unfold faultOf at h
  by_cases h1 : l.all isDig = true
  · rw [if_pos h1] at h
    by_cases h2 : 999 < l.length
    · rw [if_pos h2] at h; omega
    · exact ⟨h1, by omega⟩
  · rw [if_neg h1] at h; omega
theorem fault_ok {l : List UInt8} (h : l.all isDig = true) (h2 : l.length ≤ 999) : faultOf l = 0 := by
  unfold faultOf; rw [if_pos h, if_neg (by omega)]

set_option maxHeartbeats 400000 in
theorem luhn_bad (s : ByteArray) (w : World) (hs : s.size ≤ maxLen) (hb : ¬ faultOf s.data.toList = 0) :
    Calls Tryd.prog 17 #[.string s] w fun e w' => e = .returned (.tuple #[.int .i64 0, .int .i64 (faultOf s.data.toList)]) ∧ w = w' := by
  have hb' : (faultOf s.data.toList != 0) = true := by simpa using hb
  go_enter Tryd.func17, Tryd.ntmps17
  go_wp2_with (go_at_call 25; refine (fault_any _ _ hs).mono ?_; rintro e w' ⟨rfl, rfl⟩)
  go_ret2
  exact ⟨rfl, rfl⟩
set_option maxHeartbeats 400000 in
theorem luhn_ok (s : ByteArray) (w : World) (hd : s.data.toList.all isDig = true) (hl : s.size ≤ 999) (hw : Wts w) :
    Calls Tryd.prog 17 #[.string s] w fun e w' => e = .returned (.tuple #[.int .i64 (luhnOf s), .int .i64 0]) ∧ ∃ n, w' = w.drewN n := by
  have HD := Lib.hid hd
  have HW := Lib.hid hw
  have HF := Lib.hid (fault_ok hd (by simpa using hl))
  have hp := psum_le s.size 1 s hd s.size
  clear hd hw
  go_enter Tryd.func17, Tryd.ntmps17
  go_wp2_with (go_at_call 25; refine (fault_any _ _ (by unfold maxLen; omega)).mono ?_; rintro e w' ⟨rfl, rfl⟩; rw [HF.out])
  go_wp2_with (go_at_call 30; refine (luhnSum_any _ _ _ (by omega) (by omega) (by omega) HD.out HW.out).mono ?_; rintro e w' ⟨rfl, n, rfl⟩)
  go_ret2
  exact ⟨ret_two (by unfold luhnOf; show _ = ((_ : Nat) : Int); omega), n, rfl⟩

theorem toList_of_size {s : ByteArray} (h : 0 < s.size) : s.toList.isEmpty = false := by
  rw [ByteArray.toList_eq]
  have : s.data.toList.length = s.size := Array.length_toList
  cases hl : s.data.toList with
  | nil => rw [hl] at this; simp at this; omega
  | cons _ _ => rfl

set_option maxHeartbeats 400000 in
theorem valid_any (s : ByteArray) (w : World) (hs : s.size ≤ maxLen) (hw : Wts w) :
    Calls Tryd.prog 19 #[.string s] w fun e w' => e = .returned (.bool (validB s)) ∧ ∃ n, w' = w.drewN n := by
  have HW := Lib.hid hw
  clear hw
  by_cases h0 : s.size = 0
  · have e1 : s.toList.isEmpty = true := by
      rw [ByteArray.toList_eq, List.isEmpty_iff_length_eq_zero]; exact Array.length_toList.trans h0
    have HB := Lib.hid (show validB s = false by unfold validB; rw [decide_eq_false (by omega)]; simp)
    clear h0
    go_enter Tryd.func19, Tryd.ntmps19
    go_wp2
    go_ret
    exact ⟨by rw [HB.out]; rfl, 0, rfl⟩
  · have e1 := toList_of_size (s := s) (by omega)
    by_cases hf : faultOf s.data.toList = 0
    · obtain ⟨hd, hl⟩ := fault_zero hf
      have hl' : s.size ≤ 999 := by rw [Array.length_toList] at hl; exact hl
      have HD := Lib.hid hd
      have HF := Lib.hid hf
      have hp := psum_le s.size 0 s hd s.size
      have HB := Lib.hid (show validB s = ((psum s.size 0 s s.size : Int) % 10 == 0) by
        unfold validB; rw [decide_eq_true (show 0 < s.size by omega), hf]; simp only [Bool.true_and, decide_true]; rw [Bool.eq_iff_iff]; simp; omega)
      clear hf hd hl h0
      go_enter Tryd.func19, Tryd.ntmps19
      go_wp2_with (first | (go_at_call 25; refine (fault_any s _ hs).mono ?_; rintro e w' ⟨rfl, rfl⟩; rw [HF.out]) | (go_at_call 30; refine (luhnSum_any s 0 _ (by omega) (by omega) (by omega) HD.out HW.out).mono ?_; rintro e w' ⟨rfl, n, rfl⟩))
      go_ret
      exact ⟨by rw [HB.out]; rfl, _, rfl⟩
    · have hf' : (faultOf s.data.toList == 0) = false := by simpa using hf
      have HB := Lib.hid (show validB s = false by unfold validB; rw [decide_eq_false hf]; simp)
      clear hf h0
      go_enter Tryd.func19, Tryd.ntmps19
      go_wp2_with (go_at_call 25; refine (fault_any s _ hs).mono ?_; rintro e w' ⟨rfl, rfl⟩)
      go_ret
      exact ⟨by rw [HB.out]; rfl, 0, rfl⟩

set_option maxHeartbeats 400000 in
theorem rvalid_any (s : ByteArray) (w : World) (hs : s.size ≤ maxLen) :
    Calls Tryd.prog 20 #[.string s] w fun e w' => e = .returned (.bool (validB s)) ∧ w = w' := by
  by_cases hf : faultOf s.data.toList = 0
  · obtain ⟨hd, hl⟩ := fault_zero hf
    have hl' : s.size ≤ 999 := by rw [Array.length_toList] at hl; exact hl
    have HD := Lib.hid hd
    have HF := Lib.hid hf
    have hp := psum_le s.size 0 s hd s.size
    by_cases h0 : s.size = 0
    · have h00 : ¬ (0 : Int) < s.size := by omega
      have h01 : decide (0 < s.size) = false := decide_eq_false (by omega)
      have HB := Lib.hid (show validB s = false by unfold validB; rw [h01]; simp)
      clear hf hd hl h0
      go_enter Tryd.func20, Tryd.ntmps20
      go_wp2_with (first | (go_at_call 29; refine (texts_any s _ hs).mono ?_; rintro e w' ⟨rfl, rfl⟩; rw [HF.out]))
      go_ret
      exact ⟨by rw [HB.out]; rfl, rfl⟩
    · have h00 : (0 : Int) < s.size := by omega
      have h01 : decide (0 < s.size) = true := decide_eq_true (by omega)
      have HB := Lib.hid (show validB s = ((psum s.size 0 s s.size : Int) % 10 == 0) by
        unfold validB; rw [h01, hf]; simp only [Bool.true_and, decide_true]; rw [Bool.eq_iff_iff]; simp; omega)
      clear hf hd hl h0
      go_enter Tryd.func20, Tryd.ntmps20
      go_wp2_with (first | (go_at_call 29; refine (texts_any s _ hs).mono ?_; rintro e w' ⟨rfl, rfl⟩; rw [HF.out]) | (go_at_call 31; refine (sum_any s _ (by omega) HD.out).mono ?_; rintro e w' ⟨rfl, rfl⟩))
      go_ret
      exact ⟨by rw [HB.out]; rfl, rfl⟩
  · have hf' : (faultOf s.data.toList == 0) = false := by simpa using hf
    have HB := Lib.hid (show validB s = false by unfold validB; rw [decide_eq_false hf]; simp)
    clear hf
    go_enter Tryd.func20, Tryd.ntmps20
    go_wp2_with (go_at_call 29; refine (texts_any s _ hs).mono ?_; rintro e w' ⟨rfl, rfl⟩)
    go_ret
    exact ⟨by rw [HB.out]; rfl, rfl⟩
end Go.Proofs.YtglajdedalikdaaDoor
