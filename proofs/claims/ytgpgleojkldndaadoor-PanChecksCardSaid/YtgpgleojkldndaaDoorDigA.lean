/- Contracts of package digits: Luhn, Valid. -/
import Derived.Test.YtgpgleojkldndaaDoorDig0
namespace Go.Proofs.YtgpgleojkldndaaDoor
open Go.RowKit

def wtab (i : Nat) : Int := if i < 10 then i else if 2 * (i - 10) ≤ 9 then 2 * (i - 10 : Nat) else 2 * (i - 10 : Nat) - 9

def Wts (w : World) : Prop := ∀ i, i < 20 → w.cell? ⟨0, i, none⟩ = some (.int .i64 (wtab i))

/-- the weight of digit d at a position -/
def wt (pos d : Nat) : Nat := if pos % 2 = 0 then d else if 2 * d ≤ 9 then 2 * d else 2 * d - 9

def psum (N f : Nat) (s : ByteArray) : Nat → Nat
  | 0 => 0
  | k + 1 => psum N f s k + wt (N - 1 - k + f) (dg s k)

theorem wt_odd (p d : Nat) (h : p % 2 = 1) : wt p d = wt 1 d := by unfold wt; simp only [h, if_neg (show ¬ (1 = 0) by decide)]

theorem wt_even (p d : Nat) (h : p % 2 = 0) : wt p d = d := by unfold wt; rw [if_pos h]

theorem wtab_lo (d : Nat) (h : d < 10) : wtab d = (d : Int) := by unfold wtab; rw [if_pos h]

theorem wtab_hi (d : Nat) (_h : d < 10) : wtab (10 + d) = (wt 1 d : Nat) := by
  unfold wtab wt; rw [if_neg (by omega), if_neg (show ¬ (1 % 2 = 0) by decide), Nat.add_sub_cancel_left]; split <;> omega

theorem wt_le (p d : Nat) (h : d ≤ 9) : wt p d ≤ 9 := by unfold wt; split; omega; split <;> omega

theorem psum_le (N f : Nat) (s : ByteArray) (hd : s.data.toList.all isDig = true) (k : Nat) : psum N f s k ≤ 9 * k := by
  induction k with
  | zero => simp [psum]
  | succ k ih => have := wt_le (N - 1 - k + f) (dg s k) (dg_le s k hd); simp only [psum]; omega

set_option maxHeartbeats 800000 in
theorem luhnSum_any (s : ByteArray) (f : Int) (w : World) (hs : s.size ≤ 1000) (hf : 0 ≤ f) (hf' : f ≤ 1) (hd : s.data.toList.all isDig = true) (hw : Wts w) :
    Calls Tryd.prog 38 #[.string s, .int .i64 f] w fun e w' => e = .returned (.int .i64 (psum s.size f.toNat s s.size)) ∧ ∃ n, w' = w.drewN n := by
  have HD := Lib.hid hd
  have HW := Lib.hid hw
  clear hd hw
  go_enter Tryd.func38, Tryd.ntmps38
  go_wp2
  go_loopw [5, 10] (fun t i wr => ∃ k : Nat, k ≤ s.size ∧ i = .int .i64 k ∧ t = .int .i64 (psum s.size f.toNat s k) ∧ ∃ n, wr = w.drewN n) (fun _ i _ => s.size - (intOf i).toNat)
  case atStart => exact ⟨0, Nat.zero_le _, rfl, rfl, 0, rfl⟩
  case round =>
    obtain ⟨k, hk, rfl, rfl, hn⟩ := hrel
    have HN := Lib.hid hn
    clear hn
    by_cases hlt : k < s.size
    · obtain ⟨hb1, hb2⟩ := dig_at s k hlt HD.out
      have hps := psum_le s.size f.toNat s HD.out k
      obtain ⟨d, e0, hd9⟩ : ∃ d : Nat, (s[k].toNat : Int) - 48 = d ∧ d < 10 := ⟨s[k].toNat - 48, by omega, by omega⟩
      have e0' : s[k].toNat - 48 = d := by omega
      have HS := Lib.hid (show psum s.size f.toNat s (k+1) = psum s.size f.toNat s k + wt (s.size - 1 - k + f.toNat) d by rw [← e0', ← dg_eq s k hlt]; rfl)
      clear e0'
      have hd9' : (d : Int) < 10 := by omega
      rcases (show ((s.size : Int) - 1 - k + f) % 2 = 0 ∨ ((s.size : Int) - 1 - k + f) % 2 = 1 by omega) with h | h
      · have e1 : ((s.size : Int) - 1 - k + f).tmod 2 = 0 := by rw [Int.tmod_eq_emod_of_nonneg (by omega)]; exact h
        have HT := Lib.hid (show wt (s.size - 1 - k + f.toNat) d = d from wt_even _ _ (by omega))
        have hc : wr.cell? ⟨0, d, none⟩ = some (.int .i64 d) := by
          obtain ⟨n, hn⟩ := HN.out
          rw [hn]
          exact (HW.out d (by omega)).trans (by rw [wtab_lo d hd9])
        clear h
        go_wp2
        go_quiet ((go_at_call 50; exact Calls.quiet_of_same ((value_any _ _ (by omega) (by omega)).mono fun _ _ h => ⟨h.1, h.2.symm⟩)))
        go_wp2
        go_roundw
        case rel => exact ⟨k + 1, by omega, by go_num, fin1 HS.out rfl (by rw [HT.out]), drawn_more HN.out nq⟩
        case measure => simp [intOf]; omega
      · have e1 : ((s.size : Int) - 1 - k + f).tmod 2 = 1 := by rw [Int.tmod_eq_emod_of_nonneg (by omega)]; exact h
        have hc : wr.cell? ⟨0, 10 + d, none⟩ = some (.int .i64 (wt 1 d)) := by
          obtain ⟨n, hn⟩ := HN.out
          rw [hn]
          exact (HW.out (10 + d) (by omega)).trans (by rw [wtab_hi d hd9])
        have HT := Lib.hid (show wt (s.size - 1 - k + f.toNat) d = wt 1 d from wt_odd _ _ (by omega))
        have hwl := wt_le 1 d (by omega)
        clear h
        go_wp2
        go_quiet ((go_at_call 50; exact Calls.quiet_of_same ((value_any _ _ (by omega) (by omega)).mono fun _ _ h => ⟨h.1, h.2.symm⟩)))
        go_wp2
        go_roundw
        case rel => exact ⟨k + 1, by omega, by go_num, fin1 HS.out rfl (by rw [HT.out]), drawn_more HN.out nq⟩
        case measure => simp [intOf]; omega
    · have e : k = s.size := by omega
      subst e
      go_wp2
      go_ret
      exact ⟨rfl, HN.out⟩

def luhnOf (s : ByteArray) : Int := ((10 - (psum s.size 1 s s.size) % 10) % 10 : Nat)

def validB (s : ByteArray) : Bool := decide (0 < s.size) && (decide (faultOf s.data.toList = 0) && decide (psum s.size 0 s s.size % 10 = 0))

set_option maxHeartbeats 400000 in
theorem luhn_bad (s : ByteArray) (w : World) (hs : s.size ≤ maxLen) (hb : ¬ faultOf s.data.toList = 0) :
    Calls Tryd.prog 34 #[.string s] w fun e w' => e = .returned (.tuple #[.int .i64 0, .int .i64 (faultOf s.data.toList)]) ∧ w = w' := by
  have hb' : (faultOf s.data.toList != 0) = true := by simpa using hb
  go_enter Tryd.func34, Tryd.ntmps34
  go_wp2_with (go_at_call 37; refine (fault_any _ _ hs).mono ?_; rintro e w' ⟨rfl, rfl⟩)
  go_ret2
  exact ⟨rfl, rfl⟩

set_option maxHeartbeats 400000 in
theorem luhn_ok (s : ByteArray) (w : World) (hd : s.data.toList.all isDig = true) (hl : s.size ≤ 999) (hw : Wts w) :
    Calls Tryd.prog 34 #[.string s] w fun e w' => e = .returned (.tuple #[.int .i64 (luhnOf s), .int .i64 0]) ∧ ∃ n, w' = w.drewN n := by
  have HD := Lib.hid hd
  have HW := Lib.hid hw
  have HF := Lib.hid (fault_ok hd (by simpa using hl))
  have hp := psum_le s.size 1 s hd s.size
  clear hd hw
  go_enter Tryd.func34, Tryd.ntmps34
  go_wp2_with (go_at_call 37; refine (fault_any _ _ (by unfold maxLen; omega)).mono ?_; rintro e w' ⟨rfl, rfl⟩; rw [HF.out])
  go_wp2_with (go_at_call 38; refine (luhnSum_any _ _ _ (by omega) (by omega) (by omega) HD.out HW.out).mono ?_; rintro e w' ⟨rfl, n, rfl⟩)
  go_ret2
  exact ⟨ret_two (by unfold luhnOf; show _ = ((_ : Nat) : Int); omega), n, rfl⟩

set_option maxHeartbeats 400000 in
theorem valid_any (s : ByteArray) (w : World) (hs : s.size ≤ maxLen) (hw : Wts w) :
    Calls Tryd.prog 23 #[.string s] w fun e w' => e = .returned (.bool (validB s)) ∧ ∃ n, w' = w.drewN n := by
  have HW := Lib.hid hw
  clear hw
  by_cases h0 : s.size = 0
  · have e1 : s.toList.isEmpty = true := by
      rw [ByteArray.toList_eq, List.isEmpty_iff_length_eq_zero]; exact Array.length_toList.trans h0
    have HB := Lib.hid (show validB s = false by unfold validB; rw [decide_eq_false (by omega)]; simp)
    clear h0
    go_enter Tryd.func23, Tryd.ntmps23
    go_wp2
    go_ret
    exact ⟨by rw [HB.out]; rfl, 0, rfl⟩
  · have e1 := toList_of_size (s := s) (by omega)
    by_cases hf : faultOf s.data.toList = 0
    · obtain ⟨hd, hl⟩ := fault_zero hf
      have hl' : s.size ≤ 999 := by rw [Array.length_toList] at hl; exact hl
      have HD := Lib.hid hd
      have HF := Lib.hid hf
      have hp := psum_le s.size 0 s hd s.size
      have HB := Lib.hid (show validB s = ((psum s.size 0 s s.size : Int) % 10 == 0) by
        unfold validB; rw [decide_eq_true (show 0 < s.size by omega), hf]; simp only [Bool.true_and, decide_true]; rw [Bool.eq_iff_iff]; simp; omega)
      clear hf hd hl h0
      go_enter Tryd.func23, Tryd.ntmps23
      go_wp2_with (first | (go_at_call 37; refine (fault_any s _ hs).mono ?_; rintro e w' ⟨rfl, rfl⟩; rw [HF.out]) | (go_at_call 38; refine (luhnSum_any s 0 _ (by omega) (by omega) (by omega) HD.out HW.out).mono ?_; rintro e w' ⟨rfl, n, rfl⟩))
      go_ret
      exact ⟨by rw [HB.out]; rfl, _, rfl⟩
    · have hf' : (faultOf s.data.toList == 0) = false := by simpa using hf
      have HB := Lib.hid (show validB s = false by unfold validB; rw [decide_eq_false hf]; simp)
      clear hf h0
      go_enter Tryd.func23, Tryd.ntmps23
      go_wp2_with (go_at_call 37; refine (fault_any s _ hs).mono ?_; rintro e w' ⟨rfl, rfl⟩)
      go_ret
      exact ⟨by rw [HB.out]; rfl, 0, rfl⟩
end Go.Proofs.YtgpgleojkldndaaDoor
