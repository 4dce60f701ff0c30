/- Contracts of package digits: the digit texts, Luhn, Valid. -/
import Derived.Test.YtglajdedalikdaaDoorBase
namespace Go.Proofs.YtglajdedalikdaaDoor
open Go.RowKit

theorem value_any (c : Int) (w : World) (h0 : 48 ≤ c) (h1 : c ≤ 57) :
    Calls Tryd.prog 27 #[.int .u8 c] w fun e w' => e = .returned (.int .u8 (c - 48)) ∧ w = w' := by
  go_enter Tryd.func27, Tryd.ntmps27
  go_wp2
  go_ret
  exact ⟨rfl, rfl⟩

def isDig (c : UInt8) : Bool := 48 ≤ c.toNat && c.toNat ≤ 57

def faultOf (l : List UInt8) : Int := if l.all isDig then (if 999 < l.length then 2 else 0) else 4

theorem take_snoc (s : ByteArray) (k : Nat) (h : k < s.size) : s.data.toList.take (k + 1) = s.data.toList.take k ++ [s[k]] := by
  rw [List.take_succ_eq_append_getElem (by simpa using h)]; rfl

theorem all_snoc (s : ByteArray) (k : Nat) (h : k < s.size) (ha : (s.data.toList.take k).all isDig = true) (hd : isDig s[k] = true) : (s.data.toList.take (k+1)).all isDig = true := by
  rw [take_snoc s k h, List.all_append, ha]; simp [hd]

theorem all_bad (s : ByteArray) (k : Nat) (h : k < s.size) (hd : isDig s[k] = false) : s.data.toList.all isDig = false := by
  rw [List.all_eq_false]
  exact ⟨s[k], Array.mem_toList_iff.2 (Array.getElem_mem h), by simp [hd]⟩

set_option maxHeartbeats 400000 in
theorem fault_any (s : ByteArray) (w : World) (hs : s.size ≤ maxLen) :
    Calls Tryd.prog 25 #[.string s] w fun e w' => e = .returned (.int .i64 (faultOf s.data.toList)) ∧ w = w' := by
  unfold maxLen at hs
  go_enter Tryd.func25, Tryd.ntmps25
  go_wp2
  go_loop [6] (fun i => ∃ k : Nat, k ≤ s.size ∧ i = .int .i64 k ∧ (s.data.toList.take k).all isDig = true) (fun i => s.size - (intOf i).toNat)
  case atStart => exact ⟨0, Nat.zero_le _, rfl, rfl⟩
  case round =>
    obtain ⟨k, hk, rfl, ha⟩ := hrel
    by_cases hlt : k < s.size
    · by_cases h1 : (s[k].toNat : Int) < 48
      · have HB := Lib.hid (all_bad s k hlt (by unfold isDig; simp; omega))
        go_wp2
        go_ret
        exact ⟨ret_int (by unfold faultOf; rw [HB.out]; rfl), rfl⟩
      · by_cases h2 : (57 : Int) < s[k].toNat
        · have HB := Lib.hid (all_bad s k hlt (by unfold isDig; simp; omega))
          go_wp2
          go_ret
          exact ⟨ret_int (by unfold faultOf; rw [HB.out]; rfl), rfl⟩
        · have HB := Lib.hid (all_snoc s k hlt ha (by unfold isDig; simp; omega))
          clear ha
          go_wp2
          go_round
          case rel => exact ⟨k + 1, by omega, by go_num, HB.out⟩
          case measure => simp [intOf]; omega
    · have e : k = s.size := by omega
      subst e
      have HA := Lib.hid ha
      clear ha
      by_cases hl : 999 < s.size
      all_goals
        go_wp2
        go_ret
        refine ⟨ret_int ?_, rfl⟩
        have h := HA.out
        rw [List.take_of_length_le (by simp)] at h
        unfold faultOf
        rw [h]
        simp [hl]

def wtab (i : Nat) : Int := if i < 10 then i else if 2 * (i - 10) ≤ 9 then 2 * (i - 10 : Nat) else 2 * (i - 10 : Nat) - 9

def Wts (w : World) : Prop := ∀ i, i < 20 → w.cell? ⟨0, i, none⟩ = some (.int .i64 (wtab i))

/-- the digit at k -/
def dg (s : ByteArray) (k : Nat) : Nat := (s.data.toList.getD k 48).toNat - 48

/-- the weight of digit d at a position -/
def wt (pos d : Nat) : Nat := if pos % 2 = 0 then d else if 2 * d ≤ 9 then 2 * d else 2 * d - 9

def psum (N f : Nat) (s : ByteArray) : Nat → Nat
  | 0 => 0
  | k + 1 => psum N f s k + wt (N - 1 - k + f) (dg s k)

theorem wt_odd (p d : Nat) (h : p % 2 = 1) : wt p d = wt 1 d := by unfold wt; simp only [h, if_neg (show ¬ (1 = 0) by decide)]

theorem wt_even (p d : Nat) (h : p % 2 = 0) : wt p d = d := by unfold wt; rw [if_pos h]

theorem wtab_lo (d : Nat) (h : d < 10) : wtab d = (d : Int) := by unfold wtab; rw [if_pos h]

theorem wtab_hi (d : Nat) (_h : d < 10) : wtab (10 + d) = (wt 1 d : Nat) := by
  unfold wtab wt; rw [if_neg (by omega), if_neg (show ¬ (1 % 2 = 0) by decide), Nat.add_sub_cancel_left]; split <;> omega

theorem wt_le (p d : Nat) (h : d ≤ 9) : wt p d ≤ 9 := by unfold wt; split; omega; split <;> omega

theorem dig_at (s : ByteArray) (k : Nat) (h : k < s.size) (hd : s.data.toList.all isDig = true) : 48 ≤ s[k].toNat ∧ s[k].toNat ≤ 57 := by
  have h1 := List.all_eq_true.1 hd s[k] (Array.mem_toList_iff.2 (Array.getElem_mem h))
  unfold isDig at h1; simpa using h1

theorem dg_eq (s : ByteArray) (k : Nat) (h : k < s.size) : dg s k = s[k].toNat - 48 := by
  unfold dg
  rw [List.getD_eq_getElem?_getD, List.getElem?_eq_getElem (by simpa using h)]
  rfl

theorem dg_le (s : ByteArray) (k : Nat) (hd : s.data.toList.all isDig = true) : dg s k ≤ 9 := by
  by_cases h : k < s.size
  · have := dig_at s k h hd; rw [dg_eq s k h]; omega
  · unfold dg; rw [List.getD_eq_getElem?_getD, List.getElem?_eq_none (by rw [Array.length_toList]; exact Nat.le_of_not_lt h)]; decide

theorem psum_le (N f : Nat) (s : ByteArray) (hd : s.data.toList.all isDig = true) (k : Nat) : psum N f s k ≤ 9 * k := by
  induction k with
  | zero => simp [psum]
  | succ k ih => have := wt_le (N - 1 - k + f) (dg s k) (dg_le s k hd); simp only [psum]; omega

theorem fin1 {a b c : Nat} {x y : Int} (h : a = b + c) (hx : x = b + y) (hy : y = c) : Value.int .i64 x = .int .i64 (a : Int) := by rw [hx, hy, h]; norm_cast

set_option maxHeartbeats 800000 in
theorem luhnSum_any (s : ByteArray) (f : Int) (w : World) (hs : s.size ≤ 1000) (hf : 0 ≤ f) (hf' : f ≤ 1) (hd : s.data.toList.all isDig = true) (hw : Wts w) :
    Calls Tryd.prog 30 #[.string s, .int .i64 f] w fun e w' => e = .returned (.int .i64 (psum s.size f.toNat s s.size)) ∧ ∃ n, w' = w.drewN n := by
  have HD := Lib.hid hd
  have HW := Lib.hid hw
  clear hd hw
  go_enter Tryd.func30, Tryd.ntmps30
  go_wp2
  go_loopw [5, 10] (fun t i wr => ∃ k : Nat, k ≤ s.size ∧ i = .int .i64 k ∧ t = .int .i64 (psum s.size f.toNat s k) ∧ ∃ n, wr = w.drewN n) (fun _ i _ => s.size - (intOf i).toNat)
  case atStart => exact ⟨0, Nat.zero_le _, rfl, rfl, 0, rfl⟩
  case round =>
    obtain ⟨k, hk, rfl, rfl, hn⟩ := hrel
    have HN := Lib.hid hn
    clear hn
    by_cases hlt : k < s.size
    · obtain ⟨hb1, hb2⟩ := dig_at s k hlt HD.out
      have hps := psum_le s.size f.toNat s HD.out k
      obtain ⟨d, e0, hd9⟩ : ∃ d : Nat, (s[k].toNat : Int) - 48 = d ∧ d < 10 := ⟨s[k].toNat - 48, by omega, by omega⟩
      have e0' : s[k].toNat - 48 = d := by omega
      have HS := Lib.hid (show psum s.size f.toNat s (k+1) = psum s.size f.toNat s k + wt (s.size - 1 - k + f.toNat) d by rw [← e0', ← dg_eq s k hlt]; rfl)
      clear e0'
      have hd9' : (d : Int) < 10 := by omega
      rcases (show ((s.size : Int) - 1 - k + f) % 2 = 0 ∨ ((s.size : Int) - 1 - k + f) % 2 = 1 by omega) with h | h
      · have e1 : ((s.size : Int) - 1 - k + f).tmod 2 = 0 := by rw [Int.tmod_eq_emod_of_nonneg (by omega)]; exact h
        have HT := Lib.hid (show wt (s.size - 1 - k + f.toNat) d = d from wt_even _ _ (by omega))
        have hc : wr.cell? ⟨0, d, none⟩ = some (.int .i64 d) := by
          obtain ⟨n, hn⟩ := HN.out
          rw [hn]
          exact (HW.out d (by omega)).trans (by rw [wtab_lo d hd9])
        clear h
        go_wp2
        go_quiet ((go_at_call 27; exact Calls.quiet_of_same ((value_any _ _ (by omega) (by omega)).mono fun _ _ h => ⟨h.1, h.2.symm⟩)))
        go_wp2
        go_roundw
        case rel => exact ⟨k + 1, by omega, by go_num, fin1 HS.out rfl (by rw [HT.out]), drawn_more HN.out nq⟩
        case measure => simp [intOf]; omega
      · have e1 : ((s.size : Int) - 1 - k + f).tmod 2 = 1 := by rw [Int.tmod_eq_emod_of_nonneg (by omega)]; exact h
        have hc : wr.cell? ⟨0, 10 + d, none⟩ = some (.int .i64 (wt 1 d)) := by
          obtain ⟨n, hn⟩ := HN.out
          rw [hn]
          exact (HW.out (10 + d) (by omega)).trans (by rw [wtab_hi d hd9])
        have HT := Lib.hid (show wt (s.size - 1 - k + f.toNat) d = wt 1 d from wt_odd _ _ (by omega))
        have hwl := wt_le 1 d (by omega)
        clear h
        go_wp2
        go_quiet ((go_at_call 27; exact Calls.quiet_of_same ((value_any _ _ (by omega) (by omega)).mono fun _ _ h => ⟨h.1, h.2.symm⟩)))
        go_wp2
        go_roundw
        case rel => exact ⟨k + 1, by omega, by go_num, fin1 HS.out rfl (by rw [HT.out]), drawn_more HN.out nq⟩
        case measure => simp [intOf]; omega
    · have e : k = s.size := by omega
      subst e
      go_wp2
      go_ret
      exact ⟨rfl, HN.out⟩

def luhnOf (s : ByteArray) : Int := ((10 - (psum s.size 1 s s.size) % 10) % 10 : Nat)

def validB (s : ByteArray) : Bool := decide (0 < s.size) && (decide (faultOf s.data.toList = 0) && decide (psum s.size 0 s s.size % 10 = 0))

theorem fault_zero {l : List UInt8} (h : faultOf l = 0) : l.all isDig = true ∧ l.length ≤ 999 := by
  unfold faultOf at h
  by_cases h1 : l.all isDig = true
  · rw [if_pos h1] at h
    by_cases h2 : 999 < l.length
    · rw [if_pos h2] at h; omega
    · exact ⟨h1, by omega⟩
  · rw [if_neg h1] at h; omega

theorem fault_ok {l : List UInt8} (h : l.all isDig = true) (h2 : l.length ≤ 999) : faultOf l = 0 := by
  unfold faultOf; rw [if_pos h, if_neg (by omega)]

set_option maxHeartbeats 400000 in
theorem luhn_bad (s : ByteArray) (w : World) (hs : s.size ≤ maxLen) (hb : ¬ faultOf s.data.toList = 0) :
    Calls Tryd.prog 17 #[.string s] w fun e w' => e = .returned (.tuple #[.int .i64 0, .int .i64 (faultOf s.data.toList)]) ∧ w = w' := by
  have hb' : (faultOf s.data.toList != 0) = true := by simpa using hb
  go_enter Tryd.func17, Tryd.ntmps17
  go_wp2_with (go_at_call 25; refine (fault_any _ _ hs).mono ?_; rintro e w' ⟨rfl, rfl⟩)
  go_ret2
  exact ⟨rfl, rfl⟩

set_option maxHeartbeats 400000 in
theorem luhn_ok (s : ByteArray) (w : World) (hd : s.data.toList.all isDig = true) (hl : s.size ≤ 999) (hw : Wts w) :
    Calls Tryd.prog 17 #[.string s] w fun e w' => e = .returned (.tuple #[.int .i64 (luhnOf s), .int .i64 0]) ∧ ∃ n, w' = w.drewN n := by
  have HD := Lib.hid hd
  have HW := Lib.hid hw
  have HF := Lib.hid (fault_ok hd (by simpa using hl))
  have hp := psum_le s.size 1 s hd s.size
  clear hd hw
  go_enter Tryd.func17, Tryd.ntmps17
  go_wp2_with (go_at_call 25; refine (fault_any _ _ (by unfold maxLen; omega)).mono ?_; rintro e w' ⟨rfl, rfl⟩; rw [HF.out])
  go_wp2_with (go_at_call 30; refine (luhnSum_any _ _ _ (by omega) (by omega) (by omega) HD.out HW.out).mono ?_; rintro e w' ⟨rfl, n, rfl⟩)
  go_ret2
  exact ⟨ret_two (by unfold luhnOf; show _ = ((_ : Nat) : Int); omega), n, rfl⟩

set_option maxHeartbeats 400000 in
theorem valid_any (s : ByteArray) (w : World) (hs : s.size ≤ maxLen) (hw : Wts w) :
    Calls Tryd.prog 19 #[.string s] w fun e w' => e = .returned (.bool (validB s)) ∧ ∃ n, w' = w.drewN n := by
  have HW := Lib.hid hw
  clear hw
  by_cases h0 : s.size = 0
  · have e1 : s.toList.isEmpty = true := by
      rw [ByteArray.toList_eq, List.isEmpty_iff_length_eq_zero]; exact Array.length_toList.trans h0
    have HB := Lib.hid (show validB s = false by unfold validB; rw [decide_eq_false (by omega)]; simp)
    clear h0
    go_enter Tryd.func19, Tryd.ntmps19
    go_wp2
    go_ret
    exact ⟨by rw [HB.out]; rfl, 0, rfl⟩
  · have e1 := toList_of_size (s := s) (by omega)
    by_cases hf : faultOf s.data.toList = 0
    · obtain ⟨hd, hl⟩ := fault_zero hf
      have hl' : s.size ≤ 999 := by rw [Array.length_toList] at hl; exact hl
      have HD := Lib.hid hd
      have HF := Lib.hid hf
      have hp := psum_le s.size 0 s hd s.size
      have HB := Lib.hid (show validB s = ((psum s.size 0 s s.size : Int) % 10 == 0) by
        unfold validB; rw [decide_eq_true (show 0 < s.size by omega), hf]; simp only [Bool.true_and, decide_true]; rw [Bool.eq_iff_iff]; simp; omega)
      clear hf hd hl h0
      go_enter Tryd.func19, Tryd.ntmps19
      go_wp2_with (first | (go_at_call 25; refine (fault_any s _ hs).mono ?_; rintro e w' ⟨rfl, rfl⟩; rw [HF.out]) | (go_at_call 30; refine (luhnSum_any s 0 _ (by omega) (by omega) (by omega) HD.out HW.out).mono ?_; rintro e w' ⟨rfl, n, rfl⟩))
      go_ret
      exact ⟨by rw [HB.out]; rfl, _, rfl⟩
    · have hf' : (faultOf s.data.toList == 0) = false := by simpa using hf
      have HB := Lib.hid (show validB s = false by unfold validB; rw [decide_eq_false hf]; simp)
      clear hf h0
      go_enter Tryd.func19, Tryd.ntmps19
      go_wp2_with (go_at_call 25; refine (fault_any s _ hs).mono ?_; rintro e w' ⟨rfl, rfl⟩)
      go_ret
      exact ⟨by rw [HB.out]; rfl, 0, rfl⟩
end Go.Proofs.YtglajdedalikdaaDoor
