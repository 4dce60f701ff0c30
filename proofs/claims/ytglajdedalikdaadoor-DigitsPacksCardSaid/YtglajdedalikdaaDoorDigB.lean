/- What a digit behind a text does to its sum; Number. -/
import Derived.Test.YtglajdedalikdaaDoorDigA
namespace Go.Proofs.YtglajdedalikdaaDoor
open Go.RowKit

def snoc (s : ByteArray) (c : UInt8) : ByteArray := s ++ ⟨#[c]⟩

theorem snoc_list (s : ByteArray) (c : UInt8) : (snoc s c).data.toList = s.data.toList ++ [c] := by
  unfold snoc; simp [ByteArray.data_append]

theorem snoc_size (s : ByteArray) (c : UInt8) : (snoc s c).size = s.size + 1 := by
  unfold snoc; rw [ByteArray.size_append]; rfl

theorem dg_snoc_lt (s : ByteArray) (c : UInt8) (k : Nat) (h : k < s.size) : dg (snoc s c) k = dg s k := by
  unfold dg; rw [snoc_list, List.getD_eq_getElem?_getD, List.getElem?_append_left (by rw [Array.length_toList]; exact h), List.getD_eq_getElem?_getD]

theorem dg_snoc_eq (s : ByteArray) (c : UInt8) : dg (snoc s c) s.size = c.toNat - 48 := by
  unfold dg; rw [snoc_list, List.getD_eq_getElem?_getD, List.getElem?_append_right (by rw [Array.length_toList]; exact Nat.le_refl _)]
  rw [Array.length_toList, show s.size - s.data.size = 0 from Nat.sub_self _]; rfl

theorem psum_snoc (s : ByteArray) (c : UInt8) (k : Nat) (h : k ≤ s.size) : psum (s.size + 1) 0 (snoc s c) k = psum s.size 1 s k := by
  induction k with
  | zero => rfl
  | succ k ih =>
    simp only [psum]
    rw [ih (by omega), dg_snoc_lt s c k (by omega)]
    congr 2
    omega

theorem psum_snoc_all (s : ByteArray) (c : UInt8) : psum (snoc s c).size 0 (snoc s c) (snoc s c).size = psum s.size 1 s s.size + (c.toNat - 48) := by
  rw [snoc_size]
  show psum (s.size + 1) 0 (snoc s c) s.size + _ = _
  rw [psum_snoc s c s.size (Nat.le_refl _), dg_snoc_eq]
  unfold wt; rw [if_pos (by omega)]

theorem oct_snoc (s : ByteArray) (d : Nat) (hd : s.data.toList.all isDig = true) (h : d < 10) : (snoc s (chr (48 + d))).data.toList.all isDig = true := by
  rw [snoc_list, List.all_append, hd]
  have : (chr (48 + d)).toNat = 48 + d := chr_toNat _ (by omega)
  simp [isDig]; omega

/-- the number that the first k digits tell -/
def acc (s : ByteArray) : Nat → Nat
  | 0 => 0
  | k + 1 => 10 * acc s k + dg s k

theorem acc_step (s : ByteArray) (k : Nat) : acc s k ≤ acc s (k + 1) := by simp only [acc]; omega

theorem acc_mono (s : ByteArray) (a b : Nat) (h : a ≤ b) : acc s a ≤ acc s b := by
  induction b with
  | zero => obtain rfl : a = 0 := by omega
            exact Nat.le_refl _
  | succ b ih =>
    rcases Nat.lt_or_ge a (b + 1) with h' | h'
    · exact Nat.le_trans (ih (by omega)) (acc_step s b)
    · obtain rfl : a = b + 1 := by omega
      exact Nat.le_refl _

def numE (s : ByteArray) : Int := if faultOf s.data.toList ≠ 0 then faultOf s.data.toList else if s.size = 0 then 3 else if 9223372036854775807 < acc s s.size then 5 else 0

def numV (s : ByteArray) : Int := if numE s = 0 then acc s s.size else 0

set_option maxHeartbeats 800000 in
theorem number_any (s : ByteArray) (w : World) (hs : s.size ≤ maxLen) :
    Calls Tryd.prog 21 #[.string s] w fun e w' => e = .returned (.tuple #[.int .i64 (numV s), .int .i64 (numE s)]) ∧ ∃ n, w' = w.drewN n := by
  by_cases hf : faultOf s.data.toList = 0
  · obtain ⟨hd, hl⟩ := fault_zero hf
    have hl' : s.size ≤ 999 := by rw [Array.length_toList] at hl; exact hl
    have HD := Lib.hid hd
    have HF := Lib.hid hf
    clear hf hd hl
    by_cases h0 : s.size = 0
    · have e1 : s.toList = [] := by
        rw [ByteArray.toList_eq]; exact List.eq_nil_of_length_eq_zero (Array.length_toList.trans h0)
      have HB := Lib.hid (show numE s = 3 by unfold numE; rw [if_neg (by rw [HF.out]; decide), if_pos h0])
      have HV := Lib.hid (show numV s = 0 by unfold numV; rw [HB.out]; rfl)
      clear h0
      go_enter Tryd.func21, Tryd.ntmps21
      go_wp2_with (go_at_call 25; refine (fault_any s _ hs).mono ?_; rintro e w' ⟨rfl, rfl⟩; rw [HF.out])
      go_ret2
      exact ⟨by rw [HB.out, HV.out]; rfl, 0, rfl⟩
    · have e1 := toList_of_size (s := s) (by omega)
      have e2 : ¬ s.toList = [] := by intro h; rw [h] at e1; cases e1
      go_enter Tryd.func21, Tryd.ntmps21
      go_wp2_with (go_at_call 25; refine (fault_any s _ hs).mono ?_; rintro e w' ⟨rfl, rfl⟩; rw [HF.out])
      go_loopw [5, 17] (fun t i wr => ∃ k : Nat, k ≤ s.size ∧ i = .int .i64 k ∧ t = .int .i64 (acc s k) ∧ acc s k ≤ 9223372036854775807 ∧ ∃ n, wr = w.drewN n) (fun _ i _ => s.size - (intOf i).toNat)
      case atStart => exact ⟨0, Nat.zero_le _, rfl, rfl, by simp [acc], 0, rfl⟩
      case round =>
        obtain ⟨k, hk, rfl, rfl, hle, hn⟩ := hrel
        have HN := Lib.hid hn
        clear hn
        by_cases hlt : k < s.size
        · obtain ⟨hb1, hb2⟩ := dig_at s k hlt HD.out
          obtain ⟨d, e0, hd9⟩ : ∃ d : Nat, (s[k].toNat : Int) - 48 = d ∧ d < 10 := ⟨s[k].toNat - 48, by omega, by omega⟩
          have HS := Lib.hid (show acc s (k + 1) = 10 * acc s k + d by simp only [acc]; rw [dg_eq s k hlt]; omega)
          generalize hq : acc s k = q at *
          have HQ := Lib.hid hq
          clear hq
          by_cases hbig : 9223372036854775807 < 10 * q + d
          · have ht : ((9223372036854775807 : Int) - d) / 10 < q := by omega
            have ht2 : (0 : Int) ≤ 9223372036854775807 - d := by omega
            have HB := Lib.hid (show numE s = 5 by
              unfold numE; rw [if_neg (by rw [HF.out]; decide), if_neg h0, if_pos (by have := acc_mono s (k + 1) s.size (by omega); have := HS.out; omega)])
            have HV := Lib.hid (show numV s = 0 by unfold numV; rw [HB.out]; rfl)
            clear hbig
            go_wp2_with (go_at_call 27; refine (value_any _ _ (by omega) (by omega)).mono ?_; rintro e w' ⟨rfl, rfl⟩)
            go_ret2
            exact ⟨by rw [HB.out, HV.out]; rfl, HN.out⟩
          · have ht : ¬ ((9223372036854775807 : Int) - d) / 10 < q := by omega
            have ht2 : (0 : Int) ≤ 9223372036854775807 - d := by omega
            go_wp2_with (go_at_call 27; refine (value_any _ _ (by omega) (by omega)).mono ?_; rintro e w' ⟨rfl, rfl⟩)
            go_roundw
            case rel => exact ⟨k + 1, by omega, by go_num, by rw [HS.out]; go_num, by rw [HS.out]; omega, HN.out⟩
            case measure => simp [intOf]; omega
        · obtain rfl : k = s.size := by omega
          have HB := Lib.hid (show numE s = 0 by unfold numE; rw [if_neg (by rw [HF.out]; decide), if_neg h0, if_neg (by omega)])
          have HV := Lib.hid (show numV s = acc s s.size by unfold numV; rw [if_pos HB.out])
          go_wp2_with fail
          go_ret2
          exact ⟨by rw [HB.out, HV.out]; rfl, HN.out⟩
  · have hf' : (faultOf s.data.toList != 0) = true := by simpa using hf
    have HB := Lib.hid (show numE s = faultOf s.data.toList by unfold numE; rw [if_pos hf])
    have HV := Lib.hid (show numV s = 0 by unfold numV; rw [HB.out, if_neg hf])
    clear hf
    go_enter Tryd.func21, Tryd.ntmps21
    go_wp2_with (go_at_call 25; refine (fault_any s _ hs).mono ?_; rintro e w' ⟨rfl, rfl⟩)
    go_ret2
    exact ⟨by rw [HB.out, HV.out]; rfl, 0, rfl⟩
end Go.Proofs.YtglajdedalikdaaDoor
