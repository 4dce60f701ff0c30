/- Contracts of package digits: one digit, the digit texts. -/
import Derived.Test.YtcohkhjfncknpaaBase
namespace Go.Proofs.Ytcohkhjfncknpaa
open Go.RowKit

theorem value_any (c : Int) (w : World) (h0 : 48 ≤ c) (h1 : c ≤ 57) :
    Calls Try.prog 34 #[.int .u8 c] w fun e w' => e = .returned (.int .u8 (c - 48)) ∧ w = w' := by
  go_enter Try.func34, Try.ntmps34
  go_wp2
  go_ret
  exact ⟨rfl, rfl⟩

def isDig (c : UInt8) : Bool := 48 ≤ c.toNat && c.toNat ≤ 57

def faultOf (l : List UInt8) : Int := if l.all isDig then (if 999 < l.length then 2 else 0) else 4

theorem take_snoc (s : ByteArray) (k : Nat) (h : k < s.size) : s.data.toList.take (k + 1) = s.data.toList.take k ++ [s[k]] := by
  rw [List.take_succ_eq_append_getElem (by simpa using h)]; rfl

theorem all_snoc (s : ByteArray) (k : Nat) (h : k < s.size) (ha : (s.data.toList.take k).all isDig = true) (hd : isDig s[k] = true) : (s.data.toList.take (k+1)).all isDig = true := by
  rw [take_snoc s k h, List.all_append, ha]; simp [hd]

theorem all_bad (s : ByteArray) (k : Nat) (h : k < s.size) (hd : isDig s[k] = false) : s.data.toList.all isDig = false := by
  rw [List.all_eq_false]
  exact ⟨s[k], Array.mem_toList_iff.2 (Array.getElem_mem h), by simp [hd]⟩

set_option maxHeartbeats 400000 in
theorem fault_any (s : ByteArray) (w : World) (hs : s.size ≤ maxLen) :
    Calls Try.prog 33 #[.string s] w fun e w' => e = .returned (.int .i64 (faultOf s.data.toList)) ∧ w = w' := by
  unfold maxLen at hs
  go_enter Try.func33, Try.ntmps33
  go_wp2
  go_loop [6] (fun i => ∃ k : Nat, k ≤ s.size ∧ i = .int .i64 k ∧ (s.data.toList.take k).all isDig = true) (fun i => s.size - (intOf i).toNat)
  case atStart => exact ⟨0, Nat.zero_le _, rfl, rfl⟩
  case round =>
    obtain ⟨k, hk, rfl, ha⟩ := hrel
    by_cases hlt : k < s.size
    · by_cases h1 : (s[k].toNat : Int) < 48
      · have HB := Lib.hid (all_bad s k hlt (by unfold isDig; simp; omega))
        go_wp2
        go_ret
        exact ⟨ret_int (by unfold faultOf; rw [HB.out]; rfl), rfl⟩
      · by_cases h2 : (57 : Int) < s[k].toNat
        · have HB := Lib.hid (all_bad s k hlt (by unfold isDig; simp; omega))
          go_wp2
          go_ret
          exact ⟨ret_int (by unfold faultOf; rw [HB.out]; rfl), rfl⟩
        · have HB := Lib.hid (all_snoc s k hlt ha (by unfold isDig; simp; omega))
          clear ha
          go_wp2
          go_round
          case rel => exact ⟨k + 1, by omega, by go_num, HB.out⟩
          case measure => simp [intOf]; omega
    · have e : k = s.size := by omega
      subst e
      have HA := Lib.hid ha
      clear ha
      by_cases hl : 999 < s.size
      all_goals
        go_wp2
        go_ret
        refine ⟨ret_int ?_, rfl⟩
        have h := HA.out
        rw [List.take_of_length_le (by simp)] at h
        unfold faultOf
        rw [h]
        simp [hl]

/-- the digit at k -/
def dg (s : ByteArray) (k : Nat) : Nat := (s.data.toList.getD k 48).toNat - 48

theorem dig_at (s : ByteArray) (k : Nat) (h : k < s.size) (hd : s.data.toList.all isDig = true) : 48 ≤ s[k].toNat ∧ s[k].toNat ≤ 57 := by
  have h1 := List.all_eq_true.1 hd s[k] (Array.mem_toList_iff.2 (Array.getElem_mem h))
  unfold isDig at h1; simpa using h1

theorem dg_eq (s : ByteArray) (k : Nat) (h : k < s.size) : dg s k = s[k].toNat - 48 := by
  unfold dg
  rw [List.getD_eq_getElem?_getD, List.getElem?_eq_getElem (by simpa using h)]
  rfl

theorem dg_le (s : ByteArray) (k : Nat) (hd : s.data.toList.all isDig = true) : dg s k ≤ 9 := by
  by_cases h : k < s.size
  · have := dig_at s k h hd; rw [dg_eq s k h]; omega
  · unfold dg; rw [List.getD_eq_getElem?_getD, List.getElem?_eq_none (by rw [Array.length_toList]; exact Nat.le_of_not_lt h)]; decide

theorem fin1 {a b c : Nat} {x y : Int} (h : a = b + c) (hx : x = b + y) (hy : y = c) : Value.int .i64 x = .int .i64 (a : Int) := by rw [hx, hy, h]; norm_cast

theorem fault_zero {l : List UInt8} (h : faultOf l = 0) : l.all isDig = true ∧ l.length ≤ 999 := by
  unfold faultOf at h
  by_cases h1 : l.all isDig = true
  · rw [if_pos h1] at h
    by_cases h2 : 999 < l.length
    · rw [if_pos h2] at h; omega
    · exact ⟨h1, by omega⟩
  · rw [if_neg h1] at h; omega

theorem fault_ok {l : List UInt8} (h : l.all isDig = true) (h2 : l.length ≤ 999) : faultOf l = 0 := by
  unfold faultOf; rw [if_pos h, if_neg (by omega)]

end Go.Proofs.Ytcohkhjfncknpaa
