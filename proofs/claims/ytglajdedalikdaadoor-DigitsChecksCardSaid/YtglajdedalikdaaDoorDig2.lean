import Derived.Test.YtglajdedalikdaaDoorDig1
namespace Go.Proofs.YtglajdedalikdaaDoor
open Go.RowKit

def isDig (c : UInt8) : Bool := 48 ≤ c.toNat && c.toNat ≤ 57
def faultOf (l : List UInt8) : Int := if l.all isDig then (if 999 < l.length then 2 else 0) else 4

theorem ret_int {k : IntKind} {a b : Int} (h : a = b) : Ending.returned (.int k a) = .returned (.int k b) := by rw [h]

theorem take_snoc (s : ByteArray) (k : Nat) (h : k < s.size) : s.data.toList.take (k + 1) = s.data.toList.take k ++ [s[k]] := by
  rw [List.take_succ_eq_append_getElem (by simpa using h)]; rfl
theorem all_snoc (s : ByteArray) (k : Nat) (h : k < s.size) (ha : (s.data.toList.take k).all isDig = true) (hd : isDig s[k] = true) : (s.data.toList.take (k+1)).all isDig = true := by
  rw [take_snoc s k h, List.all_append, ha]; simp [hd]
theorem all_bad (s : ByteArray) (k : Nat) (h : k < s.size) (hd : isDig s[k] = false) : s.data.toList.all isDig = false := by
  rw [List.all_eq_false]
  exact ⟨s[k], Array.mem_toList_iff.2 (Array.getElem_mem h), by simp [hd]⟩

set_option maxHeartbeats 400000 in
theorem fault_any (s : ByteArray) (w : World) (hs : s.size ≤ maxLen) :
    Calls Tryd.prog 25 #[.string s] w fun e w' => e = .returned (.int .i64 (faultOf s.data.toList)) ∧ w = w' := by
  unfold maxLen at hs
  go_enter Tryd.func25, Tryd.ntmps25
  go_wp2
  go_loop [6] (fun i => ∃ k : Nat, k ≤ s.size ∧ i = .int .i64 k ∧ (s.data.toList.take k).all isDig = true) (fun i => s.size - (intOf i).toNat)
  case atStart => exact ⟨0, Nat.zero_le _, rfl, rfl⟩
  case round =>
    obtain ⟨k, hk, rfl, ha⟩ := hrel
    by_cases hlt : k < s.size
    · by_cases h1 : (s[k].toNat : Int) < 48
      · have HB := Lib.hid (all_bad s k hlt (by unfold isDig; simp; omega))
        go_wp2
        go_ret
        exact ⟨ret_int (by unfold faultOf; rw [HB.out]; rfl), rfl⟩
      · by_cases h2 : (57 : Int) < s[k].toNat
        · have HB := Lib.hid (all_bad s k hlt (by unfold isDig; simp; omega))
          go_wp2
          go_ret
          exact ⟨ret_int (by unfold faultOf; rw [HB.out]; rfl), rfl⟩
        · have HB := Lib.hid (all_snoc s k hlt ha (by unfold isDig; simp; omega))
          clear ha
          go_wp2
          go_round
          case rel => exact ⟨k + 1, by omega, by go_num, HB.out⟩
          case measure => simp [intOf]; omega
    · have e : k = s.size := by omega
      subst e
      have HA := Lib.hid ha
      clear ha
      by_cases hl : 999 < s.size
      all_goals
        go_wp2
        go_ret
        refine ⟨ret_int ?_, rfl⟩
        have h := HA.out
        rw [List.take_of_length_le (by simp)] at h
        unfold faultOf
        rw [h]
        simp [hl]
set_option maxHeartbeats 400000 in
theorem texts_any (s : ByteArray) (w : World) (hs : s.size ≤ maxLen) :
    Calls Tryd.prog 29 #[.string s] w fun e w' => e = .returned (.int .i64 (faultOf s.data.toList)) ∧ w = w' := by
  unfold maxLen at hs
  go_enter Tryd.func29, Tryd.ntmps29
  go_wp2
  go_loop [3] (fun i => ∃ k : Nat, k ≤ s.size ∧ i = .int .i64 k ∧ (s.data.toList.take k).all isDig = true) (fun i => s.size - (intOf i).toNat)
  case atStart => exact ⟨0, Nat.zero_le _, rfl, rfl⟩
  case round =>
    obtain ⟨k, hk, rfl, ha⟩ := hrel
    by_cases hlt : k < s.size
    · by_cases h1 : (s[k].toNat : Int) < 48
      · have HB := Lib.hid (all_bad s k hlt (by unfold isDig; simp; omega))
        go_wp2
        go_ret
        exact ⟨ret_int (by unfold faultOf; rw [HB.out]; rfl), rfl⟩
      · by_cases h2 : (57 : Int) < s[k].toNat
        · have HB := Lib.hid (all_bad s k hlt (by unfold isDig; simp; omega))
          go_wp2
          go_ret
          exact ⟨ret_int (by unfold faultOf; rw [HB.out]; rfl), rfl⟩
        · have HB := Lib.hid (all_snoc s k hlt ha (by unfold isDig; simp; omega))
          clear ha
          go_wp2
          go_round
          case rel => exact ⟨k + 1, by omega, by go_num, HB.out⟩
          case measure => simp [intOf]; omega
    · have e : k = s.size := by omega
      subst e
      have HA := Lib.hid ha
      clear ha
      by_cases hl : 999 < s.size
      all_goals
        go_wp2
        go_ret
        refine ⟨ret_int ?_, rfl⟩
        have h := HA.out
        rw [List.take_of_length_le (by simp)] at h
        unfold faultOf
        rw [h]
        simp [hl]
end Go.Proofs.YtglajdedalikdaaDoor
