import Derived.Test.YtglajdedalikdabDoorLaw01a
namespace Go.Proofs.YtglajdedalikdabDoor
open Go.RowKit

theorem and63 (n : Int) : 0 ≤ bits BinOp.and .i64 n 63 ∧ bits BinOp.and .i64 n 63 ≤ 63 := by
  have h : (BitVec.ofInt 64 n &&& BitVec.ofInt 64 63).toNat ≤ 63 := by
    rw [BitVec.toNat_and]
    exact Nat.le_trans Nat.and_le_right (by decide)
  have e : bits BinOp.and .i64 n 63 = ((BitVec.ofInt 64 n &&& BitVec.ofInt 64 63).toNat : Int) := by
    show IntKind.i64.wrap ((BitVec.ofInt 64 n &&& BitVec.ofInt 64 63).toNat : Int) = _
    exact IntWalk.i64_in _ (by omega)
  rw [e]; omega
/-- noughts ahead -/
def pre0 (s : ByteArray) : Nat → ByteArray
  | 0 => s
  | k + 1 => ByteArray.mk #[48] ++ pre0 s k
theorem pre0_size (s : ByteArray) (k : Nat) : (pre0 s k).size = s.size + k := by
  induction k with
  | zero => rfl
  | succ k ih => simp only [pre0]; rw [ByteArray.size_append, ih]; show 1 + _ = _; omega
theorem pre0_list (s : ByteArray) (k : Nat) : (pre0 s k).data.toList = List.replicate k 48 ++ s.data.toList := by
  induction k with
  | zero => rfl
  | succ k ih => simp only [pre0]; rw [ByteArray.data_append, Array.toList_append, ih]; rfl
theorem pre0_dig (s : ByteArray) (k : Nat) : (pre0 s k).data.toList.all isDig = s.data.toList.all isDig := by
  rw [pre0_list, List.all_append]
  have : (List.replicate k (48 : UInt8)).all isDig = true := by
    rw [List.all_eq_true]; intro x hx; rw [List.eq_of_mem_replicate hx]; decide
  rw [this, Bool.true_and]
theorem pre0_dg_lo (s : ByteArray) (k i : Nat) (h : i < k) : dg (pre0 s k) i = 0 := by
  unfold dg
  rw [pre0_list, List.getD_eq_getElem?_getD, List.getElem?_append_left (by simpa using h), List.getElem?_replicate, if_pos h]
  rfl
theorem pre0_dg_hi (s : ByteArray) (k i : Nat) : dg (pre0 s k) (k + i) = dg s i := by
  unfold dg
  rw [pre0_list, List.getD_eq_getElem?_getD, List.getElem?_append_right (by simp), List.length_replicate, Nat.add_sub_cancel_left, List.getD_eq_getElem?_getD]
theorem pre0_acc_lo (s : ByteArray) (k i : Nat) (h : i ≤ k) : acc (pre0 s k) i = 0 := by
  induction i with
  | zero => rfl
  | succ i ih => simp only [acc]; rw [ih (by omega), pre0_dg_lo s k i (by omega)]
theorem pre0_acc (s : ByteArray) (k i : Nat) : acc (pre0 s k) (k + i) = acc s i := by
  induction i with
  | zero => exact pre0_acc_lo s k k (Nat.le_refl _)
  | succ i ih => rw [← Nat.add_assoc]; simp only [acc]; rw [ih, pre0_dg_hi]
theorem pre0_fault (s : ByteArray) (k : Nat) (hk : k ≤ 63) (hs : s.size ≤ 900) : faultOf (pre0 s k).data.toList = faultOf s.data.toList := by
  unfold faultOf
  rw [pre0_dig, Array.length_toList, Array.length_toList]
  have h1 : (pre0 s k).data.size ≤ 999 := by show (pre0 s k).size ≤ 999; rw [pre0_size]; omega
  have h2 : s.data.size ≤ 999 := by show s.size ≤ 999; omega
  simp only [if_neg (show ¬ 999 < (pre0 s k).data.size by omega), if_neg (show ¬ 999 < s.data.size by omega)]
theorem pre0_numE (s : ByteArray) (k : Nat) (hk : k ≤ 63) (hs : s.size ≤ 900) (h0 : s.size ≠ 0) : numE (pre0 s k) = numE s := by
  unfold numE
  rw [pre0_fault s k hk hs, pre0_size, if_neg (show ¬ s.size + k = 0 by omega), if_neg h0, Nat.add_comm, pre0_acc]
theorem pre0_numV (s : ByteArray) (k : Nat) (hk : k ≤ 63) (hs : s.size ≤ 900) (h0 : s.size ≠ 0) : numV (pre0 s k) = numV s := by
  unfold numV
  rw [pre0_numE s k hk hs h0, pre0_size, Nat.add_comm, pre0_acc]

set_option maxRecDepth 100000 in
set_option maxHeartbeats 1600000 in
theorem zeros_any (s : ByteArray) (n : Int) (w : World) (hs : s.size ≤ 140737488351232) (hw : Wts w) :
    Calls Tryd.prog 3 #[.string s, .int .i64 n] w fun e w' => e = .returned (.bool true) ∧ Below w.heap.size w w' := by
  have HW := Lib.hid hw
  clear hw
  obtain ⟨m0, m63⟩ := and63 n
  obtain ⟨m, hm⟩ := Int.eq_ofNat_of_zero_le m0
  have hm63 : m ≤ 63 := by omega
  clear m0 m63
  go_enter Tryd.func3, Tryd.ntmps3
  go_wp2_with fail
  refine (small_any _ HW.out).mono ?_
  rintro e w1 ⟨rfl, hb1⟩
  have HB := Lib.hid hb1
  clear hb1
  go_wp2_with fail
  go_loop [6, 7] (fun x i => ∃ k : Nat, k ≤ m ∧ i = .int .i64 k ∧ x = .string (pre0 s k)) (fun _ i => m - (intOf i).toNat)
  case atStart => exact ⟨0, Nat.zero_le _, rfl, rfl⟩
  case round =>
    obtain ⟨k, hk, rfl, rfl⟩ := hrel
    have hz := pre0_size s k
    by_cases hlt : k < m
    · have HT := Lib.hid (show ByteArray.mk #[48] ++ pre0 s k = pre0 s (k + 1) from rfl)
      generalize pre0 s k = t at *
      have hz1 : (ByteArray.mk #[48]).size = 1 := rfl
      have hzb : t.size ≤ 140737488351300 := by omega
      clear hz
      go_wp2_with fail
      go_round
      case rel => exact ⟨k + 1, by omega, by go_num, by rw [← HT.out]⟩
      case measure => simp [intOf]; omega
    · obtain rfl : k = m := by omega
      have hs' : s.size ≤ maxLen := by unfold maxLen; omega
      have ht' : (pre0 s k).size ≤ maxLen := by unfold maxLen; omega
      by_cases h0 : s.size = 0
      · have e1 : s.toList = [] := by
          rw [ByteArray.toList_eq]; exact List.eq_nil_of_length_eq_zero (Array.length_toList.trans h0)
        clear h0 hz
        generalize pre0 s k = t at *
        go_wp2_with fail
        refine (number_any s _ hs').mono ?_
        rintro e w2 ⟨rfl, n2, rfl⟩
        go_wp2_with fail
        refine (number_any t _ ht').mono ?_
        rintro e w3 ⟨rfl, n3, rfl⟩
        go_wp2_with fail
        go_ret
        exact ⟨rfl, drawn HB.out (n2 + n3)⟩
      · have e1 := toList_of_size (s := s) (by omega)
        have e2 : ¬ s.toList = [] := by intro h; rw [h] at e1; cases e1
        by_cases h9 : s.size ≤ 900
        · have h9' : ¬ (900 : Int) < s.size := by omega
          have HE := Lib.hid (pre0_numE s k hm63 h9 h0)
          have HV := Lib.hid (pre0_numV s k hm63 h9 h0)
          generalize pre0 s k = t at *
          clear hz
          go_wp2_with fail
          refine (number_any s _ hs').mono ?_
          rintro e w2 ⟨rfl, n2, rfl⟩
          go_wp2_with fail
          refine (number_any t _ ht').mono ?_
          rintro e w3 ⟨rfl, n3, rfl⟩
          rw [HE.out, HV.out]
          go_wp2_with fail
          go_ret
          exact ⟨rfl, drawn HB.out (n2 + n3)⟩
        · have h9' : (900 : Int) < s.size := by omega
          generalize pre0 s k = t at *
          clear hz
          go_wp2_with fail
          refine (number_any s _ hs').mono ?_
          rintro e w2 ⟨rfl, n2, rfl⟩
          go_wp2_with fail
          refine (number_any t _ ht').mono ?_
          rintro e w3 ⟨rfl, n3, rfl⟩
          go_wp2_with fail
          go_ret
          exact ⟨rfl, drawn HB.out (n2 + n3)⟩
end Go.Proofs.YtglajdedalikdabDoor
