/- Mathematics of layer 9: digits and values undo each other, so do sums and differences. -/
import Derived.Test.YtejljmpjdhdoiaaDoorRadM
namespace Go.Proofs.YtejljmpjdhdoiaaDoor
open Go.RowKit

theorem acc_lt (s : ByteArray) (hd : s.data.toList.all isDig = true) (k : Nat) : acc s k < 10 ^ k := by
  induction k with
  | zero => exact Nat.one_pos
  | succ k ih => have := dg_le s k hd; rw [Nat.pow_succ]; simp only [acc]; omega
theorem acc_head (s : ByteArray) (hd : s.data.toList.all isDig = true) (k i : Nat) : acc s (k + i) / 10 ^ i = acc s k := by
  induction i with
  | zero => rw [Nat.pow_zero, Nat.div_one, Nat.add_zero]
  | succ i ih =>
    have := dg_le s (k + i) hd
    rw [Nat.pow_succ, Nat.mul_comm, ← Nat.div_div_eq_div_mul, show k + (i + 1) = k + i + 1 by omega]
    simp only [acc]
    rw [show (10 * acc s (k + i) + dg s (k + i)) / 10 = acc s (k + i) by omega, ih]
theorem td_self (s : ByteArray) (hd : s.data.toList.all isDig = true) : strOf s.size (td (acc s s.size) s.size) = s := by
  refine (strOf_congr _ _ _ fun j hj => ?_).trans (strOf_by s)
  have h := acc_head s hd (j + 1) (s.size - 1 - j)
  rw [show j + 1 + (s.size - 1 - j) = s.size by omega] at h
  have := dg_le s j hd
  unfold td
  rw [h, by_dg' s j hj hd]
  simp only [acc]
  omega
/-- what is a value's text: it -/
theorem back_text {s : ByteArray} (h : vE s = 0) : inP (vV s) (s.size : Nat) = true ∧ gV (vV s) (s.size : Nat) = s ∧ 1 ≤ s.size ∧ s.size ≤ 16 := by
  unfold vE at h
  by_cases h0 : s.size = 0
  · rw [if_pos h0] at h; cases h
  · rw [if_neg h0] at h
    by_cases h1 : 16 < s.size
    · rw [if_pos h1] at h; cases h
    · rw [if_neg h1] at h
      have hf : faultOf s.data.toList = 0 := by
        by_cases hf : faultOf s.data.toList = 0
        · exact hf
        · unfold dnE at h; rw [if_pos hf] at h; exact h
      have hd := (fault_zero hf).1
      have hv : vV s = (acc s s.size : Nat) := by
        unfold vV vE; rw [if_neg h0, if_neg h1, if_pos h]; unfold dnV; rw [if_pos h]
      have hp := pw_at (k := s.size) (by omega) (by omega)
      have hi : inP (vV s) (s.size : Nat) = true := by
        rw [inP_iff, hv, hp]; have := acc_lt s hd s.size; omega
      refine ⟨hi, ?_, by omega, by omega⟩
      unfold gV
      rw [if_pos hi, hv]
      exact td_self s hd
/-- what is a text's value: it -/
theorem back_value {x m : Int} (h : inP x m = true) : vE (gV x m) = 0 ∧ vV (gV x m) = x ∧ ((gV x m).size : Int) = m ∧ (gV x m).size ≤ 16 := by
  obtain ⟨h0, h1⟩ := (inP_iff x m).1 h
  obtain ⟨k, rfl, hk1, hk2, hp, _⟩ := pw_ten (inP_pos h)
  obtain ⟨n, rfl⟩ := Int.eq_ofNat_of_zero_le h0
  have hz : n / 10 ^ k = 0 := Nat.div_eq_of_lt (by rw [← hp]; omega)
  have hn : n ≤ 9223372036854775807 := by have := pw_le (k : Int); omega
  obtain ⟨_, e, v⟩ := text_num n k hn hk1 (by omega) (textE_fit hk1 (by omega) hz)
  have hg : gV (n : Int) (k : Int) = strOf k (td n k) := by unfold gV; rw [if_pos h]; rfl
  have hs : (strOf k (td n k)).size = k := strOf_size _ _
  rw [hg]
  have e' : vE (strOf k (td n k)) = 0 := by unfold vE; rw [hs, if_neg (by omega), if_neg (by omega), e]
  exact ⟨e', by unfold vV; rw [if_pos e', v], by rw [hs], by omega⟩

theorem aV_in {a b m : Int} (h : inP a m = true) (h' : inP b m = true) : aV a b m = (a + b) % (pw m : Int) ∧ inP (aV a b m) m = true := by
  have e : aV a b m = (a + b) % (pw m : Int) := by unfold aV; rw [if_pos (tE_pos h h')]
  have hp := inP_pos h
  refine ⟨e, ?_⟩
  rw [inP_iff, e]
  exact ⟨Int.emod_nonneg _ (by omega), Int.emod_lt_of_pos _ (by omega)⟩
theorem back_mod {x y p : Int} (x0 : 0 ≤ x) (x1 : x < p) (y0 : 0 ≤ y) (y1 : y < p) : ((x + y) % p - y + p) % p = x := by
  by_cases h : x + y < p
  · rw [Int.emod_eq_of_lt (by omega) h, show x + y - y + p = x + p by omega, Int.add_emod_right, Int.emod_eq_of_lt x0 x1]
  · have e : (x + y) % p = x + y - p := by
      rw [show x + y = x + y - p + p by omega, Int.add_emod_right, Int.emod_eq_of_lt (by omega) (by omega)]; omega
    rw [e, show x + y - p - y + p = x by omega, Int.emod_eq_of_lt x0 x1]
theorem back_sum {x y m : Int} (h : inP x m = true) (h' : inP y m = true) : sV (aV x y m) y m = x := by
  obtain ⟨e, hi⟩ := aV_in h h'
  obtain ⟨x0, x1⟩ := (inP_iff x m).1 h
  obtain ⟨y0, y1⟩ := (inP_iff y m).1 h'
  unfold sV
  rw [if_pos (tE_pos hi h'), e]
  exact back_mod x0 x1 y0 y1
theorem tE_comm (a b m : Int) : tE b a m = tE a b m := by unfold tE; simp only [and_comm]
theorem aV_comm (a b m : Int) : aV b a m = aV a b m := by unfold aV; rw [tE_comm, Int.add_comm]
theorem aV_assoc {a b c m : Int} (ha : inP a m = true) (hb : inP b m = true) (hc : inP c m = true) : aV (aV a b m) c m = aV a (aV b c m) m := by
  obtain ⟨e1, i1⟩ := aV_in ha hb
  obtain ⟨e2, i2⟩ := aV_in hb hc
  rw [(aV_in i1 hc).1, (aV_in ha i2).1, e1, e2, Int.emod_add_emod, Int.add_emod_emod, Int.add_assoc]
end Go.Proofs.YtejljmpjdhdoiaaDoor
