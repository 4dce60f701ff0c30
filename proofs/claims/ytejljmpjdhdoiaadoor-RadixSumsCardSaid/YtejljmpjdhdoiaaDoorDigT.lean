/- What a number's text tells: it. -/
import Derived.Test.YtejljmpjdhdoiaaDoorDigC
import Derived.Test.YtejljmpjdhdoiaaDoorDigN
import Derived.Test.YtejljmpjdhdoiaaDoorRowX
namespace Go.Proofs.YtejljmpjdhdoiaaDoor
open Go.RowKit

theorem by_dg' (s : ByteArray) (i : Nat) (h : i < s.size) (hd : s.data.toList.all isDig = true) : by_ s i = 48 + dg s i := by
  have h1 := dig_at s i h hd
  have h2 := dg_eq s i h
  unfold by_
  rw [List.getD_eq_getElem?_getD, List.getElem?_eq_getElem (by rw [Array.length_toList]; exact h)]
  show (s[i]).toNat = _
  omega
theorem strOf_dig (n : Nat) (b : Nat → Nat) (h : ∀ i, i < n → b i ≤ 9) : (strOf n fun i => 48 + b i).data.toList.all isDig = true := by
  rw [strOf_list, List.all_eq_true]
  intro c hc
  obtain ⟨i, hi, rfl⟩ := List.mem_map.1 hc
  have := h i (List.mem_range.1 hi)
  unfold isDig
  rw [chr_toNat _ (by omega)]
  simp; omega
theorem dg_dig (n : Nat) (b : Nat → Nat) (i : Nat) (h : i < n) (hb9 : b i ≤ 9) : dg (strOf n fun i => 48 + b i) i = b i := by
  unfold dg
  rw [strOf_at n (fun i => 48 + b i) 48 i h (by omega)]
  omega
theorem td_acc (n k i : Nat) (hi : i ≤ k) (h : n / 10 ^ k = 0) : acc (strOf k (td n k)) i = n / 10 ^ (k - i) := by
  induction i with
  | zero => rw [Nat.sub_zero, h]; rfl
  | succ i ih =>
    simp only [acc]
    rw [ih (by omega)]
    have : dg (strOf k (td n k)) i = n / 10 ^ (k - 1 - i) % 10 := by
      have := dg_dig k (fun j => n / 10 ^ (k - 1 - j) % 10) i (by omega) (by omega)
      exact this
    rw [this, show k - i = k - 1 - i + 1 by omega, show k - (i + 1) = k - 1 - i by omega, pow_step]
    omega
/-- the number of a number's text is it -/
theorem text_num (n k : Nat) (hn : n ≤ 9223372036854775807) (h1 : 1 ≤ k) (h2 : k ≤ 19) (h : textE n k = 0) : textV n k = strOf k (td n k) ∧ dnE (strOf k (td n k)) = 0 ∧ dnV (strOf k (td n k)) = n := by
  have hz : n / 10 ^ k = 0 := by
    by_cases e : n / 10 ^ k = 0
    · exact e
    · rw [textE_big h1 h2 e] at h; cases h
  have hd : (strOf k (td n k)).data.toList.all isDig = true := strOf_dig k (fun j => n / 10 ^ (k - 1 - j) % 10) (fun i _ => by omega)
  have ha := td_acc n k k (Nat.le_refl _) hz
  rw [Nat.sub_self, Nat.pow_zero, Nat.div_one] at ha
  have hE : dnE (strOf k (td n k)) = 0 := by
    unfold dnE
    rw [fault_ok hd (by rw [Array.length_toList]; show (strOf k (td n k)).size ≤ 999; rw [strOf_size]; omega), strOf_size, ha, if_neg (by decide), if_neg (by omega), if_neg (by omega)]
  refine ⟨by unfold textV; rw [if_pos h]; rfl, hE, ?_⟩
  unfold dnV
  rw [if_pos hE, strOf_size, ha]

end Go.Proofs.YtejljmpjdhdoiaaDoor
