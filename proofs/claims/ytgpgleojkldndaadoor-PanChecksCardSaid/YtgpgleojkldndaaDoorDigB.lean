/- What a digit behind a text does to its sum. -/
import Derived.Test.YtgpgleojkldndaaDoorDigA
import Derived.Test.YtgpgleojkldndaaDoorDigN
namespace Go.Proofs.YtgpgleojkldndaaDoor
open Go.RowKit

def snoc (s : ByteArray) (c : UInt8) : ByteArray := s ++ ⟨#[c]⟩

theorem snoc_list (s : ByteArray) (c : UInt8) : (snoc s c).data.toList = s.data.toList ++ [c] := by
  unfold snoc; simp [ByteArray.data_append]

theorem snoc_size (s : ByteArray) (c : UInt8) : (snoc s c).size = s.size + 1 := by
  unfold snoc; rw [ByteArray.size_append]; rfl

theorem dg_snoc_lt (s : ByteArray) (c : UInt8) (k : Nat) (h : k < s.size) : dg (snoc s c) k = dg s k := by
  unfold dg; rw [snoc_list, List.getD_eq_getElem?_getD, List.getElem?_append_left (by rw [Array.length_toList]; exact h), List.getD_eq_getElem?_getD]

theorem dg_snoc_eq (s : ByteArray) (c : UInt8) : dg (snoc s c) s.size = c.toNat - 48 := by
  unfold dg; rw [snoc_list, List.getD_eq_getElem?_getD, List.getElem?_append_right (by rw [Array.length_toList]; exact Nat.le_refl _)]
  rw [Array.length_toList, show s.size - s.data.size = 0 from Nat.sub_self _]; rfl

theorem psum_snoc (s : ByteArray) (c : UInt8) (k : Nat) (h : k ≤ s.size) : psum (s.size + 1) 0 (snoc s c) k = psum s.size 1 s k := by
  induction k with
  | zero => rfl
  | succ k ih =>
    simp only [psum]
    rw [ih (by omega), dg_snoc_lt s c k (by omega)]
    congr 2
    omega

theorem psum_snoc_all (s : ByteArray) (c : UInt8) : psum (snoc s c).size 0 (snoc s c) (snoc s c).size = psum s.size 1 s s.size + (c.toNat - 48) := by
  rw [snoc_size]
  show psum (s.size + 1) 0 (snoc s c) s.size + _ = _
  rw [psum_snoc s c s.size (Nat.le_refl _), dg_snoc_eq]
  unfold wt; rw [if_pos (by omega)]

theorem oct_snoc (s : ByteArray) (d : Nat) (hd : s.data.toList.all isDig = true) (h : d < 10) : (snoc s (chr (48 + d))).data.toList.all isDig = true := by
  rw [snoc_list, List.all_append, hd]
  have : (chr (48 + d)).toNat = 48 + d := chr_toNat _ (by omega)
  simp [isDig]; omega

end Go.Proofs.YtgpgleojkldndaaDoor
