/- Halves of packed digits. -/
import Derived.Test.YtcohkhjfncknpaaDig0
namespace Go.Proofs.Ytcohkhjfncknpaa
open Go.RowKit

/-- half t of a digit text, a 0 ahead of an odd number of digits -/
def half (s : ByteArray) (t : Nat) : Nat := if s.size % 2 = 0 then dg s t else if t = 0 then 0 else dg s (t - 1)

/-- byte j behind m halves -/
def pbi (s : ByteArray) (m j : Nat) : Nat := 16 * (if 2 * j < m then half s (2 * j) else 0) + (if 2 * j + 1 < m then half s (2 * j + 1) else 0)

/-- byte j of the packed text -/
def pb (s : ByteArray) (j : Nat) : Nat := 16 * half s (2 * j) + half s (2 * j + 1)

theorem half_eq (s : ByteArray) (i d : Nat) (_hi : i < s.size) (h : dg s i = d) : half s (s.size % 2 + i) = d := by
  unfold half
  by_cases h2 : s.size % 2 = 0
  · rw [if_pos h2, h2, Nat.zero_add, h]
  · rw [if_neg h2, if_neg (by omega), show s.size % 2 + i - 1 = i by omega, h]

theorem half_zero (s : ByteArray) (h : s.size % 2 = 1) : half s 0 = 0 := by unfold half; rw [if_neg (by omega), if_pos rfl]

theorem pb_even (s : ByteArray) (m d j0 : Nat) (hm : m = 2 * j0) (h : half s m = d) (j : Nat) :
    (if j = j0 then Value.int .u8 ((16 * d : Nat) : Int) else .int .u8 (pbi s m j : Nat)) = .int .u8 (pbi s (m + 1) j : Nat) := by
  by_cases hj : j = j0
  · rw [if_pos hj]; unfold pbi; rw [if_pos (by omega), if_neg (by omega), show 2 * j = m by omega, h]; rfl
  · rw [if_neg hj]; unfold pbi
    simp only [show (2 * j < m + 1) = (2 * j < m) from propext ⟨by omega, by omega⟩, show (2 * j + 1 < m + 1) = (2 * j + 1 < m) from propext ⟨by omega, by omega⟩]

theorem pb_odd (s : ByteArray) (m d j0 : Nat) (hm : m = 2 * j0 + 1) (h : half s m = d) (j : Nat) :
    (if j = j0 then Value.int .u8 ((pbi s m j0 + d : Nat) : Int) else .int .u8 (pbi s m j : Nat)) = .int .u8 (pbi s (m + 1) j : Nat) := by
  by_cases hj : j = j0
  · rw [if_pos hj]; subst hj; unfold pbi; rw [if_pos (by omega), if_neg (by omega), if_pos (by omega), if_pos (by omega), show 2 * j + 1 = m by omega, h]; rfl
  · rw [if_neg hj]; unfold pbi
    simp only [show (2 * j < m + 1) = (2 * j < m) from propext ⟨by omega, by omega⟩, show (2 * j + 1 < m + 1) = (2 * j + 1 < m) from propext ⟨by omega, by omega⟩]

theorem pbi_tens (s : ByteArray) (m j0 : Nat) (hm : m = 2 * j0 + 1) : pbi s m j0 = 16 * half s (2 * j0) := by
  unfold pbi; rw [if_pos (by omega), if_neg (by omega)]; rfl

theorem or_nib : ∀ x < 16, ∀ d < 16, bits BinOp.or .u8 ((16 * x : Nat) : Int) ((d : Nat) : Int) = ((16 * x + d : Nat) : Int) := by decide +kernel

theorem half_le (s : ByteArray) (t : Nat) (hd : s.data.toList.all isDig = true) : half s t ≤ 9 := by
  unfold half; split; exact dg_le s _ hd; split; omega; exact dg_le s _ hd

end Go.Proofs.Ytcohkhjfncknpaa
