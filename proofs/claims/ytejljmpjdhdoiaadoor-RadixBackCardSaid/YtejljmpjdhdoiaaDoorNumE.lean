/- Numbers out of bytes, the most significant one first. -/
import Derived.Test.YtejljmpjdhdoiaaDoorByN
namespace Go.Proofs.YtejljmpjdhdoiaaDoor
/-- the number of k bytes, the most significant one first -/
def numE (f : Nat → Nat) : Nat → Nat
  | 0 => 0
  | k + 1 => numE f k * 256 + f k
theorem numE_lt {f : Nat → Nat} : ∀ k, (∀ j, j < k → f j < 256) → numE f k < 256 ^ k
  | 0, _ => Nat.zero_lt_one
  | k + 1, h => by
    have h1 := numE_lt k (fun j hj => h j (by omega))
    have h2 := h k (Nat.lt_succ_self k)
    show numE f k * 256 + f k < _
    rw [Nat.pow_succ]
    omega
theorem numE_congr {f g : Nat → Nat} : ∀ k, (∀ j, j < k → f j = g j) → numE f k = numE g k
  | 0, _ => rfl
  | k + 1, h => by
    show numE f k * 256 + f k = numE g k * 256 + g k
    rw [numE_congr k (fun j hj => h j (by omega)), h k (Nat.lt_succ_self k)]
theorem numE_mono (f : Nat → Nat) (k : Nat) : ∀ m, k ≤ m → numE f k ≤ numE f m
  | 0, h => by obtain rfl : k = 0 := by omega
               exact Nat.le_refl _
  | m + 1, h => by
    rcases Nat.lt_or_ge k (m + 1) with h1 | h1
    · have := numE_mono f k m (by omega)
      show numE f k ≤ numE f m * 256 + f m
      omega
    · obtain rfl : k = m + 1 := by omega
      exact Nat.le_refl _
theorem shl_or (a c : Nat) (h : c < 256) : a * 256 ||| c = a * 256 + c := by
  have := Nat.shiftLeft_add_eq_or_of_lt (show c < 2 ^ 8 from h) a
  rw [Nat.shiftLeft_eq] at this
  exact this.symm
end Go.Proofs.YtejljmpjdhdoiaaDoor
