/- Each byte but 0 is one power of 3: nothing here hangs on the program. -/
import Derived.Test.YtgfdnhpfdbaddaaGf
namespace Go.Proofs.Ytgfdnhpfdbaddaa

/-- how many of the first n powers of 3 a byte is -/
def times3 (a : Nat) : Nat → Nat
  | 0 => 0
  | k + 1 => times3 a k + if gpow 3 k = a then 1 else 0
def pows : Nat → Nat → List Nat
  | 0, _ => []
  | n + 1, x => x :: pows n (gm x 3)
def cnt (a : Nat) : List Nat → Nat
  | [] => 0
  | x :: r => (if x = a then 1 else 0) + cnt a r
theorem cnt_pows (a : Nat) : ∀ n k, times3 a (k + n) = times3 a k + cnt a (pows n (gpow 3 k))
  | 0, _ => rfl
  | n + 1, k => by
    have h := cnt_pows a n (k + 1)
    rw [show k + 1 + n = k + (n + 1) by omega] at h
    rw [h]
    simp only [times3, pows, cnt, gpow]
    omega
def allpows : List Nat := [1, 3, 5, 15, 17, 51, 85, 255, 26, 46, 114, 150, 161, 248, 19, 53, 95, 225, 56, 72, 216, 115, 149, 164, 247, 2, 6, 10, 30, 34, 102, 170, 229, 52, 92, 228, 55, 89, 235, 38, 106, 190, 217, 112, 144, 171, 230, 49, 83, 245, 4, 12, 20, 60, 68, 204, 79, 209, 104, 184, 211, 110, 178, 205, 76, 212, 103, 169, 224, 59, 77, 215, 98, 166, 241, 8, 24, 40, 120, 136, 131, 158, 185, 208, 107, 189, 220, 127, 129, 152, 179, 206, 73, 219, 118, 154, 181, 196, 87, 249, 16, 48, 80, 240, 11, 29, 39, 105, 187, 214, 97, 163, 254, 25, 43, 125, 135, 146, 173, 236, 47, 113, 147, 174, 233, 32, 96, 160, 251, 22, 58, 78, 210, 109, 183, 194, 93, 231, 50, 86, 250, 21, 63, 65, 195, 94, 226, 61, 71, 201, 64, 192, 91, 237, 44, 116, 156, 191, 218, 117, 159, 186, 213, 100, 172, 239, 42, 126, 130, 157, 188, 223, 122, 142, 137, 128, 155, 182, 193, 88, 232, 35, 101, 175, 234, 37, 111, 177, 200, 67, 197, 84, 252, 31, 33, 99, 165, 244, 7, 9, 27, 45, 119, 153, 176, 203, 70, 202, 69, 207, 74, 222, 121, 139, 134, 145, 168, 227, 62, 66, 198, 81, 243, 14, 18, 54, 90, 238, 41, 123, 141, 140, 143, 138, 133, 148, 167, 242, 13, 23, 57, 75, 221, 124, 132, 151, 162, 253, 28, 36, 108, 180, 199, 82, 246]
set_option maxRecDepth 100000 in
theorem pows_lit : pows 255 1 = allpows := by decide +kernel
theorem times3_all {a : Nat} (h : a < 256) : times3 a 255 = if a = 0 then 0 else 1 := by
  have key : ∀ a, a < 256 → cnt a allpows = if a = 0 then 0 else 1 := by decide +kernel
  have e := cnt_pows a 255 0
  rw [Nat.zero_add, show gpow 3 0 = 1 from rfl, pows_lit, key a h] at e
  rw [e, show times3 a 0 = 0 from rfl, Nat.zero_add]
theorem times3_le (a : Nat) : ∀ k, times3 a k ≤ k
  | 0 => Nat.le_refl 0
  | k + 1 => by
    have := times3_le a k
    simp only [times3]
    split <;> omega
end Go.Proofs.Ytgfdnhpfdbaddaa
