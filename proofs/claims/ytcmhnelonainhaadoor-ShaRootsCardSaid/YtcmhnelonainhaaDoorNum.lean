/- Numbers in limbs: the value of a row of digits. -/
import Derived.Test.YtcmhnelonainhaaDoorBase
namespace Go.Proofs.YtcmhnelonainhaaDoor
/-- a number in limbs, the lowest first -/
def num (B : Nat) : Nat → (Nat → Nat) → Nat
  | 0, _ => 0
  | n + 1, f => num B n f + f n * B ^ n
def upd (f : Nat → Nat) (q x : Nat) (j : Nat) : Nat := if j = q then x else f j
theorem num_congr {B n : Nat} {f g : Nat → Nat} (h : ∀ j, j < n → f j = g j) : num B n f = num B n g := by
  induction n with
  | zero => rfl
  | succ n ih =>
    show num B n f + f n * B ^ n = num B n g + g n * B ^ n
    rw [ih fun j hj => h j (by omega), h n (by omega)]
theorem num_zero (B n : Nat) : num B n (fun _ => 0) = 0 := by
  induction n with
  | zero => rfl
  | succ n ih => show num B n (fun _ => 0) + 0 * B ^ n = 0; rw [ih, Nat.zero_mul]
theorem num_set (B : Nat) {n q : Nat} (f : Nat → Nat) (x : Nat) (hq : q < n) : num B n (upd f q x) + f q * B ^ q = num B n f + x * B ^ q := by
  induction n with
  | zero => omega
  | succ n ih =>
    show num B n (upd f q x) + upd f q x n * B ^ n + f q * B ^ q = num B n f + f n * B ^ n + x * B ^ q
    by_cases e : n = q
    · subst e
      rw [num_congr (f := upd f n x) (g := f) fun j hj => by unfold upd; rw [if_neg (by omega)]]
      unfold upd
      rw [if_pos rfl]
      omega
    · have := ih (by omega)
      unfold upd at this ⊢
      rw [if_neg e]
      omega
theorem num_lt {B n : Nat} {f : Nat → Nat} (h : ∀ j, j < n → f j < B) : num B n f < B ^ n := by
  induction n with
  | zero => show 0 < 1; decide
  | succ n ih =>
    show num B n f + f n * B ^ n < B ^ (n + 1)
    have h1 := ih fun j hj => h j (by omega)
    have h2 : (f n + 1) * B ^ n ≤ B * B ^ n := Nat.mul_le_mul_right _ (h n (by omega))
    rw [Nat.add_mul, Nat.one_mul] at h2
    rw [Nat.pow_succ, Nat.mul_comm (B ^ n) B]
    omega
/-- the highest limb that differs decides -/
theorem num_less {B n i : Nat} {f g : Nat → Nat} (hi : i < n) (hf : ∀ j, j < i → f j < B) (hlt : f i < g i) (he : ∀ j, i < j → j < n → f j = g j) : num B n f < num B n g := by
  induction n with
  | zero => omega
  | succ n ih =>
    show num B n f + f n * B ^ n < num B n g + g n * B ^ n
    by_cases e : i = n
    · subst e
      have h1 := num_lt hf
      have h2 : (f i + 1) * B ^ i ≤ g i * B ^ i := Nat.mul_le_mul_right _ hlt
      rw [Nat.add_mul, Nat.one_mul] at h2
      omega
    · have := ih (by omega) fun j h1 h2 => he j h1 (by omega)
      rw [he n (by omega) (by omega)]
      omega
/-- one limb alone -/
def lone (k p : Nat) (j : Nat) : Nat := if j = k then p else 0
theorem num_lone (B k p n : Nat) (hk : k < n) : num B n (lone k p) = p * B ^ k := by
  have h := num_set B (n := n) (q := k) (fun _ => 0) p hk
  rw [num_zero, Nat.zero_mul, Nat.zero_add, Nat.add_zero] at h
  exact h
/-- the digits of a product, one step: the row, its carry -/
theorem times_step {B N i k c x y S : Nat} {O b : Nat → Nat} (hi : i + k < N) (h : num B N O + c * B ^ (i + k) = S + x * num B k b * B ^ i) (hy : y = O (i + k) + x * b k + c) :
    num B N (upd O (i + k) (y % B)) + y / B * B ^ (i + (k + 1)) = S + x * num B (k + 1) b * B ^ i := by
  have h1 := num_set B (n := N) O (y % B) hi
  have h2 : y / B * B ^ (i + (k + 1)) + y % B * B ^ (i + k) = y * B ^ (i + k) := by
    rw [← Nat.add_assoc, Nat.pow_succ, Nat.mul_comm (B ^ (i + k)) B, ← Nat.mul_assoc, ← Nat.add_mul, Nat.div_add_mod']
  have h3 : y * B ^ (i + k) = O (i + k) * B ^ (i + k) + x * b k * B ^ (i + k) + c * B ^ (i + k) := by rw [hy, Nat.add_mul, Nat.add_mul]
  have h4 : x * num B (k + 1) b * B ^ i = x * num B k b * B ^ i + x * b k * B ^ (i + k) := by
    show x * (num B k b + b k * B ^ k) * B ^ i = _
    rw [Nat.mul_add, Nat.add_mul, Nat.pow_add, ← Nat.mul_assoc x (b k), Nat.mul_assoc (x * b k), Nat.mul_comm (B ^ k)]
  omega
theorem times_last {B N i l c S : Nat} {O : Nat → Nat} (hi : i + l < N) (h : num B N O + c * B ^ (i + l) = S) (h0 : O (i + l) = 0) : num B N (upd O (i + l) c) = S := by
  have h1 := num_set B (n := N) O c hi
  rw [h0, Nat.zero_mul, Nat.add_zero] at h1
  omega
theorem digit_step {B u x y c : Nat} (hu : u < B) (hx : x < B) (hy : y < B) (hc : c < B) : u + x * y + c < B * B ∧ (u + x * y + c) / B < B := by
  have h1 : x * y ≤ (B - 1) * (B - 1) := Nat.mul_le_mul (by omega) (by omega)
  have h2 : u + x * y + c < B * B := by
    obtain ⟨m, rfl⟩ : ∃ m, B = m + 1 := ⟨B - 1, by omega⟩
    rw [Nat.add_sub_cancel] at h1
    rw [Nat.add_mul, Nat.mul_add]
    omega
  exact ⟨h2, (Nat.div_lt_iff_lt_mul (by omega)).2 h2⟩
end Go.Proofs.YtcmhnelonainhaaDoor
