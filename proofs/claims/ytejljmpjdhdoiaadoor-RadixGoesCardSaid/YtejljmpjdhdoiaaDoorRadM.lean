/- Mathematics of layer 9: powers of ten, widths, what is left of long numbers. -/
import Derived.Test.YtejljmpjdhdoiaaDoorDigT
import Derived.Lib.BitFns
namespace Go.Proofs.YtejljmpjdhdoiaaDoor
open Go.RowKit

/-- 10^m, and 0 if m is not 1 to 16 -/
def pw (m : Int) : Nat := if 1 ≤ m ∧ m ≤ 16 then 10 ^ m.toNat else 0

theorem pw_none {m : Int} (h : m < 1 ∨ 16 < m) : pw m = 0 := by unfold pw; rw [if_neg (by omega)]
theorem pw_at {k : Nat} (h1 : 1 ≤ k) (h2 : k ≤ 16) : pw (k : Nat) = 10 ^ k := by unfold pw; rw [if_pos (by omega)]; rfl
theorem ten_le (k : Nat) (h : k ≤ 16) : 10 ^ k ≤ 10000000000000000 := Nat.pow_le_pow_right (n := 10) (by decide) h
theorem ten_pos (k : Nat) : 1 ≤ 10 ^ k := Nat.pow_pos (by decide)
theorem pw_le (m : Int) : pw m ≤ 10000000000000000 := by
  unfold pw
  split
  · exact ten_le _ (by omega)
  · omega
theorem pw_ten {m : Int} (h : pw m ≠ 0) : ∃ k : Nat, m = (k : Int) ∧ 1 ≤ k ∧ k ≤ 16 ∧ pw m = 10 ^ k ∧ 10 ≤ pw m := by
  unfold pw at h ⊢
  by_cases hm : 1 ≤ m ∧ m ≤ 16
  · obtain ⟨k, rfl⟩ := Int.eq_ofNat_of_zero_le (show 0 ≤ m by omega)
    rw [if_pos hm]
    exact ⟨k, rfl, by omega, by omega, rfl, Nat.pow_le_pow_right (n := 10) (by decide) (show 1 ≤ k by omega)⟩
  · rw [if_neg hm] at h; exact absurd rfl h

/-- all n numbers are from 0 to below p -/
def okN (p : Nat) (f : Nat → Int) (n : Nat) : Bool := (List.range n).all fun i => decide (0 ≤ f i) && decide (f i < (p : Int))
theorem okN_step {p : Nat} {f : Nat → Int} {n : Nat} (h : okN p f n = true) (h0 : 0 ≤ f n) (h1 : f n < (p : Int)) : okN p f (n + 1) = true := by
  unfold okN at *
  rw [List.range_succ, List.all_append, h]
  simp [h0, h1]
theorem okN_bad {p : Nat} {f : Nat → Int} {n i : Nat} (hi : i < n) (h : f i < 0 ∨ (p : Int) ≤ f i) : okN p f n = false := by
  unfold okN
  rw [List.all_eq_false]
  exact ⟨i, List.mem_range.2 hi, by simp; omega⟩
theorem okN_zero (p : Nat) (f : Nat → Int) : okN p f 0 = true := rfl
theorem okN_one (p : Nat) (f : Nat → Int) : okN p f 1 = true ↔ 0 ≤ f 0 ∧ f 0 < (p : Int) := by unfold okN; simp [List.range_succ]
theorem okN_two (p : Nat) (f : Nat → Int) : okN p f 2 = true ↔ (0 ≤ f 0 ∧ f 0 < (p : Int)) ∧ 0 ≤ f 1 ∧ f 1 < (p : Int) := by unfold okN; simp [List.range_succ]

/-- is a from 0 to below 10^m? -/
def inP (a m : Int) : Bool := decide (0 ≤ a) && decide (a < (pw m : Int))
theorem inP_iff (a m : Int) : inP a m = true ↔ 0 ≤ a ∧ a < (pw m : Int) := by unfold inP; simp
theorem inP_pos {a m : Int} (h : inP a m = true) : pw m ≠ 0 := by have := (inP_iff a m).1 h; omega
theorem okN_in {p : Nat} {m : Int} (hp : pw m = p) (a : Int) : okN p (fun _ => a) 1 = inP a m := by
  rw [Bool.eq_iff_iff, okN_one, inP_iff, hp]

/-- how many bytes a number takes, of at most f -/
def cnt : Nat → Nat → Nat
  | 0, _ => 0
  | f + 1, p => if p = 0 then 0 else 1 + cnt f (p / 256)
theorem cnt_step {f p : Nat} (h : p ≠ 0) : cnt (f + 1) p = 1 + cnt f (p / 256) := by show (if p = 0 then 0 else _) = _; rw [if_neg h]
theorem cnt_zero (f : Nat) : cnt f 0 = 0 := by cases f <;> rfl
/-- the width of 10^m - 1 -/
def wd (m : Int) : Nat := cnt 8 (pw m - 1)
theorem pw_lt8 (m : Int) : pw m - 1 < 256 ^ 8 := by have := pw_le m; have : (256 : Nat) ^ 8 = 18446744073709551616 := by decide
                                                    omega
theorem wd_none {m : Int} (h : pw m = 0) : wd m = 0 := by unfold wd; rw [h]; rfl
theorem wd_bits : ∀ k, k < 17 → (Lib.bitLen (10 ^ k - 1) + 7) / 8 = cnt 8 (10 ^ k - 1) := by decide +kernel
theorem wd_len {m : Int} (h : pw m ≠ 0) : (Lib.bitLen (pw m - 1) + 7) / 8 = wd m := by
  obtain ⟨k, rfl, h1, h2, h3, _⟩ := pw_ten h
  unfold wd
  rw [h3]
  exact wd_bits k (by omega)
theorem bits_le : ∀ k, k < 17 → Lib.bitLen (10 ^ k - 1) ≤ 64 := by decide +kernel
theorem wd_le {m : Int} : wd m ≤ 8 := by
  by_cases h : pw m = 0
  · rw [wd_none h]; omega
  · obtain ⟨k, rfl, h1, h2, h3, _⟩ := pw_ten h
    rw [← wd_len h, h3]
    have := bits_le k (by omega)
    omega

/-- what is left of the first i bytes, modulo p -/
def restN (p : Nat) (b : Nat → Nat) : Nat → Nat
  | 0 => 0
  | i + 1 => (256 * restN p b i + b i) % p
theorem restN_lt {p : Nat} (hp : 0 < p) (b : Nat → Nat) (i : Nat) : restN p b i < p := by
  cases i with
  | zero => exact hp
  | succ i => exact Nat.mod_lt _ hp
theorem restN_congr {p : Nat} {b c : Nat → Nat} (i : Nat) (h : ∀ j, j < i → b j = c j) : restN p b i = restN p c i := by
  induction i with
  | zero => rfl
  | succ i ih => show (256 * restN p b i + b i) % p = (256 * restN p c i + c i) % p; rw [ih fun j hj => h j (by omega), h i (by omega)]
/-- k times doubled -/
def dbl (p r : Nat) : Nat → Nat
  | 0 => r
  | k + 1 => (dbl p r k + dbl p r k) % p
theorem dbl_mod (p r : Nat) (hr : r < p) (k : Nat) : dbl p r k = (2 ^ k * r) % p := by
  induction k with
  | zero => rw [Nat.pow_zero, Nat.one_mul, Nat.mod_eq_of_lt hr]; rfl
  | succ k ih =>
    show (dbl p r k + dbl p r k) % p = _
    rw [ih, ← Nat.add_mod, Nat.pow_succ]
    congr 1
    rw [Nat.mul_comm (2 ^ k) 2, Nat.mul_assoc]; omega
theorem dbl_lt (p r : Nat) (hr : r < p) (k : Nat) : dbl p r k < p := by rw [dbl_mod p r hr]; exact Nat.mod_lt _ (by omega)
/-- behind other bytes it goes on from those -/
theorem dbl_go (p r b : Nat) (hr : r < p) : (dbl p r 8 + b % p) % p = (256 * r + b) % p := by rw [dbl_mod p r hr, ← Nat.add_mod]

/-! The codes and values of the calls. -/
def vE (s : ByteArray) : Int := if s.size = 0 then 1 else if 16 < s.size then 2 else dnE s
def vV (s : ByteArray) : Int := if vE s = 0 then dnV s else 0
def gE (n m : Int) : Int := if inP n m = true then 0 else 1
def gV (n m : Int) : ByteArray := if inP n m = true then strOf m.toNat (td n.toNat m.toNat) else ⟨#[]⟩
def rE (len : Nat) (m : Int) : Int := if pw m = 0 then 1 else if 64 < len then 2 else 0
def rV (len : Nat) (b : Nat → Nat) (m : Int) : Int := if rE len m = 0 then (restN (pw m) b len : Nat) else 0
def tE (a b m : Int) : Int := if inP a m = true ∧ inP b m = true then 0 else 1
def aV (a b m : Int) : Int := if tE a b m = 0 then (a + b) % (pw m : Int) else 0
def sV (a b m : Int) : Int := if tE a b m = 0 then (a - b + (pw m : Int)) % (pw m : Int) else 0
theorem gE_pos {n m : Int} (h : inP n m = true) : gE n m = 0 := if_pos h
theorem gE_neg {n m : Int} (h : ¬ inP n m = true) : gE n m = 1 := if_neg h
theorem gV_neg {n m : Int} (h : ¬ inP n m = true) : gV n m = ⟨#[]⟩ := if_neg h
theorem tE_pos {a b m : Int} (h : inP a m = true) (h' : inP b m = true) : tE a b m = 0 := if_pos ⟨h, h'⟩
theorem tE_neg {a b m : Int} (h : ¬ (inP a m = true ∧ inP b m = true)) : tE a b m = 1 := if_neg h
theorem text_in {n m : Int} (h : inP n m = true) : textE n m = 0 ∧ textV n m = gV n m := by
  obtain ⟨h0, h1⟩ := (inP_iff n m).1 h
  obtain ⟨k, rfl, hk1, hk2, hp, _⟩ := pw_ten (inP_pos h)
  obtain ⟨n, rfl⟩ := Int.eq_ofNat_of_zero_le h0
  have hz : n / 10 ^ k = 0 := Nat.div_eq_of_lt (by rw [← hp]; omega)
  have he := textE_fit hk1 (show k ≤ 19 by omega) hz
  exact ⟨he, by unfold textV gV; rw [if_pos he, if_pos h]⟩
end Go.Proofs.YtejljmpjdhdoiaaDoor
