/- The field of 256 elements on natural numbers: nothing here hangs on the program. -/
import Derived.Laws.BitsAllLaws
namespace Go.Proofs.Ytgfdnhpfdbaddaa

/-- twice a byte -/
def dbl (a : Nat) : Nat := if a < 128 then 2 * a else (2 * a - 256) ^^^ 27
/-- k rounds of the product -/
def gmk : Nat → Nat → Nat → Nat → Nat
  | 0, _, _, p => p
  | k + 1, a, b, p => gmk k (dbl a) (b / 2) (if b % 2 = 1 then p ^^^ a else p)
def gm (a b : Nat) : Nat := gmk 8 a b 0
def gpow (a : Nat) : Nat → Nat
  | 0 => 1
  | k + 1 => gm (gpow a k) a

theorem xor8 {a b : Nat} (ha : a < 256) (hb : b < 256) : a ^^^ b < 256 := Nat.xor_lt_two_pow (n := 8) ha hb
theorem gx_par (a b : Nat) : (a ^^^ b) % 2 = (a + b) % 2 := by
  have h := congrArg (fun x : Bool => x.toNat) (Nat.testBit_xor (x := a) (y := b) (i := 0))
  simp only [Nat.testBit_zero] at h
  rcases Nat.mod_two_eq_zero_or_one a with h1 | h1 <;> rcases Nat.mod_two_eq_zero_or_one b with h2 | h2 <;> rw [h1, h2] at h <;> rcases Nat.mod_two_eq_zero_or_one (a ^^^ b) with h3 | h3 <;> rw [h3] at h ⊢ <;> first | omega | exact absurd h (by decide)
theorem x4 (a b c d : Nat) : (a ^^^ b) ^^^ (c ^^^ d) = (a ^^^ c) ^^^ (b ^^^ d) := by
  rw [Nat.xor_assoc, ← Nat.xor_assoc b c d, Nat.xor_comm b c, Nat.xor_assoc c b d, ← Nat.xor_assoc]
theorem xor_add2 (k r : Nat) (h : r < 2 ^ k) : 2 ^ k ^^^ r = 2 ^ k + r := by
  apply Nat.eq_of_testBit_eq
  intro i
  rw [Nat.testBit_xor, Nat.testBit_two_pow]
  rcases Nat.lt_trichotomy i k with hi | hi | hi
  · rw [Nat.testBit_two_pow_add_gt hi]
    simp [Nat.ne_of_gt hi]
  · subst hi
    rw [Nat.testBit_two_pow_add_eq, Nat.testBit_lt_two_pow h]
    simp
  · have h1 : r.testBit i = false := Nat.testBit_lt_two_pow (Nat.lt_of_lt_of_le h (Nat.pow_le_pow_right (by decide) (Nat.le_of_lt hi)))
    have h2 : (2 ^ k + r).testBit i = false := Nat.testBit_lt_two_pow (by
      have : 2 ^ (k + 1) ≤ 2 ^ i := Nat.pow_le_pow_right (by decide) hi
      rw [Nat.pow_succ] at this
      omega)
    rw [h1, h2]
    simp [Nat.ne_of_lt hi]

/-- what holds of 0 and of the powers of 2, and of sums of what it holds of, holds of all bytes -/
theorem byte_ind (P : Nat → Prop) (n : Nat) (h0 : P 0) (hb : ∀ i, i < n → P (2 ^ i)) (hx : ∀ a b, a < 2 ^ n → b < 2 ^ n → P a → P b → P (a ^^^ b)) : ∀ a, a < 2 ^ n → P a := by
  have key : ∀ k, k ≤ n → ∀ a, a < 2 ^ k → P a := by
    intro k
    induction k with
    | zero =>
      intro _ a ha
      obtain rfl : a = 0 := by simp at ha; exact ha
      exact h0
    | succ k ih =>
      intro hk a ha
      by_cases hlt : a < 2 ^ k
      · exact ih (by omega) a hlt
      · have hp : 2 ^ (k + 1) ≤ 2 ^ n := Nat.pow_le_pow_right (by decide) hk
        have hs : 2 ^ (k + 1) = 2 ^ k * 2 := Nat.pow_succ 2 k
        have hr : a - 2 ^ k < 2 ^ k := by omega
        have e : a = 2 ^ k ^^^ (a - 2 ^ k) := by rw [xor_add2 k _ hr]; omega
        rw [e]
        exact hx _ _ (by omega) (by omega) (hb k (by omega)) (ih (by omega) _ hr)
  exact key n (Nat.le_refl n)

theorem dbl_lt {a : Nat} (h : a < 256) : dbl a < 256 := by
  unfold dbl
  split
  · omega
  · exact xor8 (by omega) (by decide)
theorem dbl_eq : ∀ a, a < 256 → dbl a = (a <<< 1) ^^^ (283 * (a >>> 7)) := by decide +kernel
theorem dbl_lin (a : Nat) (ha : a < 256) (b : Nat) (hb : b < 256) : dbl (a ^^^ b) = dbl a ^^^ dbl b := by
  have k : ∀ x, x < 2 → ∀ y, y < 2 → 283 * (x ^^^ y) = (283 * x) ^^^ (283 * y) := by decide +kernel
  rw [dbl_eq _ (xor8 ha hb), dbl_eq a ha, dbl_eq b hb, Nat.shiftLeft_xor_distrib, Nat.shiftRight_xor_distrib, k _ (by rw [Nat.shiftRight_eq_div_pow]; omega) _ (by rw [Nat.shiftRight_eq_div_pow]; omega), x4]
theorem gmk_lt : ∀ (k a b p : Nat), a < 256 → p < 256 → gmk k a b p < 256
  | 0, _, _, _, _, hp => hp
  | k + 1, a, b, p, ha, hp => by
    unfold gmk
    refine gmk_lt k _ _ _ (dbl_lt ha) ?_
    split
    · exact xor8 hp ha
    · exact hp
theorem gm_lt {a : Nat} (b : Nat) (h : a < 256) : gm a b < 256 := gmk_lt 8 a b 0 h (by decide)
/-- rounds are linear in the second factor -/
theorem gmk_lin2 : ∀ (k a b c p q : Nat), gmk k a (b ^^^ c) (p ^^^ q) = gmk k a b p ^^^ gmk k a c q
  | 0, _, _, _, _, _ => rfl
  | k + 1, a, b, c, p, q => by
    simp only [gmk]
    rw [Nat.xor_div_two, ← gmk_lin2 k]
    congr 1
    rw [gx_par]
    rcases Nat.mod_two_eq_zero_or_one b with h | h <;> rcases Nat.mod_two_eq_zero_or_one c with h' | h'
    · rw [if_neg (by omega), if_neg (by omega), if_neg (by omega)]
    · rw [if_pos (by omega), if_neg (by omega), if_pos (by omega), Nat.xor_assoc]
    · rw [if_pos (by omega), if_pos (by omega), if_neg (by omega), Nat.xor_assoc, Nat.xor_assoc, Nat.xor_comm q]
    · rw [if_neg (by omega), if_pos (by omega), if_pos (by omega), x4, Nat.xor_self, Nat.xor_zero]
/-- and in the first -/
theorem gmk_lin1 : ∀ (k a b c p q : Nat), a < 256 → b < 256 → gmk k (a ^^^ b) c (p ^^^ q) = gmk k a c p ^^^ gmk k b c q
  | 0, _, _, _, _, _, _, _ => rfl
  | k + 1, a, b, c, p, q, ha, hb => by
    simp only [gmk]
    rw [dbl_lin a ha b hb, ← gmk_lin1 k _ _ _ _ _ (dbl_lt ha) (dbl_lt hb)]
    congr 1
    split
    · exact x4 p q a b
    · rfl
theorem gm_xor2 (a b c : Nat) : gm a (b ^^^ c) = gm a b ^^^ gm a c := gmk_lin2 8 a b c 0 0
theorem gm_xor1 (a b c : Nat) (ha : a < 256) (hb : b < 256) : gm (a ^^^ b) c = gm a c ^^^ gm b c := gmk_lin1 8 a b c 0 0 ha hb
theorem gm_zero2 (a : Nat) : gm a 0 = 0 := by
  have h := gm_xor2 a 0 0
  rw [Nat.xor_self, Nat.xor_self] at h
  exact h
theorem gm_zero1 (b : Nat) : gm 0 b = 0 := by
  have h := gm_xor1 0 0 b (by decide) (by decide)
  rw [Nat.xor_self, Nat.xor_self] at h
  exact h

/-- two products of bytes, linear in each, are equal where they are at powers of 2 -/
theorem bilin (f g : Nat → Nat → Nat) (hf0 : ∀ a, f a 0 = g a 0) (hf0' : ∀ b, f 0 b = g 0 b)
    (hf1 : ∀ a b c, a < 256 → b < 256 → c < 256 → f (a ^^^ b) c = f a c ^^^ f b c) (hg1 : ∀ a b c, a < 256 → b < 256 → c < 256 → g (a ^^^ b) c = g a c ^^^ g b c)
    (hf2 : ∀ a b c, a < 256 → b < 256 → c < 256 → f a (b ^^^ c) = f a b ^^^ f a c) (hg2 : ∀ a b c, a < 256 → b < 256 → c < 256 → g a (b ^^^ c) = g a b ^^^ g a c)
    (h : ∀ i, i < 8 → ∀ j, j < 8 → f (2 ^ i) (2 ^ j) = g (2 ^ i) (2 ^ j)) : ∀ a, a < 256 → ∀ b, b < 256 → f a b = g a b := by
  have pw : ∀ i, i < 8 → 2 ^ i < 256 := fun i hi => Nat.lt_of_lt_of_le (Nat.pow_lt_pow_right (by decide) hi) (by decide)
  refine byte_ind (fun a => ∀ b, b < 256 → f a b = g a b) 8 (fun b _ => hf0' b) (fun i hi => ?_) (fun a a' ha ha' ih ih' b hb => by rw [hf1 a a' b ha ha' hb, hg1 a a' b ha ha' hb, ih b hb, ih' b hb])
  refine byte_ind (fun b => f (2 ^ i) b = g (2 ^ i) b) 8 (hf0 _) (fun j hj => h i hi j hj) (fun b b' hb hb' ih ih' => by rw [hf2 _ b b' (pw i hi) hb hb', hg2 _ b b' (pw i hi) hb hb', ih, ih'])

theorem gm_comm {a b : Nat} (ha : a < 256) (hb : b < 256) : gm a b = gm b a :=
  bilin gm (fun a b => gm b a) (fun a => by rw [gm_zero2, gm_zero1]) (fun b => by rw [gm_zero2, gm_zero1]) (fun a b c ha hb _ => gm_xor1 a b c ha hb) (fun a b c _ _ _ => gm_xor2 c a b)
    (fun a b c _ _ _ => gm_xor2 a b c) (fun a b c _ hb hc => gm_xor1 b c a hb hc) (by decide +kernel) a ha b hb

theorem gm_assoc {a b c : Nat} (ha : a < 256) (hb : b < 256) (hc : c < 256) : gm (gm a b) c = gm a (gm b c) := by
  have pw : ∀ i, i < 8 → 2 ^ i < 256 := fun i hi => Nat.lt_of_lt_of_le (Nat.pow_lt_pow_right (by decide) hi) (by decide)
  have base : ∀ i, i < 8 → ∀ j, j < 8 → ∀ k, k < 8 → gm (gm (2 ^ i) (2 ^ j)) (2 ^ k) = gm (2 ^ i) (gm (2 ^ j) (2 ^ k)) := by decide +kernel
  have step : ∀ k, k < 8 → ∀ a, a < 256 → ∀ b, b < 256 → gm (gm a b) (2 ^ k) = gm a (gm b (2 ^ k)) := fun k hk =>
    bilin (fun a b => gm (gm a b) (2 ^ k)) (fun a b => gm a (gm b (2 ^ k))) (fun a => by simp only [gm_zero2, gm_zero1]) (fun b => by simp only [gm_zero1])
      (fun a b c ha hb _ => by rw [gm_xor1 a b c ha hb, gm_xor1 _ _ _ (gm_lt c ha) (gm_lt c hb)]) (fun a b c ha hb _ => gm_xor1 a b _ ha hb)
      (fun a b c ha _ _ => by rw [gm_xor2, gm_xor1 _ _ _ (gm_lt b ha) (gm_lt c ha)]) (fun a b c _ hb hc => by rw [gm_xor1 b c _ hb hc, gm_xor2])
      (fun i hi j hj => base i hi j hj k hk)
  exact byte_ind (fun c => gm (gm a b) c = gm a (gm b c)) 8 (by simp only [gm_zero2]) (fun k hk => step k hk a ha b hb) (fun x y hx hy ih ih' => by
    rw [gm_xor2, gm_xor2 b, gm_xor2 a, ih, ih']) c hc
theorem gm_one {a : Nat} (h : a < 256) : gm a 1 = a := by
  have : ∀ a, a < 256 → gm a 1 = a := by decide +kernel
  exact this a h
theorem one_gm {a : Nat} (h : a < 256) : gm 1 a = a := by rw [gm_comm (by decide) h, gm_one h]

theorem gpow_lt {a : Nat} (h : a < 256) : ∀ n, gpow a n < 256
  | 0 => (by decide : 1 < 256)
  | n + 1 => gm_lt a (gpow_lt h n)
theorem gpow_add {a : Nat} (h : a < 256) (m : Nat) : ∀ n, gpow a (m + n) = gm (gpow a m) (gpow a n)
  | 0 => (gm_one (gpow_lt h m)).symm
  | n + 1 => by
    show gm (gpow a (m + n)) a = gm (gpow a m) (gm (gpow a n) a)
    rw [gpow_add h m n, gm_assoc (gpow_lt h m) (gpow_lt h n) h]
theorem gpow_two {a : Nat} (h : a < 256) : gpow a 2 = gm a a := by
  show gm (gm 1 a) a = _
  rw [one_gm h]
theorem gpow_sq {a : Nat} (h : a < 256) (n : Nat) : gpow (gm a a) n = gpow a (2 * n) := by
  induction n with
  | zero => rfl
  | succ n ih =>
    show gm (gpow (gm a a) n) (gm a a) = gpow a (2 * n + 2)
    rw [ih, gpow_add h, gpow_two h]
theorem gpow_zero {n : Nat} (h : 0 < n) : gpow 0 n = 0 := by
  cases n with
  | zero => omega
  | succ n => exact gm_zero2 _

/-- by squares: what is computed fast -/
def gfast (a : Nat) : Nat := 
  let b := gm a a; let c := gm b b; let d := gm c c; let e := gm d d; let f := gm e e; let g := gm f f; let h := gm g g
  gm (gm (gm (gm (gm (gm b c) d) e) f) g) h
def ginv (a : Nat) : Nat := gpow a 254
theorem ginv_fast {a : Nat} (h : a < 256) : ginv a = gfast a := by
  have e2 : ∀ k, gm (gpow a k) (gpow a k) = gpow a (2 * k) := fun k => by rw [← gpow_add h]; congr 1; omega
  have g1 : a = gpow a 1 := (one_gm h).symm
  unfold gfast ginv
  simp only []
  have h1 : gm a a = gpow a 2 := (gpow_two h).symm
  rw [h1]
  simp only [e2, Nat.reduceMul, ← gpow_add h, Nat.reduceAdd]
theorem ginv_lt {a : Nat} (h : a < 256) : ginv a < 256 := gpow_lt h _
theorem gm_inv {a : Nat} (h : a < 256) (h0 : a ≠ 0) : gm a (ginv a) = 1 := by
  have key : ∀ a, a < 256 → a ≠ 0 → gm a (gfast a) = 1 := by decide +kernel
  rw [ginv_fast h]
  exact key a h h0
theorem ginv_zero : ginv 0 = 0 := gpow_zero (by decide)
theorem gpow_255 {a : Nat} (h : a < 256) (h0 : a ≠ 0) : gpow a 255 = 1 := by
  show gm (gpow a 254) a = 1
  rw [gm_comm (gpow_lt h _) h]
  exact gm_inv h h0
theorem ginv_ne {a : Nat} (h : a < 256) (h0 : a ≠ 0) : ginv a ≠ 0 := fun e => by
  have := gm_inv h h0
  rw [e, gm_zero2] at this
  exact absurd this (by decide)
/-- one inverse -/
theorem ginv_only {a b : Nat} (ha : a < 256) (hb : b < 256) (h : gm a b = 1) : b = ginv a := by
  have h0 : a ≠ 0 := fun e => by rw [e, gm_zero1] at h; exact absurd h (by decide)
  have e := gm_assoc (ginv_lt ha) ha hb
  rw [h, gm_comm (ginv_lt ha) ha, gm_inv ha h0, one_gm hb, gm_one (ginv_lt ha)] at e
  exact e
theorem ginv_ginv {a : Nat} (h : a < 256) : ginv (ginv a) = a := by
  by_cases h0 : a = 0
  · subst h0
    rw [ginv_zero, ginv_zero]
  · exact (ginv_only (ginv_lt h) h (by rw [gm_comm (ginv_lt h) h]; exact gm_inv h h0)).symm
theorem gm_eq_zero {a b : Nat} (ha : a < 256) (hb : b < 256) : gm a b = 0 ↔ a = 0 ∨ b = 0 := by
  refine ⟨fun h => ?_, fun h => by rcases h with rfl | rfl; exact gm_zero1 _; exact gm_zero2 _⟩
  by_cases h0 : a = 0
  · exact Or.inl h0
  · right
    have e := gm_assoc (ginv_lt ha) ha hb
    rw [h, gm_zero2, gm_comm (ginv_lt ha) ha, gm_inv ha h0, one_gm hb] at e
    exact e
theorem gpow_mod {a : Nat} (h : a < 256) (h0 : a ≠ 0) (n : Nat) : gpow a (n % 255) = gpow a n := by
  have key : ∀ q r, gpow a (255 * q + r) = gpow a r := by
    intro q
    induction q with
    | zero => intro r; rw [Nat.mul_zero, Nat.zero_add]
    | succ q ih =>
      intro r
      rw [show 255 * (q + 1) + r = 255 + (255 * q + r) by omega, gpow_add h, gpow_255 h h0, one_gm (gpow_lt h _), ih]
  conv => rhs; rw [← Nat.div_add_mod n 255]
  exact (key _ _).symm

/-- a byte turned left -/
def rotl (a k : Nat) : Nat := (a * 2 ^ k) % 256 ||| a / 2 ^ (8 - k)
def gbox (i : Nat) : Nat := i ^^^ rotl i 1 ^^^ rotl i 2 ^^^ rotl i 3 ^^^ rotl i 4 ^^^ 99
def box (a : Nat) : Nat := gbox (ginv a)
def unmix (a : Nat) : Nat := rotl a 1 ^^^ rotl a 3 ^^^ rotl a 6 ^^^ 5
def unbox (a : Nat) : Nat := ginv (unmix a)
theorem gbox_lt {a : Nat} (h : a < 256) : gbox a < 256 := by
  have : ∀ a, a < 256 → gbox a < 256 := by decide +kernel
  exact this a h
theorem unmix_lt {a : Nat} (h : a < 256) : unmix a < 256 := by
  have : ∀ a, a < 256 → unmix a < 256 := by decide +kernel
  exact this a h
theorem unmix_gbox {a : Nat} (h : a < 256) : unmix (gbox a) = a := by
  have : ∀ a, a < 256 → unmix (gbox a) = a := by decide +kernel
  exact this a h
theorem gbox_unmix {a : Nat} (h : a < 256) : gbox (unmix a) = a := by
  have : ∀ a, a < 256 → gbox (unmix a) = a := by decide +kernel
  exact this a h
theorem box_lt {a : Nat} (h : a < 256) : box a < 256 := gbox_lt (ginv_lt h)
theorem unbox_lt {a : Nat} (h : a < 256) : unbox a < 256 := ginv_lt (unmix_lt h)
theorem unbox_box {a : Nat} (h : a < 256) : unbox (box a) = a := by
  unfold unbox box
  rw [unmix_gbox (ginv_lt h), ginv_ginv h]
theorem box_unbox {a : Nat} (h : a < 256) : box (unbox a) = a := by
  unfold unbox box
  rw [ginv_ginv (unmix_lt h), gbox_unmix h]
theorem box_inj {a b : Nat} (ha : a < 256) (hb : b < 256) (h : box a = box b) : a = b := by rw [← unbox_box ha, h, unbox_box hb]
theorem box_moves {a : Nat} (h : a < 256) : box a ≠ a ∧ box a ≠ 255 - a := by
  have : ∀ a, a < 256 → gbox (gfast a) ≠ a ∧ gbox (gfast a) ≠ 255 - a := by decide +kernel
  have := this a h
  rw [← ginv_fast h] at this
  exact this
/-- the square of a sum -/
theorem gm_square {a b : Nat} (ha : a < 256) (hb : b < 256) : gm (a ^^^ b) (a ^^^ b) = gm a a ^^^ gm b b := by
  rw [gm_xor1 a b _ ha hb, gm_xor2 a, gm_xor2 b, gm_comm ha hb, Nat.xor_assoc, ← Nat.xor_assoc (gm b a), Nat.xor_self, Nat.zero_xor]
end Go.Proofs.Ytgfdnhpfdbaddaa
