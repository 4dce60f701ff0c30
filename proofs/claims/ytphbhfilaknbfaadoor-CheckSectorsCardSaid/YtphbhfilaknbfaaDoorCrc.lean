/- The checksum's arithmetic: nothing here hangs on the program. -/
import Derived.Laws.BitsAllLaws
namespace Go.Proofs.YtphbhfilaknbfaaDoor

def poly : Nat := 3988292384
/-- one shift of the register -/
def bstep (s : Nat) : Nat := if s % 2 = 1 then s / 2 ^^^ poly else s / 2
def bsteps : Nat → Nat → Nat
  | 0, s => s
  | k + 1, s => bstep (bsteps k s)
/-- the register behind n bytes -/
def reg (r : Nat) (f : Nat → Nat) : Nat → Nat
  | 0 => r
  | k + 1 => bsteps 8 (reg r f k ^^^ f k)
def crc (n : Nat) (f : Nat → Nat) : Nat := 4294967295 - reg 4294967295 f n

theorem xor_shift (a b : Nat) : (a ^^^ b) / 2 = a / 2 ^^^ b / 2 := Nat.xor_div_two
theorem xor_par (a b : Nat) : (a ^^^ b) % 2 = (a + b) % 2 := by
  have h := congrArg (fun x : Bool => x.toNat) (Nat.testBit_xor (x := a) (y := b) (i := 0))
  simp only [Nat.testBit_zero] at h
  rcases Nat.mod_two_eq_zero_or_one a with h1 | h1 <;> rcases Nat.mod_two_eq_zero_or_one b with h2 | h2 <;> rw [h1, h2] at h <;> rcases Nat.mod_two_eq_zero_or_one (a ^^^ b) with h3 | h3 <;> rw [h3] at h ⊢ <;> first | omega | exact absurd h (by decide)
theorem xor_nil {a b : Nat} (h : a ^^^ b = 0) : a = b := by
  have h2 := congrArg (· ^^^ b) h
  simp only [Nat.xor_assoc, Nat.xor_self, Nat.xor_zero, Nat.zero_xor] at h2
  exact h2
theorem bstep_lin (a b : Nat) : bstep (a ^^^ b) = bstep a ^^^ bstep b := by
  unfold bstep
  rw [xor_par, xor_shift]
  rcases Nat.mod_two_eq_zero_or_one a with h | h <;> rcases Nat.mod_two_eq_zero_or_one b with h' | h'
  · rw [if_neg (by omega), if_neg (by omega), if_neg (by omega)]
  · rw [if_pos (by omega), if_neg (by omega), if_pos (by omega), Nat.xor_assoc]
  · rw [if_pos (by omega), if_pos (by omega), if_neg (by omega), Nat.xor_assoc, Nat.xor_assoc, Nat.xor_comm poly]
  · rw [if_neg (by omega), if_pos (by omega), if_pos (by omega), Nat.xor_assoc, Nat.xor_comm _ poly, ← Nat.xor_assoc poly, Nat.xor_self, Nat.zero_xor]
theorem bsteps_lin (k a b : Nat) : bsteps k (a ^^^ b) = bsteps k a ^^^ bsteps k b := by
  induction k with
  | zero => rfl
  | succ k ih => simp only [bsteps]; rw [ih, bstep_lin]
theorem bstep_lt (s : Nat) (h : s < 4294967296) : bstep s < 4294967296 := by
  unfold bstep
  split
  · exact Nat.xor_lt_two_pow (n := 32) (by omega) (by decide)
  · omega
theorem bsteps_lt (k s : Nat) (h : s < 4294967296) : bsteps k s < 4294967296 := by
  induction k with
  | zero => exact h
  | succ k ih => exact bstep_lt _ ih
theorem bstep_zero (s : Nat) (h : s < 4294967296) (h0 : bstep s = 0) : s = 0 := by
  unfold bstep at h0
  split at h0
  · have : s / 2 = poly := xor_nil h0
    unfold poly at this
    omega
  · omega
theorem bsteps_zero (k s : Nat) (h : s < 4294967296) (h0 : bsteps k s = 0) : s = 0 := by
  induction k with
  | zero => exact h0
  | succ k ih => exact ih (bstep_zero _ (bsteps_lt k s h) h0)
theorem bsteps_of_zero (k : Nat) : bsteps k 0 = 0 := by
  induction k with
  | zero => rfl
  | succ k ih => simp only [bsteps]; rw [ih]; decide
theorem bsteps_inj (k a b : Nat) (ha : a < 4294967296) (hb : b < 4294967296) (h : bsteps k a = bsteps k b) : a = b := by
  have h2 : bsteps k (a ^^^ b) = 0 := by rw [bsteps_lin, h, Nat.xor_self]
  exact xor_nil (bsteps_zero k _ (Nat.xor_lt_two_pow (n := 32) ha hb) h2)
theorem bstep_two (y : Nat) : bstep (2 * y) = y := by unfold bstep; rw [if_neg (by omega)]; omega
theorem bsteps_succ (k s : Nat) : bsteps (k + 1) s = bsteps k (bstep s) := by
  induction k with
  | zero => rfl
  | succ k ih => rw [show bsteps (k + 1 + 1) s = bstep (bsteps (k + 1) s) from rfl, ih]; rfl
theorem bsteps_add (j k s : Nat) : bsteps (j + k) s = bsteps j (bsteps k s) := by
  induction j with
  | zero => rw [Nat.zero_add]; rfl
  | succ j ih => rw [show j + 1 + k = (j + k) + 1 by omega]; show bstep (bsteps (j + k) s) = bstep (bsteps j (bsteps k s)); rw [ih]
theorem bsteps_four (y : Nat) : bsteps 4 (16 * y) = y := by
  rw [show 16 * y = 2 * (2 * (2 * (2 * y))) by omega, bsteps_succ, bstep_two, bsteps_succ, bstep_two, bsteps_succ, bstep_two, bsteps_succ, bstep_two]; rfl
theorem bsteps_eight (y : Nat) : bsteps 8 (256 * y) = y := by
  rw [show 256 * y = 16 * (16 * y) by omega, bsteps_add 4 4, bsteps_four, bsteps_four]

/-- the table of sixteen -/
def tab16 (t : Nat) : Nat := bsteps 4 t
theorem split16 (r : Nat) : r = 16 * (r / 16) ^^^ r % 16 := by
  apply Nat.eq_of_testBit_eq
  intro i
  rw [Nat.testBit_xor]
  have h1 : r.testBit i = (2 ^ 4 * (r / 16) + r % 16).testBit i := by rw [show 2 ^ 4 * (r / 16) + r % 16 = r by omega]
  have h2 : (16 * (r / 16)).testBit i = (2 ^ 4 * (r / 16) + 0).testBit i := by rw [show 2 ^ 4 * (r / 16) + 0 = 16 * (r / 16) by omega]
  rw [h1, h2, Nat.testBit_two_pow_mul_add _ (by omega), Nat.testBit_two_pow_mul_add _ (by decide)]
  by_cases h : i < 4
  · simp [h]
  · have h3 : (r % 16).testBit i = false := Nat.testBit_lt_two_pow (Nat.lt_of_lt_of_le (Nat.mod_lt r (by decide)) (Nat.pow_le_pow_right (n := 2) (by decide) (show 4 ≤ i by omega)))
    rw [if_neg h, if_neg h, h3, Bool.xor_false]
theorem shift4_eq (r : Nat) : r / 16 ^^^ tab16 (r % 16) = bsteps 4 r := by
  conv => rhs; rw [split16 r]
  rw [bsteps_lin, bsteps_four]; rfl
theorem tab16_lt (t : Nat) (h : t < 16) : tab16 t < 4294967296 := bsteps_lt 4 t (by omega)

theorem reg_lt (r : Nat) (f : Nat → Nat) (n : Nat) (hr : r < 4294967296) (hf : ∀ j, j < n → f j < 256) : reg r f n < 4294967296 := by
  induction n with
  | zero => exact hr
  | succ n ih => exact bsteps_lt 8 _ (Nat.xor_lt_two_pow (n := 32) (ih fun j hj => hf j (by omega)) (Nat.lt_trans (hf n (by omega)) (by decide)))
theorem reg_congr (r : Nat) (f g : Nat → Nat) (n : Nat) (h : ∀ j, j < n → f j = g j) : reg r f n = reg r g n := by
  induction n with
  | zero => rfl
  | succ n ih => simp only [reg]; rw [ih fun j hj => h j (by omega), h n (by omega)]
theorem reg_lin (r s : Nat) (f g : Nat → Nat) (n : Nat) : reg (r ^^^ s) (fun j => f j ^^^ g j) n = reg r f n ^^^ reg s g n := by
  induction n with
  | zero => rfl
  | succ n ih =>
    simp only [reg]
    rw [ih, ← bsteps_lin]
    congr 1
    rw [Nat.xor_assoc, Nat.xor_assoc, ← Nat.xor_assoc (reg s g n), Nat.xor_comm (reg s g n) (f n), Nat.xor_assoc]
theorem reg_add (r : Nat) (f : Nat → Nat) (n m : Nat) : reg r f (n + m) = reg (reg r f n) (fun j => f (n + j)) m := by
  induction m with
  | zero => rfl
  | succ m ih => rw [← Nat.add_assoc]; simp only [reg]; rw [ih]
theorem crc_lt (n : Nat) (f : Nat → Nat) : crc n f < 4294967296 := by unfold crc; omega
theorem crc_congr {f g : Nat → Nat} {n : Nat} (h : ∀ j, j < n → f j = g j) : crc n f = crc n g := by unfold crc; rw [reg_congr _ f g n h]
/-- all bits turned -/
theorem not32 (r : Nat) (h : r < 4294967296) : 4294967295 ^^^ r = 4294967295 - r := by
  have h1 := BitVec.toNat_not (x := BitVec.ofNat 32 r)
  have h2 : (~~~ BitVec.ofNat 32 r) = BitVec.allOnes 32 ^^^ BitVec.ofNat 32 r := (BitVec.allOnes_xor).symm
  rw [h2, BitVec.toNat_xor, BitVec.toNat_allOnes, BitVec.toNat_ofNat, Nat.mod_eq_of_lt (by omega)] at h1
  exact h1

/-- four bytes in a row that are not all 0 are seen -/
theorem four_seen (d : Nat → Nat) (a : Nat) (hd : ∀ j, d j < 256) (h0 : reg 0 d a = 0) (h4 : reg 0 d (a + 4) = 0) : d a = 0 ∧ d (a + 1) = 0 ∧ d (a + 2) = 0 ∧ d (a + 3) = 0 := by
  have zero_of : ∀ y x : Nat, x < 256 → 256 * y ^^^ x = 0 → y = 0 ∧ x = 0 := fun y x hx h => by
    have := xor_nil h
    omega
  have byte_of : ∀ x y : Nat, x < 256 → x = 256 * y → x = 0 ∧ y = 0 := fun x y hx h => by omega
  have back : ∀ x y z : Nat, x ^^^ y = z → x = z ^^^ y := fun x y z h => by rw [← h, Nat.xor_assoc, Nat.xor_self, Nat.xor_zero]
  have hl1 := reg_lt 0 d (a + 1) (by decide) (fun j _ => hd j)
  have hl2 := reg_lt 0 d (a + 2) (by decide) (fun j _ => hd j)
  have hl3 := reg_lt 0 d (a + 3) (by decide) (fun j _ => hd j)
  have lt32 : ∀ x y : Nat, x < 4294967296 → y < 256 → x ^^^ y < 4294967296 := fun x y h1 h2 => Nat.xor_lt_two_pow (n := 32) h1 (by omega)
  have lt16 : 256 * d (a + 3) ^^^ d (a + 2) < 65536 := Nat.xor_lt_two_pow (n := 16) (by have := hd (a + 3); omega) (by have := hd (a + 2); omega)
  have lt24 : 256 * (256 * d (a + 3) ^^^ d (a + 2)) ^^^ d (a + 1) < 16777216 := Nat.xor_lt_two_pow (n := 24) (by omega) (by have := hd (a + 1); omega)
  have e3 : reg 0 d (a + 3) = d (a + 3) := xor_nil (bsteps_zero 8 _ (lt32 _ _ hl3 (hd _)) h4)
  have e2 : reg 0 d (a + 2) ^^^ d (a + 2) = 256 * d (a + 3) :=
    bsteps_inj 8 _ _ (lt32 _ _ hl2 (hd _)) (by have := hd (a + 3); omega) (by rw [bsteps_eight]; exact e3)
  have e2' := back _ _ _ e2
  have e1 : reg 0 d (a + 1) ^^^ d (a + 1) = 256 * (256 * d (a + 3) ^^^ d (a + 2)) :=
    bsteps_inj 8 _ _ (lt32 _ _ hl1 (hd _)) (by omega) (by rw [bsteps_eight]; exact e2')
  have e1' := back _ _ _ e1
  have e0 : reg 0 d a ^^^ d a = 256 * (256 * (256 * d (a + 3) ^^^ d (a + 2)) ^^^ d (a + 1)) :=
    bsteps_inj 8 _ _ (lt32 _ _ (by rw [h0]; decide) (hd _)) (by omega) (by rw [bsteps_eight]; exact e1')
  rw [h0, Nat.zero_xor] at e0
  obtain ⟨f0, g0⟩ := byte_of _ _ (hd a) e0
  obtain ⟨g1, f1⟩ := zero_of _ _ (hd _) g0
  obtain ⟨g2, f2⟩ := zero_of _ _ (hd _) g1
  exact ⟨f0, f1, f2, g2⟩
theorem reg_zeros (r : Nat) (d : Nat → Nat) (n m : Nat) (hr : r < 4294967296) (hd : ∀ j, d j < 256) (hz : ∀ j, n ≤ j → j < n + m → d j = 0) : (reg r d (n + m) = 0 ↔ reg r d n = 0) := by
  induction m with
  | zero => exact Iff.rfl
  | succ m ih =>
    rw [← ih fun j h1 h2 => hz j h1 (by omega)]
    rw [← Nat.add_assoc]
    show bsteps 8 (reg r d (n + m) ^^^ d (n + m)) = 0 ↔ _
    rw [hz (n + m) (by omega) (by omega), Nat.xor_zero]
    constructor
    · exact bsteps_zero 8 _ (reg_lt r d _ hr fun j _ => hd j)
    · intro h; rw [h]; exact bsteps_of_zero 8
/-- up to four bytes in a row turned change the sum -/
theorem turned_seen (f d : Nat → Nat) (n a i : Nat) (hf : ∀ j, j < n → f j < 256) (hd : ∀ j, d j < 256) (hz : ∀ j, j < a ∨ a + 4 ≤ j ∨ n ≤ j → d j = 0) (hi : i < n) (hne : d i ≠ 0) :
    crc n (fun j => f j ^^^ d j) ≠ crc n f := by
  intro h
  have hx : ∀ j, j < n → f j ^^^ d j < 256 := fun j hj => Nat.xor_lt_two_pow (n := 8) (hf j hj) (hd j)
  have l1 := reg_lt 4294967295 (fun j => f j ^^^ d j) n (by decide) hx
  have l2 := reg_lt 4294967295 f n (by decide) hf
  have he : reg 4294967295 (fun j => f j ^^^ d j) n = reg 4294967295 f n := by unfold crc at h; omega
  have hl := reg_lin 4294967295 0 f d n
  rw [Nat.xor_zero, he] at hl
  have h0 : reg 0 d n = 0 := by
    have := congrArg (reg 4294967295 f n ^^^ ·) hl
    simp only [Nat.xor_self, ← Nat.xor_assoc, Nat.zero_xor] at this
    exact this.symm
  have ha : reg 0 d a = 0 := by
    have := (reg_zeros 0 d 0 a (by decide) hd fun j _ h2 => hz j (Or.inl (by omega))).2 rfl
    rw [Nat.zero_add] at this; exact this
  have h4 : reg 0 d (a + 4) = 0 := by
    rcases Nat.le_total n (a + 4) with hle | hle
    · have := (reg_zeros 0 d n (a + 4 - n) (by decide) hd fun j h1 _ => hz j (Or.inr (Or.inr h1))).2 h0
      rwa [show n + (a + 4 - n) = a + 4 by omega] at this
    · refine (reg_zeros 0 d (a + 4) (n - (a + 4)) (by decide) hd fun j h1 _ => hz j (Or.inr (Or.inl h1))).1 ?_
      rwa [show a + 4 + (n - (a + 4)) = n by omega]
  obtain ⟨z0, z1, z2, z3⟩ := four_seen d a hd ha h4
  have : ¬ (i < a ∨ a + 4 ≤ i) := fun hc => hne (hz i (hc.imp id Or.inl))
  rcases (show i = a ∨ i = a + 1 ∨ i = a + 2 ∨ i = a + 3 by omega) with rfl | rfl | rfl | rfl <;> contradiction
/-- the sums of three rows and of all three -/
theorem crc_three (f g h : Nat → Nat) (n : Nat) (hf : ∀ j, j < n → f j < 256) (hg : ∀ j, j < n → g j < 256) (hh : ∀ j, j < n → h j < 256) :
    crc n (fun j => f j ^^^ g j ^^^ h j) = crc n f ^^^ crc n g ^^^ crc n h := by
  have l1 := reg_lt 4294967295 f n (by decide) hf
  have l2 := reg_lt 4294967295 g n (by decide) hg
  have l3 := reg_lt 4294967295 h n (by decide) hh
  have l4 := reg_lt 4294967295 (fun j => f j ^^^ g j ^^^ h j) n (by decide) (fun j hj => Nat.xor_lt_two_pow (n := 8) (Nat.xor_lt_two_pow (n := 8) (hf j hj) (hg j hj)) (hh j hj))
  have e1 := reg_lin (4294967295 ^^^ 4294967295) 4294967295 (fun j => f j ^^^ g j) h n
  have e2 := reg_lin 4294967295 4294967295 f g n
  rw [show (4294967295 ^^^ 4294967295 ^^^ 4294967295 : Nat) = 4294967295 by decide] at e1
  unfold crc
  rw [← not32 _ l1, ← not32 _ l2, ← not32 _ l3, ← not32 _ l4, e1, e2]
  generalize reg 4294967295 f n = x
  generalize reg 4294967295 g n = y
  generalize reg 4294967295 h n = z
  apply Nat.eq_of_testBit_eq
  intro i
  simp only [Nat.testBit_xor]
  cases Nat.testBit 4294967295 i <;> cases x.testBit i <;> cases y.testBit i <;> cases z.testBit i <;> rfl
/-- the register behind several rows -/
def regs (r : Nat) (n : Nat → Nat) (f : Nat → Nat → Nat) : Nat → Nat
  | 0 => r
  | k + 1 => reg (regs r n f k) (f k) (n k)
theorem regs_lt (r : Nat) (n : Nat → Nat) (f : Nat → Nat → Nat) (k : Nat) (hr : r < 4294967296) (hf : ∀ i, i < k → ∀ j, j < n i → f i j < 256) : regs r n f k < 4294967296 := by
  induction k with
  | zero => exact hr
  | succ k ih => exact reg_lt _ _ _ (ih fun i hi => hf i (by omega)) (hf k (by omega))
theorem reg_two (r n m : Nat) (f g h : Nat → Nat) (h1 : ∀ j, j < n → h j = f j) (h2 : ∀ j, j < m → h (n + j) = g j) : reg (reg r f n) g m = reg r h (n + m) := by
  rw [reg_add, reg_congr r h f n h1, reg_congr _ (fun j => h (n + j)) g m h2]
end Go.Proofs.YtphbhfilaknbfaaDoor
