/- Contracts of package sha: words. -/
import Derived.Test.YtogcfaijphpgfaaDoorRowV
import Derived.Test.YtogcfaijphpgfaaDoorSha
import Derived.Laws.BitsAllLaws
namespace Go.Proofs.YtogcfaijphpgfaaDoor
open Go.RowKit
theorem rot_any (x n : Nat) (w : World) (hx : x < 4294967296) (h1 : 1 ≤ n) (h2 : n ≤ 31) :
    Calls Tryd.prog 60 #[.int .u32 x, .int .i64 (-(n : Int))] w fun e w' => e = .returned (.int .u32 (rr n x : Nat)) ∧ w = w' := by
  obtain ⟨m, hm⟩ : ∃ m, 32 - n = m := ⟨_, rfl⟩
  have hb : bits BinOp.and .u64 (IntKind.u64.wrap (-(n : Int))) 31 = ((m : Nat) : Int) := by
    have e : IntKind.u64.wrap (-(n : Int)) = ((18446744073709551616 - n : Nat) : Int) := by
      simp [IntKind.wrap, IntKind.bits, IntKind.signed]; omega
    rw [e]
    refine (u64_and_nat _ 31 (by omega) (by decide)).trans ?_
    rw [show ((18446744073709551616 - n) &&& 31) = (18446744073709551616 - n) % 32 from Nat.and_two_pow_sub_one_eq_mod _ 5]
    omega
  have hx1 : x * 2 ^ m % 4294967296 < 4294967296 := Nat.mod_lt _ (by decide)
  have hx2 : x / 2 ^ n < 4294967296 := Nat.lt_of_le_of_lt (Nat.div_le_self _ _) hx
  have ho : bits BinOp.or .u32 ((x : Int) * 2 ^ m % 4294967296) ((x : Int) / 2 ^ (32 - m)) = ((x * 2 ^ m % 4294967296 ||| x / 2 ^ n : Nat) : Int) := by
    rw [← u32_or_nat _ _ hx1 hx2, show 32 - m = n by omega]; simp
  have HR := Lib.hid (show rr n x = x * 2 ^ m % 4294967296 ||| x / 2 ^ n by unfold rr; rw [hm, Nat.or_comm])
  have hm31 : (m : Int) ≤ 31 := by omega
  clear hm hx1 hx2
  generalize x * 2 ^ m % 4294967296 ||| x / 2 ^ n = a at *
  go_enter Tryd.func60, Tryd.ntmps60
  go_wp2
  go_ret
  exact ⟨by rw [HR.out]; rfl, rfl⟩
theorem right_any (n x : Nat) (w : World) (hx : x < 4294967296) (h1 : 1 ≤ n) (h2 : n ≤ 31) :
    Calls Tryd.prog 51 #[.int .u32 x, .int .i64 n] w fun e w' => e = .returned (.int .u32 (rr n x : Nat)) ∧ w = w' := by
  have HR := Lib.hid fun w => rot_any x n w hx h1 h2
  have hn : (n : Int) ≤ 31 := by omega
  go_enter Tryd.func51, Tryd.ntmps51
  go_wp2_with (refine (HR.out _).mono ?_; rintro e w' ⟨rfl, rfl⟩)
  go_ret
  exact ⟨rfl, rfl⟩
theorem turn_any (i j k x : Nat) (w : World) (hx : x < 4294967296) (i1 : 1 ≤ i) (i2 : i ≤ 31) (j1 : 1 ≤ j) (j2 : j ≤ 31) (k1 : 1 ≤ k) (k2 : k ≤ 31) :
    Calls Tryd.prog 44 #[.int .u32 x, .int .i64 i, .int .i64 j, .int .i64 k] w fun e w' => e = .returned (.int .u32 ((rr i x ^^^ rr j x) ^^^ rr k x : Nat)) ∧ w = w' := by
  have H1 := Lib.hid fun w => right_any i x w hx i1 i2
  have H2 := Lib.hid fun w => right_any j x w hx j1 j2
  have H3 := Lib.hid fun w => right_any k x w hx k1 k2
  have ha : rr i x < 4294967296 := rr_lt hx
  have hb : rr j x < 4294967296 := rr_lt hx
  have hc : rr k x < 4294967296 := rr_lt hx
  generalize rr i x = a at *
  generalize rr j x = b at *
  generalize rr k x = c at *
  have hx1 := u32_xor_nat a b ha hb
  have hx2 := u32_xor_nat (a ^^^ b) c (xor32 ha hb) hc
  have hab := xor32 ha hb
  have habc := xor32 hab hc
  go_enter Tryd.func44, Tryd.ntmps44
  go_wp2_with fail
  refine (H1.out _).mono ?_; rintro e w' ⟨rfl, rfl⟩
  go_wp2_with fail
  refine (H2.out _).mono ?_; rintro e w' ⟨rfl, rfl⟩
  go_wp2_with fail
  refine (H3.out _).mono ?_; rintro e w' ⟨rfl, rfl⟩
  go_wp2_with fail
  go_ret
  exact ⟨rfl, rfl⟩
theorem or_add (k a b : Nat) (hb : b < 2 ^ k) : a * 2 ^ k ||| b = a * 2 ^ k + b := by
  rw [Nat.mul_comm, Nat.two_pow_add_eq_or_of_lt hb]
theorem word_or (b0 b1 b2 b3 : Nat) (h0 : b0 < 256) (h1 : b1 < 256) (h2 : b2 < 256) (h3 : b3 < 256) :
    ∃ x1 x2 x3 : Nat, bits BinOp.or .u32 ((b0 : Int) * 16777216) ((b1 : Int) * 65536) = (x1 : Int) ∧ bits BinOp.or .u32 (x1 : Int) ((b2 : Int) * 256) = (x2 : Int) ∧ bits BinOp.or .u32 (x2 : Int) (b3 : Int) = (x3 : Int) ∧
      x3 = b0 * 16777216 + b1 * 65536 + b2 * 256 + b3 := by
  refine ⟨b0 * 16777216 + b1 * 65536, b0 * 16777216 + b1 * 65536 + b2 * 256, b0 * 16777216 + b1 * 65536 + b2 * 256 + b3, ?_, ?_, ?_, rfl⟩
  · rw [show b0 * 16777216 + b1 * 65536 = b0 * 2 ^ 24 ||| b1 * 65536 from (or_add 24 b0 (b1 * 65536) (by omega)).symm]
    exact u32_or_nat (b0 * 16777216) (b1 * 65536) (by omega) (by omega)
  · rw [show b0 * 16777216 + b1 * 65536 + b2 * 256 = (b0 * 256 + b1) * 2 ^ 16 ||| b2 * 256 by rw [or_add 16 _ _ (by omega)]; omega]
    rw [show b0 * 16777216 + b1 * 65536 = (b0 * 256 + b1) * 2 ^ 16 by omega]
    exact u32_or_nat _ (b2 * 256) (by omega) (by omega)
  · rw [show b0 * 16777216 + b1 * 65536 + b2 * 256 + b3 = (b0 * 65536 + b1 * 256 + b2) * 2 ^ 8 ||| b3 by rw [or_add 8 _ _ (by omega)]; omega]
    rw [show b0 * 16777216 + b1 * 65536 + b2 * 256 = (b0 * 65536 + b1 * 256 + b2) * 2 ^ 8 by omega]
    exact u32_or_nat _ b3 (by omega) (by omega)
set_option maxRecDepth 100000 in
theorem wordAt_any (A : Option Addr) (n c : Nat) (b : Nat → Nat) (w : World) (hA : SlB w A n b) (hn : 4 ≤ n) (hn2 : n ≤ 4611686018427387904) :
    Calls Tryd.prog 50 #[.slice A n c] w fun e w' => e = .returned (.int .u32 (be b 0 : Nat)) ∧ ∃ n, w' = w.drewN n := by
  obtain ⟨B, o, rfl, hB, hc⟩ := hA (by omega)
  obtain ⟨h0, c0⟩ := hc 0 (by omega)
  obtain ⟨h1, c1⟩ := hc 1 (by omega)
  obtain ⟨h2, c2⟩ := hc 2 (by omega)
  obtain ⟨h3, c3⟩ := hc 3 (by omega)
  have HR := Lib.hid (show be b 0 = b 0 * 16777216 + b 1 * 65536 + b 2 * 256 + b 3 from rfl)
  clear hc
  generalize b 0 = b0 at *
  generalize b 1 = b1 at *
  generalize b 2 = b2 at *
  generalize b 3 = b3 at *
  rw [Nat.add_zero] at c0
  have hn4 : (4 : Int) ≤ n := by omega
  have hn5 : (n : Int) ≤ 4611686018427387904 := by omega
  obtain ⟨x1, x2, x3, o1, o2, o3, e3⟩ := word_or b0 b1 b2 b3 h0 h1 h2 h3
  have HE := Lib.hid e3
  clear e3
  go_enter Tryd.func50, Tryd.ntmps50
  go_wp2_with fail
  go_quiet (fail)
  go_wp2_with fail
  go_ret
  exact ⟨by rw [HR.out, ← HE.out]; rfl, nq, rfl⟩
/-- a word's four bytes laid over others -/
def putw (a x : Nat) (cur : Nat → Nat) (j : Nat) : Nat := if a ≤ j ∧ j < a + 4 then x / 256 ^ (3 - (j - a)) % 256 else cur j
set_option maxHeartbeats 800000 in
theorem putWord_any (g O a o N n c x : Nat) (w : World) (hx : x < 4294967296) (hn : 4 ≤ n) (hn2 : n ≤ 4611686018427387904) (cur : Nat → Nat) (h : Arr w g O N cur) (ho : o = O + a) (ha : a + 4 ≤ N) :
    Calls Tryd.prog 34 #[.slice (some ⟨g, o, none⟩) n c, .int .u32 x] w fun e w' => e = .returned (.tuple #[]) ∧ (Arr w' g O N (putw a x cur) ∧ Chg g w w') := by
  have hn4 : (4 : Int) ≤ n := by omega
  have hn5 : (n : Int) ≤ 4611686018427387904 := by omega
  have c0 := h.cell (j := a) (k := o) (by omega) (by omega)
  have c1 := h.cell (j := a + 1) (k := o + 1) (by omega) (by omega)
  have c2 := h.cell (j := a + 2) (k := o + 2) (by omega) (by omega)
  have c3 := h.cell (j := a + 3) (k := o + 3) (by omega) (by omega)
  have f0 := h.frozen (j := a) (k := o) (by omega) (by omega)
  have f1 := h.frozen (j := a + 1) (k := o + 1) (by omega) (by omega)
  have f2 := h.frozen (j := a + 2) (k := o + 2) (by omega) (by omega)
  have f3 := h.frozen (j := a + 3) (k := o + 3) (by omega) (by omega)
  have H := Lib.hid h
  have HO := Lib.hid ho
  clear h ho
  go_enter Tryd.func34, Tryd.ntmps34
  go_wp2_with fail
  go_end0
  refine ⟨rfl, ?_, ((((Chg.refl _ _).setCell (a := ⟨g, o, none⟩) (Or.inl rfl) _).setCell (a := ⟨g, o + 1, none⟩) (Or.inl rfl) _).setCell (a := ⟨g, o + 2, none⟩) (Or.inl rfl) _).setCell (a := ⟨g, o + 3, none⟩) (Or.inl rfl) _⟩
  have hO := HO.out
  refine (((((H.out.set (i := a) (by omega) (by omega) (x / 16777216) (by simp)).set (i := a + 1) (by omega) (by omega) (x / 65536 % 256) (by simp)).set (i := a + 2) (by omega) (by omega) (x / 256 % 256) (by simp)).set (i := a + 3) (by omega) (by omega) (x % 256) (by simp)).congr fun j _ => ?_)
  unfold putw
  by_cases h0 : j = a
  · subst h0; rw [if_neg (by omega), if_neg (by omega), if_neg (by omega), if_pos rfl, if_pos ⟨Nat.le_refl _, by omega⟩, Nat.sub_self]; show x / 16777216 = x / 16777216 % 256; omega
  by_cases h1 : j = a + 1
  · subst h1; rw [if_neg (by omega), if_neg (by omega), if_pos rfl, if_pos (by omega), Nat.add_sub_cancel_left]
  by_cases h2 : j = a + 2
  · subst h2; rw [if_neg (by omega), if_pos rfl, if_pos (by omega), Nat.add_sub_cancel_left]
  by_cases h3 : j = a + 3
  · subst h3; rw [if_pos rfl, if_pos (by omega), Nat.add_sub_cancel_left]; show x % 256 = x / 256 ^ 0 % 256; simp
  rw [if_neg h3, if_neg h2, if_neg h1, if_neg h0, if_neg (by omega)]
end Go.Proofs.YtogcfaijphpgfaaDoor
