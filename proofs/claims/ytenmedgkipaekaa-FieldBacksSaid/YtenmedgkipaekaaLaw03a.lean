/- The laws of layer 3. -/
import Derived.Test.YtenmedgkipaekaaFldS
import Derived.Test.YtenmedgkipaekaaGfP
import Derived.OpenShut
namespace Go.Proofs.Ytenmedgkipaekaa
open Go.ChangeShapes Go.WideShapes Go.ChangeAt Go.RowKit

theorem byte_of {a : Int} (h : (Lit.int .u8 a).wf = true) : ∃ n : Nat, a = (n : Int) ∧ n < 256 := by
  have := bounds_u8 h
  exact ⟨a.toNat, by omega, by omega⟩

set_option maxHeartbeats 800000 in
theorem small_any (w : World) :
    Calls Try.prog 11 #[] w fun e w' => e = .returned (.bool true) ∧ w = w' := by
  have i1 : ginv 83 = 202 := by rw [ginv_fast (by decide)]; decide +kernel
  have i2 : ginv 202 = 83 := by rw [ginv_fast (by decide)]; decide +kernel
  have b1 : box 83 = 237 := by unfold box; rw [i1]; decide +kernel
  have b2 : unbox 237 = 83 := by unfold unbox; rw [show unmix 237 = 202 by decide +kernel, i2]
  have c1 := mul_any 87 131 w (by decide) (by decide)
  rw [show gm 87 131 = 193 by decide +kernel] at c1
  have c2 := inv_any 83 w (by decide)
  rw [i1] at c2
  have c3 := box_any 83 w (by decide)
  rw [b1] at c3
  have c4 := unbox_any 237 w (by decide)
  rw [b2] at c4
  have c5 := pow_any 2 8 w (by decide) (by decide)
  rw [show gpow 2 (8 : Int).toNat = 27 by decide +kernel] at c5
  have C1 := Lib.hid (show Calls Try.prog 12 #[.int .u8 87, .int .u8 131] w fun e w' => e = .returned (.int .u8 193) ∧ w = w' from c1)
  have C2 := Lib.hid (show Calls Try.prog 16 #[.int .u8 83] w fun e w' => e = .returned (.int .u8 202) ∧ w = w' from c2)
  have C3 := Lib.hid (show Calls Try.prog 18 #[.int .u8 83] w fun e w' => e = .returned (.int .u8 237) ∧ w = w' from c3)
  have C4 := Lib.hid (show Calls Try.prog 20 #[.int .u8 237] w fun e w' => e = .returned (.int .u8 83) ∧ w = w' from c4)
  have C5 := Lib.hid (show Calls Try.prog 14 #[.int .u8 2, .int .i64 8] w fun e w' => e = .returned (.int .u8 27) ∧ w = w' from c5)
  clear i1 i2 b1 b2 c1 c2 c3 c4 c5
  go_enter Try.func11, Try.ntmps11
  go_wp2_with ((first | (go_at_call 12; with_reducible refine C1.out.mono ?_) | (go_at_call 16; with_reducible refine C2.out.mono ?_) | (go_at_call 18; with_reducible refine C3.out.mono ?_) | (go_at_call 20; with_reducible refine C4.out.mono ?_) | (go_at_call 14; with_reducible refine C5.out.mono ?_)); rintro e w' ⟨rfl, rfl⟩)
  go_ret
  exact ⟨rfl, rfl⟩

theorem muls_any (a b : Nat) (w : World) (ha : a < 256) (hb : b < 256) :
    Calls Try.prog 3 #[.int .u8 a, .int .u8 b] w fun e w' => e = .returned (.bool true) ∧ w = w' := by
  go_enter Try.func3, Try.ntmps3
  go_wp2_with ((first | (go_at_call 11; refine (small_any _).mono ?_) | (go_at_call 12; refine (mul_any _ _ _ ha hb).mono ?_) | (go_at_call 13; refine (rmul_any _ _ _ ha hb).mono ?_)); rintro e w' ⟨rfl, rfl⟩)
  go_ret
  exact ⟨rfl, rfl⟩

theorem pows_any (a : Nat) (n : Int) (w : World) (ha : a < 256) (hn : n ≤ 9223372036854775807) :
    Calls Try.prog 4 #[.int .u8 a, .int .i64 n] w fun e w' => e = .returned (.bool true) ∧ w = w' := by
  go_enter Try.func4, Try.ntmps4
  go_wp2_with ((first | (go_at_call 11; refine (small_any _).mono ?_) | (go_at_call 14; refine (pow_any _ _ _ ha hn).mono ?_) | (go_at_call 15; refine (rpow_any _ _ _ ha hn).mono ?_) | (go_at_call 16; refine (inv_any _ _ ha).mono ?_) | (go_at_call 17; refine (rinv_any _ _ ha).mono ?_)); rintro e w' ⟨rfl, rfl⟩)
  go_ret
  exact ⟨rfl, rfl⟩

theorem maps_any (a : Nat) (w : World) (ha : a < 256) :
    Calls Try.prog 5 #[.int .u8 a] w fun e w' => e = .returned (.bool true) ∧ w = w' := by
  go_enter Try.func5, Try.ntmps5
  go_wp2_with ((first | (go_at_call 11; refine (small_any _).mono ?_) | (go_at_call 18; refine (box_any _ _ ha).mono ?_) | (go_at_call 19; refine (rbox_any _ _ ha).mono ?_) | (go_at_call 20; refine (unbox_any _ _ ha).mono ?_) | (go_at_call 21; refine (runbox_any _ _ ha).mono ?_)); rintro e w' ⟨rfl, rfl⟩)
  go_ret
  exact ⟨rfl, rfl⟩

theorem squares_any (a b : Nat) (w : World) (ha : a < 256) (hb : b < 256) :
    Calls Try.prog 10 #[.int .u8 a, .int .u8 b] w fun e w' => e = .returned (.bool true) ∧ w = w' := by
  have hx := x8 ha hb
  have hl := xor8 ha hb
  have c1 := mul_any _ _ w hl hl
  rw [gm_square ha hb] at c1
  have C1 := Lib.hid c1
  have C2 := Lib.hid (mul_any a a w ha ha)
  have C3 := Lib.hid (mul_any b b w hb hb)
  have c4 := pow_any a 2 w ha (by decide)
  rw [show gpow a (2 : Int).toNat = gm a a from gpow_two ha] at c4
  have C4 := Lib.hid c4
  have h1 := gm_lt a ha
  have h2 := gm_lt b hb
  have hy := x8 h1 h2
  clear c1 c4
  generalize gm a a = p at *
  generalize gm b b = q at *
  go_enter Try.func10, Try.ntmps10
  go_wp2_with ((first | (go_at_call 11; refine (small_any _).mono ?_) | (go_at_call 12; (first | (with_reducible refine C1.out.mono ?_) | (with_reducible refine C2.out.mono ?_) | (with_reducible refine C3.out.mono ?_))) | (go_at_call 14; refine C4.out.mono ?_)); rintro e w' ⟨rfl, rfl⟩)
  go_ret
  exact ⟨rfl, rfl⟩
end Go.Proofs.Ytenmedgkipaekaa
