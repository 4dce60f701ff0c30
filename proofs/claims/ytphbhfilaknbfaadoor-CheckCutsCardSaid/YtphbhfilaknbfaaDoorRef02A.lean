/- The document's own answer for layer 2: Sum. -/
import Derived.Test.YtphbhfilaknbfaaDoorCrc
import Derived.Test.YtphbhfilaknbfaaDoorAppB
namespace Go.Proofs.YtphbhfilaknbfaaDoor
open Go.RowKit

theorem bstep_even (s : Nat) (h : s % 2 = 0) : bstep s = s / 2 := by unfold bstep; rw [if_neg (by omega)]
theorem bstep_odd (s : Nat) (h : s % 2 = 1) : bstep s = s / 2 ^^^ 3988292384 := by unfold bstep; rw [if_pos h]; rfl

set_option maxHeartbeats 800000 in
theorem rsum_any (A : Option Addr) (n cap : Nat) (f : Nat → Nat) (w : World) (hn : n ≤ 281474976710656) (hA : SlB w A n f) :
    Calls Tryd.prog 13 #[.slice A n cap] w fun e w' => e = .returned (.int .i64 (crc n f : Nat)) ∧ w = w' := by
  have HA := Lib.hid hA
  have HB := Lib.hid (fun j (hj : j ≤ n) => reg_lt 4294967295 f j (by decide) (fun i hi => hA.byte (by omega)))
  clear hA
  go_enter Tryd.func13, Tryd.ntmps13
  go_wp2_with fail
  go_loop [3, 4] (fun s i => ∃ j : Nat, j ≤ n ∧ i = .int .i64 j ∧ s = .int .u32 (reg 4294967295 f j : Nat)) (fun _ i => n - (intOf i).toNat)
  case atStart => exact ⟨0, Nat.zero_le _, rfl, rfl⟩
  case round =>
    obtain ⟨j, hj, rfl, rfl⟩ := hrel
    by_cases hlt : j < n
    · obtain ⟨B, o, rfl, hB, hc⟩ := HA.out (by omega)
      obtain ⟨hb, hcell⟩ := hc j hlt
      have hr := HB.out j hj
      have HS := Lib.hid (show reg 4294967295 f (j + 1) = bsteps 8 (reg 4294967295 f j ^^^ f j) from rfl)
      clear hc
      generalize reg 4294967295 f j = x at *
      generalize f j = y at *
      have hx : bits BinOp.xor .u32 (x : Int) (y : Int) = ((x ^^^ y : Nat) : Int) := u32_xor_nat x y hr (by omega)
      have hxl : x ^^^ y < 4294967296 := Nat.xor_lt_two_pow (n := 32) hr (by omega)
      generalize x ^^^ y = z at *
      go_wp2_with fail
      go_loop [3, 5] (fun s i => ∃ t : Nat, t ≤ 8 ∧ i = .int .i64 t ∧ s = .int .u32 (bsteps t z : Nat)) (fun _ i => 8 - (intOf i).toNat)
      case atStart => exact ⟨0, Nat.zero_le _, rfl, rfl⟩
      case round =>
        obtain ⟨t, ht, rfl, rfl⟩ := hrel
        by_cases htl : t < 8
        · have hlt8 : (t : Int) < 8 := by omega
          have hsl := bsteps_lt t z hxl
          have HT := Lib.hid (show bsteps (t + 1) z = bstep (bsteps t z) from rfl)
          generalize bsteps t z = u at *
          rcases Nat.mod_two_eq_zero_or_one u with h2 | h2
          · have HU := Lib.hid (bstep_even u h2)
            have e1 : (u : Int) % 2 = 0 := by omega
            clear h2
            go_wp2_with fail
            go_round
            case rel => exact ⟨t + 1, by omega, by go_num, by rw [HT.out, HU.out]; rfl⟩
            case measure => simp [intOf]; omega
          · have HU := Lib.hid (bstep_odd u h2)
            have e1 : (u : Int) % 2 = 1 := by omega
            have HX := Lib.hid (show bits BinOp.xor .u32 ((u : Int) / 2) 3988292384 = ((u / 2 ^^^ 3988292384 : Nat) : Int) from u32_xor_nat (u / 2) 3988292384 (by omega) (by decide))
            clear h2
            go_wp2_with fail
            go_round
            case rel => exact ⟨t + 1, by omega, by go_num, by rw [HT.out, HU.out, ← HX.out]⟩
            case measure => simp [intOf]; omega
        · obtain rfl : t = 8 := by omega
          go_wp2_with fail
          go_round
          case rel => exact ⟨j + 1, by omega, by go_num, by rw [HS.out]⟩
          case measure => simp [intOf]; omega
    · obtain rfl : j = n := by omega
      have hr := HB.out j hj
      have HQ := Lib.hid (show ((4294967295 - reg 4294967295 f j : Nat) : Int) = 4294967295 - ((reg 4294967295 f j : Nat) : Int) by omega)
      go_wp2_with fail
      go_ret
      exact ⟨by unfold crc; rw [HQ.out]; rfl, rfl⟩
end Go.Proofs.YtphbhfilaknbfaaDoor
