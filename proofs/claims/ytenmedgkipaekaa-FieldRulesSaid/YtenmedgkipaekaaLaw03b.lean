/- The laws of layer 3: a field, its steps, its byte maps. -/
import Derived.Test.YtenmedgkipaekaaLaw03a
namespace Go.Proofs.Ytenmedgkipaekaa
open Go.RowKit

set_option maxHeartbeats 1600000 in
theorem rules_any (a b c : Nat) (w : World) (ha : a < 256) (hb : b < 256) (hc : c < 256) :
    Calls Try.prog 6 #[.int .u8 a, .int .u8 b, .int .u8 c] w fun e w' => e = .returned (.bool true) ∧ w = w' := by
  have hx := gm_lt b ha
  have hz := gm_lt c hb
  have hu := xor8 hb hc
  have hv := gm_lt c ha
  have hi := ginv_lt ha
  have c1 := mul_any a b w ha hb
  have c2 := mul_any b a w hb ha
  rw [gm_comm hb ha] at c2
  have c3 := mul_any (gm a b) c w hx hc
  rw [gm_assoc ha hb hc] at c3
  have c4 := mul_any b c w hb hc
  have c5 := mul_any a (gm b c) w ha hz
  have c6 := mul_any a (b ^^^ c) w ha hu
  rw [gm_xor2] at c6
  have c7 := mul_any a c w ha hc
  have c8 : Calls Try.prog 12 #[.int .u8 a, .int .u8 1] w fun e w' => e = .returned (.int .u8 (gm a 1 : Nat)) ∧ w = w' := mul_any a 1 w ha (by decide)
  rw [gm_one ha] at c8
  have c9 := inv_any a w ha
  have c10 := inv_any (ginv a) w hi
  rw [ginv_ginv ha] at c10
  have c11 := mul_any a (ginv a) w ha hi
  have hone : a ≠ 0 → gm a (ginv a) = 1 := gm_inv ha
  have hzero := gm_eq_zero ha hb
  have e1 := x8 hb hc
  have e2 := x8 hx hv
  have key : ∀ (P : Prop), (a = 0 → gm a b = 0 → P) → (a ≠ 0 → gm a (ginv a) = 1 → b = 0 → gm a b = 0 → P) → (a ≠ 0 → gm a (ginv a) = 1 → b ≠ 0 → gm a b ≠ 0 → P) → P := by
    intro P h1 h2 h3
    by_cases k1 : a = 0
    · exact h1 k1 (hzero.2 (Or.inl k1))
    · by_cases k2 : b = 0
      · exact h2 k1 (hone k1) k2 (hzero.2 (Or.inr k2))
      · exact h3 k1 (hone k1) k2 (fun h => (hzero.1 h).elim k1 k2)
  clear hone hzero
  have C1 := Lib.hid c1
  have C2 := Lib.hid c2
  have C3 := Lib.hid c3
  have C4 := Lib.hid c4
  have C5 := Lib.hid c5
  have C6 := Lib.hid c6
  have C7 := Lib.hid c7
  have C8 := Lib.hid c8
  have C9 := Lib.hid c9
  have C10 := Lib.hid c10
  have C11 := Lib.hid c11
  clear c1 c2 c3 c4 c5 c6 c7 c8 c9 c10 c11
  generalize gm a (ginv a) = j at *
  generalize ginv a = i at *
  generalize gm a (gm b c) = y at *
  generalize gm b c = z at *
  generalize gm a c = v at *
  generalize gm a b = x at *
  refine key _ (fun k1 k2 => ?_) (fun k1 k2 k3 k4 => ?_) (fun k1 k2 k3 k4 => ?_)
  · have t1 : ((a : Int) == 0) = true := by rw [beq_iff_eq]; omega
    have t2 : ((x : Int) == 0) = true := by rw [beq_iff_eq]; omega
    clear key k1 k2
    go_enter Try.func6, Try.ntmps6
    go_wp2_with ((first | (go_at_call 11; refine (small_any _).mono ?_) | (go_at_call 12; (first | (with_reducible refine C1.out.mono ?_) | (with_reducible refine C2.out.mono ?_) | (with_reducible refine C3.out.mono ?_) | (with_reducible refine C4.out.mono ?_) | (with_reducible refine C5.out.mono ?_) | (with_reducible refine C6.out.mono ?_) | (with_reducible refine C7.out.mono ?_) | (with_reducible refine C8.out.mono ?_) | (with_reducible refine C11.out.mono ?_))) | (go_at_call 16; (first | (with_reducible refine C9.out.mono ?_) | (with_reducible refine C10.out.mono ?_)))); rintro e w' ⟨rfl, rfl⟩)
    go_ret
    exact ⟨rfl, rfl⟩
  · have t1 : ((a : Int) == 0) = false := by rw [beq_eq_false_iff_ne]; omega
    have t2 : ((x : Int) == 0) = true := by rw [beq_iff_eq]; omega
    have t3 : ((b : Int) == 0) = true := by rw [beq_iff_eq]; omega
    have t4 : ((j : Int) == 1) = true := by rw [beq_iff_eq]; omega
    clear key k1 k2 k3 k4
    go_enter Try.func6, Try.ntmps6
    go_wp2_with ((first | (go_at_call 11; refine (small_any _).mono ?_) | (go_at_call 12; (first | (with_reducible refine C1.out.mono ?_) | (with_reducible refine C2.out.mono ?_) | (with_reducible refine C3.out.mono ?_) | (with_reducible refine C4.out.mono ?_) | (with_reducible refine C5.out.mono ?_) | (with_reducible refine C6.out.mono ?_) | (with_reducible refine C7.out.mono ?_) | (with_reducible refine C8.out.mono ?_) | (with_reducible refine C11.out.mono ?_))) | (go_at_call 16; (first | (with_reducible refine C9.out.mono ?_) | (with_reducible refine C10.out.mono ?_)))); rintro e w' ⟨rfl, rfl⟩)
    go_ret
    exact ⟨rfl, rfl⟩
  · have t1 : ((a : Int) == 0) = false := by rw [beq_eq_false_iff_ne]; omega
    have t2 : ((x : Int) == 0) = false := by rw [beq_eq_false_iff_ne]; omega
    have t3 : ((b : Int) == 0) = false := by rw [beq_eq_false_iff_ne]; omega
    have t4 : ((j : Int) == 1) = true := by rw [beq_iff_eq]; omega
    clear key k1 k2 k3 k4
    go_enter Try.func6, Try.ntmps6
    go_wp2_with ((first | (go_at_call 11; refine (small_any _).mono ?_) | (go_at_call 12; (first | (with_reducible refine C1.out.mono ?_) | (with_reducible refine C2.out.mono ?_) | (with_reducible refine C3.out.mono ?_) | (with_reducible refine C4.out.mono ?_) | (with_reducible refine C5.out.mono ?_) | (with_reducible refine C6.out.mono ?_) | (with_reducible refine C7.out.mono ?_) | (with_reducible refine C8.out.mono ?_) | (with_reducible refine C11.out.mono ?_))) | (go_at_call 16; (first | (with_reducible refine C9.out.mono ?_) | (with_reducible refine C10.out.mono ?_)))); rintro e w' ⟨rfl, rfl⟩)
    go_ret
    exact ⟨rfl, rfl⟩

set_option maxHeartbeats 1600000 in
theorem backs_any (a b : Nat) (w : World) (ha : a < 256) (hb : b < 256) :
    Calls Try.prog 7 #[.int .u8 a, .int .u8 b] w fun e w' => e = .returned (.bool true) ∧ w = w' := by
  have hx := box_lt ha
  have hu := unbox_lt ha
  have hy := box_lt hb
  have c1 := box_any a w ha
  have c2 := unbox_any (box a) w hx
  rw [unbox_box ha] at c2
  have c3 := unbox_any a w ha
  have c4 := box_any (unbox a) w hu
  rw [box_unbox ha] at c4
  have c5 := box_any b w hb
  have hm := box_moves ha
  have key : ∀ (P : Prop), (a = b → box a = box b → P) → (a ≠ b → box a ≠ box b → P) → P := by
    intro P h1 h2
    by_cases k1 : a = b
    · exact h1 k1 (by rw [k1])
    · exact h2 k1 (fun h => k1 (box_inj ha hb h))
  have C1 := Lib.hid c1
  have C2 := Lib.hid c2
  have C3 := Lib.hid c3
  have C4 := Lib.hid c4
  have C5 := Lib.hid c5
  clear c1 c2 c3 c4 c5
  generalize box a = x at *
  generalize unbox a = u at *
  generalize box b = y at *
  obtain ⟨m1, m2⟩ := hm
  have n1 : ((x : Int) == (a : Int)) = false := by rw [beq_eq_false_iff_ne]; omega
  have n2 : ((x : Int) == 255 - (a : Int)) = false := by rw [beq_eq_false_iff_ne]; omega
  have n3 : ((x : Int) != (a : Int)) = true := by rw [bne_iff_ne]; omega
  have n4 : ((x : Int) != 255 - (a : Int)) = true := by rw [bne_iff_ne]; omega
  clear m1 m2
  refine key _ (fun k1 k2 => ?_) (fun k1 k2 => ?_)
  · have t1 : ((a : Int) == (b : Int)) = true := by rw [beq_iff_eq]; omega
    have t2 : ((x : Int) == (y : Int)) = true := by rw [beq_iff_eq]; omega
    clear key k1 k2
    go_enter Try.func7, Try.ntmps7
    go_wp2_with ((first | (go_at_call 11; refine (small_any _).mono ?_) | (go_at_call 18; (first | (with_reducible refine C1.out.mono ?_) | (with_reducible refine C4.out.mono ?_) | (with_reducible refine C5.out.mono ?_))) | (go_at_call 20; (first | (with_reducible refine C2.out.mono ?_) | (with_reducible refine C3.out.mono ?_)))); rintro e w' ⟨rfl, rfl⟩)
    go_ret
    exact ⟨rfl, rfl⟩
  · have t1 : ((a : Int) == (b : Int)) = false := by rw [beq_eq_false_iff_ne]; omega
    have t2 : ((x : Int) == (y : Int)) = false := by rw [beq_eq_false_iff_ne]; omega
    clear key k1 k2
    go_enter Try.func7, Try.ntmps7
    go_wp2_with ((first | (go_at_call 11; refine (small_any _).mono ?_) | (go_at_call 18; (first | (with_reducible refine C1.out.mono ?_) | (with_reducible refine C4.out.mono ?_) | (with_reducible refine C5.out.mono ?_))) | (go_at_call 20; (first | (with_reducible refine C2.out.mono ?_) | (with_reducible refine C3.out.mono ?_)))); rintro e w' ⟨rfl, rfl⟩)
    go_ret
    exact ⟨rfl, rfl⟩

set_option maxHeartbeats 1600000 in
theorem steps_any (a : Nat) (n m : Int) (w : World) (ha : a < 256) :
    Calls Try.prog 8 #[.int .u8 a, .int .i64 n, .int .i64 m] w fun e w' => e = .returned (.bool true) ∧ w = w' := by
  have hn : bits BinOp.and .i64 n 1048575 = n % 1048576 := i64_mask 20 1048575 (by decide) (by decide) n
  have hm : bits BinOp.and .i64 m 1048575 = m % 1048576 := i64_mask 20 1048575 (by decide) (by decide) m
  obtain ⟨i, hi⟩ := Int.eq_ofNat_of_zero_le (show 0 ≤ n % 1048576 by omega)
  obtain ⟨k, hk⟩ := Int.eq_ofNat_of_zero_le (show 0 ≤ m % 1048576 by omega)
  have hil : i < 1048576 := by omega
  have hkl : k < 1048576 := by omega
  rw [hi] at hn
  rw [hk] at hm
  clear hi hk
  have c1 := pow_any a ((i : Int) + k) w ha (by omega)
  rw [show ((i : Int) + k).toNat = i + k by omega, gpow_add ha] at c1
  have c2 := pow_any a i w ha (by omega)
  have c3 := pow_any a k w ha (by omega)
  rw [Int.toNat_natCast] at c2 c3
  have c4 := mul_any (gpow a i) (gpow a k) w (gpow_lt ha _) (gpow_lt ha _)
  have c5 := pow_any a 255 w ha (by decide)
  have h5 : a ≠ 0 → gpow a (255 : Int).toNat = 1 := gpow_255 ha
  have C1 := Lib.hid c1
  have C2 := Lib.hid c2
  have C3 := Lib.hid c3
  have C4 := Lib.hid c4
  have C5 := Lib.hid c5
  clear c1 c2 c3 c4 c5
  generalize gpow a (255 : Int).toNat = q at *
  generalize gm (gpow a i) (gpow a k) = p at *
  generalize gpow a i = x at *
  generalize gpow a k = y at *
  by_cases h0 : a = 0
  · have t1 : ((a : Int) == 0) = true := by rw [beq_iff_eq]; omega
    clear h5 h0
    go_enter Try.func8, Try.ntmps8
    go_wp2_with ((first | (go_at_call 11; refine (small_any _).mono ?_) | (go_at_call 14; (first | (with_reducible refine C1.out.mono ?_) | (with_reducible refine C2.out.mono ?_) | (with_reducible refine C3.out.mono ?_) | (with_reducible refine C5.out.mono ?_))) | (go_at_call 12; refine C4.out.mono ?_)); rintro e w' ⟨rfl, rfl⟩)
    go_ret
    exact ⟨rfl, rfl⟩
  · have t1 : ((a : Int) == 0) = false := by rw [beq_eq_false_iff_ne]; omega
    have t2 : ((q : Int) == 1) = true := by rw [beq_iff_eq, h5 h0]; rfl
    clear h5 h0
    go_enter Try.func8, Try.ntmps8
    go_wp2_with ((first | (go_at_call 11; refine (small_any _).mono ?_) | (go_at_call 14; (first | (with_reducible refine C1.out.mono ?_) | (with_reducible refine C2.out.mono ?_) | (with_reducible refine C3.out.mono ?_) | (with_reducible refine C5.out.mono ?_))) | (go_at_call 12; refine C4.out.mono ?_)); rintro e w' ⟨rfl, rfl⟩)
    go_ret
    exact ⟨rfl, rfl⟩

set_option maxHeartbeats 1600000 in
set_option maxRecDepth 100000 in
theorem powers_any (a : Nat) (w : World) (ha : a < 256) :
    Calls Try.prog 9 #[.int .u8 a] w fun e w' => e = .returned (.bool true) ∧ w = w' := by
  go_enter Try.func9, Try.ntmps9
  go_wp2_with (go_at_call 11; refine (small_any _).mono ?_; rintro e w' ⟨rfl, rfl⟩)
  go_loop [4, 5] (fun t i => ∃ (k t' : Nat), k ≤ 255 ∧ t' ≤ k ∧ t' = times3 a k ∧ t = .int .i64 t' ∧ i = .int .i64 k) (fun _ i => 255 - (intOf i).toNat)
  case atStart => exact ⟨0, 0, by decide, by decide, rfl, rfl, rfl⟩
  case round =>
    obtain ⟨k, t', hk, htl, ht, rfl, rfl⟩ := hrel
    by_cases h0 : k < 255
    · have c := pow_any 3 (k : Int) w (by decide) (by omega)
      rw [Int.toNat_natCast] at c
      have C := Lib.hid (show Calls Try.prog 14 #[.int .u8 3, .int .i64 (k : Int)] w fun e w' => e = .returned (.int .u8 (gpow 3 k : Nat)) ∧ w = w' from c)
      clear c
      by_cases hp : gpow 3 k = a
      · have HT := Lib.hid (show t' + 1 = times3 a (k + 1) by rw [ht]; simp only [times3, if_pos hp])
        have t1 : (((gpow 3 k : Nat) : Int) == (a : Int)) = true := by rw [beq_iff_eq]; omega
        clear ht hp
        generalize gpow 3 k = x at *
        go_wp2_with (go_at_call 14; refine C.out.mono ?_; rintro e w' ⟨rfl, rfl⟩)
        go_round
        case rel => exact ⟨k + 1, t' + 1, by omega, by omega, HT.out, by go_num, by go_num⟩
        case measure => simp [intOf]; omega
      · have HT := Lib.hid (show t' = times3 a (k + 1) by rw [ht]; simp only [times3, if_neg hp]; rfl)
        have t1 : (((gpow 3 k : Nat) : Int) == (a : Int)) = false := by rw [beq_eq_false_iff_ne]; omega
        clear ht hp
        generalize gpow 3 k = x at *
        go_wp2_with (go_at_call 14; refine C.out.mono ?_; rintro e w' ⟨rfl, rfl⟩)
        go_round
        case rel => exact ⟨k + 1, t', by omega, by omega, HT.out, rfl, by go_num⟩
        case measure => simp [intOf]; omega
    · obtain rfl : k = 255 := by omega
      rw [times3_all ha] at ht
      by_cases hz : a = 0
      · rw [if_pos hz] at ht
        subst ht
        have t1 : ((a : Int) == 0) = true := by rw [beq_iff_eq]; omega
        clear hz
        go_wp2_with fail
        go_ret
        exact ⟨rfl, rfl⟩
      · rw [if_neg hz] at ht
        subst ht
        have t1 : ((a : Int) == 0) = false := by rw [beq_eq_false_iff_ne]; omega
        have t2 : ((a : Int) != 0) = true := by rw [bne_iff_ne]; omega
        clear hz
        go_wp2_with fail
        go_ret
        exact ⟨rfl, rfl⟩
end Go.Proofs.Ytenmedgkipaekaa
