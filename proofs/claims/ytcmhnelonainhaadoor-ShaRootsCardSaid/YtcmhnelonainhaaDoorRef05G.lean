/- The reference: above. -/
import Derived.Test.YtcmhnelonainhaaDoorRef05F
namespace Go.Proofs.YtcmhnelonainhaaDoor
open Go.RowKit
theorem lone_lt {B k p : Nat} (hp : p < B) (j : Nat) : lone k p j < B := by unfold lone; split <;> omega
theorem above_first {B n k p i : Nat} {a : Nat → Nat} (hk : k < n) (hp : p < B) (ha : ∀ j, j < n → a j < B) (hi : i < n) (h : ∀ j, i + 1 ≤ j → j < n → a j = lone k p j) (hne : a i ≠ lone k p i) : decide (p * B ^ k < num B n a) = decide (lone k p i < a i) := by
  rw [← num_lone B k p n hk]
  rcases Nat.lt_or_ge (lone k p i) (a i) with h1 | h1
  · rw [decide_eq_true h1, decide_eq_true (num_less hi (fun j _ => lone_lt hp j) h1 fun j h2 h3 => (h j h2 h3).symm)]
  · have h2 : a i < lone k p i := by omega
    have h3 := num_less hi (fun j hj => ha j (by omega)) h2 fun j h2 h3 => h j h2 h3
    rw [decide_eq_false (by omega), decide_eq_false (by omega)]
theorem above_none {B n k p : Nat} {a : Nat → Nat} (hk : k < n) (h : ∀ j, 0 ≤ j → j < n → a j = lone k p j) : decide (p * B ^ k < num B n a) = false := by
  rw [← num_lone B k p n hk, num_congr (f := a) (g := lone k p) fun j hj => h j (Nat.zero_le j) hj]
  exact decide_eq_false (Nat.lt_irrefl _)
set_option maxHeartbeats 800000 in
theorem above_any (g n c p k : Nat) (a : Nat → Nat) (w : World) (hn : n ≤ 200) (hk : k < n) (hp : p < 65536) (hA : ArrV w g 0 n (ints a)) (ha : ∀ j, j < n → a j < 65536) :
    Calls Tryd.prog 37 #[.slice (some ⟨g, 0, none⟩) n c, .int .i64 (p : Nat), .int .i64 (k : Nat)] w fun e w' => e = .returned (.bool (decide (p * 65536 ^ k < num 65536 n a))) ∧ w = w' := by
  have HA := Lib.hid hA
  have HYA := Lib.hid ha
  have HK := Lib.hid hk
  clear hA ha hk
  go_enter Tryd.func37, Tryd.ntmps37
  go_wp2_with fail
  go_loopw [7] (fun v7 wr => ∃ m : Nat, m ≤ n ∧ v7 = .int .i64 ((m : Int) - 1) ∧ (∀ j, m ≤ j → j < n → a j = lone k p j) ∧ w = wr) (fun v7 _ => (intOf v7 + 1).toNat)
  case atStart => exact ⟨n, Nat.le_refl _, rfl, fun j h1 h2 => absurd h1 (by omega), rfl⟩
  case round =>
    obtain ⟨m, hm, rfl, hall, rfl⟩ := hrel
    have HAL := Lib.hid hall
    clear hall
    by_cases h0 : 0 < m
    · obtain ⟨i, rfl⟩ : ∃ i, m = i + 1 := ⟨m - 1, by omega⟩
      have hi1 : ((i + 1 : Nat) : Int) - 1 = (i : Nat) := by omega
      rw [hi1]
      have hin : (i : Int) < (n : Nat) := by omega
      have hca := HA.out.cell (j := i) (by omega) (Nat.zero_add i).symm
      obtain ⟨x, hx⟩ : ∃ x, a i = x := ⟨_, rfl⟩
      simp only [ints, hx] at hca
      have HX := Lib.hid hx
      clear hx
      by_cases hik : i = k
      · have hbk : ((i : Int) == (k : Nat)) = true := by simp; omega
        have HLO := Lib.hid (show lone k p i = p from if_pos hik)
        clear hik
        by_cases hxy : x = p
        · have hne : ((x : Int) != (p : Nat)) = false := by simp; omega
          have HXY := Lib.hid hxy
          clear hxy
          go_wp2_with fail
          go_roundw
          case rel => exact ⟨i, by omega, rfl, fun j h1 h2 => by
            rcases Nat.lt_or_ge i j with h3 | h3
            · exact HAL.out j h3 h2
            · obtain rfl : j = i := by omega
              rw [HX.out, HLO.out]; exact HXY.out, trivial⟩
          case measure => simp [intOf]
        · have hne : ((x : Int) != (p : Nat)) = true := by simp; omega
          have HF := Lib.hid (above_first (B := 65536) HK.out hp HYA.out (by omega) HAL.out (by rw [HX.out, HLO.out]; exact hxy))
          rw [HX.out, HLO.out] at HF
          clear hxy
          go_wp2_with fail
          go_ret
          exact ⟨congrArg (fun b => Ending.returned (.bool b)) HF.out.symm, rfl⟩
      · have hbk : ((i : Int) == (k : Nat)) = false := by simp; omega
        have HLO := Lib.hid (show lone k p i = 0 from if_neg hik)
        clear hik
        by_cases hxy : x = 0
        · have hne : ((x : Int) != 0) = false := by simp; omega
          have HXY := Lib.hid hxy
          clear hxy
          go_wp2_with fail
          go_roundw
          case rel => exact ⟨i, by omega, rfl, fun j h1 h2 => by
            rcases Nat.lt_or_ge i j with h3 | h3
            · exact HAL.out j h3 h2
            · obtain rfl : j = i := by omega
              rw [HX.out, HLO.out]; exact HXY.out, trivial⟩
          case measure => simp [intOf]
        · have hne : ((x : Int) != 0) = true := by simp; omega
          have HF := Lib.hid (above_first (B := 65536) HK.out hp HYA.out (by omega) HAL.out (by rw [HX.out, HLO.out]; exact hxy))
          rw [HX.out, HLO.out] at HF
          clear hxy
          go_wp2_with fail
          go_ret
          exact ⟨congrArg (fun b => Ending.returned (.bool b)) HF.out.symm, rfl⟩
    · obtain rfl : m = 0 := by omega
      have HF := Lib.hid (above_none (B := 65536) HK.out HAL.out)
      go_wp2_with fail
      go_ret
      exact ⟨congrArg (fun b => Ending.returned (.bool b)) HF.out.symm, rfl⟩
end Go.Proofs.YtcmhnelonainhaaDoor
