/- CheckBack: the walk. -/
import Derived.Test.YtphbhfilaknbfaaDoorLaw02a
namespace Go.Proofs.YtphbhfilaknbfaaDoor
open Go.RowKit

set_option maxRecDepth 100000 in
set_option maxHeartbeats 3200000 in
theorem back_any (A : Option Addr) (n c : Nat) (f : Nat → Nat) (s : Int) (w : World) (hn : n ≤ 140737488351232) (hA : SlB w A n f) (ht : Tab w) :
    Calls Tryd.prog 5 #[.slice A n c, .int .i64 s] w fun e w' => e = .returned (.bool true) ∧ Below w.heap.size w w' := by
  have HA := Lib.hid hA
  have HT := Lib.hid ht
  have HF := Lib.hid (fun j (hj : j < n) => hA.byte hj)
  clear hA ht
  rcases (show s < 5 ∨ (5 ≤ s ∧ 4096 < s) ∨ (5 ≤ s ∧ s ≤ 4096 ∧ s - 4 < n) ∨ (5 ≤ s ∧ s ≤ 4096 ∧ (n : Int) ≤ s - 4) by omega) with h | ⟨h, h2⟩ | ⟨h, h2, h3⟩ | ⟨h, h2, h3⟩
  · have hd : decide (s < 5) = true := by simpa using h
    have H := Lib.hid h
    go_enter Tryd.func5, Tryd.ntmps5
    go_wp2_with fail
    refine (small_any _ HT.out).mono ?_
    rintro e w1 ⟨rfl, hb1⟩
    have HB1 := Lib.hid hb1
    clear hb1
    go_wp2_with fail
    refine (lay_arg A n c s _ (Or.inl H.out)).mono ?_
    rintro e w2 ⟨rfl, rfl⟩
    go_wp2_with fail
    go_ret
    exact ⟨rfl, HB1.out⟩
  · have hd : decide (s < 5) = false := by simp; omega
    have hd2 : decide ((4096 : Int) < s) = true := by simpa using h2
    have H := Lib.hid h2
    go_enter Tryd.func5, Tryd.ntmps5
    go_wp2_with fail
    refine (small_any _ HT.out).mono ?_
    rintro e w1 ⟨rfl, hb1⟩
    have HB1 := Lib.hid hb1
    clear hb1
    go_wp2_with fail
    refine (lay_arg A n c s _ (Or.inr H.out)).mono ?_
    rintro e w2 ⟨rfl, rfl⟩
    go_wp2_with fail
    go_ret
    exact ⟨rfl, HB1.out⟩
  · have hd : decide (s < 5) = false := by simp; omega
    have hd2 : decide ((4096 : Int) < s) = false := by simp; omega
    go_enter Tryd.func5, Tryd.ntmps5
    go_wp2_with fail
    refine (small_any _ HT.out).mono ?_
    rintro e w1 ⟨rfl, hb1⟩
    have HB1 := Lib.hid hb1
    clear hb1
    go_wp2_with fail
    refine (lay_long A n c s _ h h2 h3).mono ?_
    rintro e w2 ⟨rfl, rfl⟩
    go_wp2_with fail
    go_ret
    exact ⟨rfl, HB1.out⟩
  · obtain ⟨t, rfl⟩ := Int.eq_ofNat_of_zero_le (show 0 ≤ s by omega)
    obtain ⟨m, hm⟩ : ∃ m, t = m + 4 := ⟨t - 4, by omega⟩
    have HM := Lib.hid hm
    have e4 : (t : Int) - 4 = (m : Nat) := by omega
    have hnm : n ≤ m := by omega
    have hm1 : 1 ≤ m := by omega
    have ht4 : t ≤ 4096 := by omega
    have hd5 : decide (m < n) = false := by simp; omega
    clear hm h3
    go_enter Tryd.func5, Tryd.ntmps5
    go_wp2_with fail
    refine (small_any _ HT.out).mono ?_
    rintro e w1 ⟨rfl, hb1⟩
    have HB1 := Lib.hid hb1
    clear hb1
    go_wp2_with fail
    refine (lay_ok A n c f t m _ HM.out hm1 ht4 hnm (HA.out.keep HB1.out) (HT.out.keep HB1.out)).mono ?_
    rintro e w2 ⟨g1, rfl, hg1, hr1, hb2⟩
    have HR1 := Lib.hid hr1
    have HB2 := Lib.hid (HB1.out.trans (hb2.mono HB1.out.size))
    clear hg1 hr1 hb2
    go_wp2_with fail
    refine (take_both true _ t m t _ _ HM.out hm1 ht4 (Nat.le_refl _) (by omega) (HR1.out.slB0 (Nat.le_refl _) (fun j _ => secB_lt m _ (fun j hj => layd_lt (m := m) HF.out j hj) j)) (HT.out.keep HB2.out) (told_secB m _)).mono ?_
    rintro e w3 ⟨g2, rfl, hg2, hr2, hb3⟩
    have HR2 := Lib.hid (hr2.congr (f := layd n f) (secB_lo m _))
    have HB3 := Lib.hid (HB2.out.trans (hb3.mono HB2.out.size))
    have HA3 := Lib.hid (HA.out.keep HB3.out)
    clear hg2 hr2 hb3
    go_wp2_with fail
    go_loopw [10] (fun i wr => ∃ k : Nat, k ≤ m ∧ i = .int .i64 k ∧ ∃ q, wr = w3.drewN q) (fun i _ => m - (intOf i).toNat)
    case atStart => exact ⟨0, Nat.zero_le _, rfl, 0, rfl⟩
    case round =>
      obtain ⟨k, hk, rfl, q0, rfl⟩ := hrel
      by_cases hlt : k < m
      · have hki : (k : Int) < m := by omega
        have hk0 : (0 : Int) ≤ (k : Nat) := by omega
        have hcell := HR2.out.cell hlt
        by_cases hkn : k < n
        · have hl : layd n f k = f k := by unfold layd; rw [if_pos hkn]
          rw [hl] at hcell
          obtain ⟨B, o, rfl, hB, hcc⟩ := HA3.out (by omega)
          obtain ⟨_, hc2⟩ := hcc k hkn
          clear hl hcc
          generalize f k = x at *
          have hkni : (k : Int) < n := by omega
          have hd6 : decide (k < n) = true := by simpa using hkn
          have hd7 : decide (n ≤ k) = false := by simp; omega
          go_wp2_with fail
          go_quiet (fail)
          go_wp2_with fail
          go_roundw
          case rel => exact ⟨k + 1, by omega, by go_num, q0 + nq, by simp⟩
          case measure => simp [intOf]; omega
        · have hl : layd n f k = 0 := by unfold layd; rw [if_neg hkn]
          rw [hl] at hcell
          have hd6 : decide (k < n) = false := by simp; omega
          have hd7 : decide (n ≤ k) = true := by simp; omega
          clear hl
          go_wp2_with fail
          go_quiet (fail)
          go_wp2_with fail
          go_roundw
          case rel => exact ⟨k + 1, by omega, by go_num, q0 + nq, by simp⟩
          case measure => simp [intOf]; omega
      · obtain rfl : k = m := by omega
        go_wp2_with fail
        go_ret
        exact ⟨rfl, drawn HB3.out q0⟩
end Go.Proofs.YtphbhfilaknbfaaDoor
