/- The reference: Root (of 2 and of 3). Written by wip/specs/mkroot.py 2 3. -/
import Derived.Test.YtcmhnelonainhaaDoorRef05G
import Derived.Test.YtcmhnelonainhaaDoorLaw05b
namespace Go.Proofs.YtcmhnelonainhaaDoor
open Go.RowKit
set_option maxHeartbeats 1600000 in
theorem root2_any (p : Nat) (w : World) (hp : p ≤ 400) :
    Calls Tryd.prog 30 #[.int .i64 (p : Nat), .int .i64 2] w fun e w' => ∃ v, e = .returned (.int .i64 (v % 4294967296 : Nat)) ∧ v * v ≤ p * 65536 ^ 4 ∧ p * 65536 ^ 4 < (v + 1) * (v + 1) ∧ Below w.heap.size w w' := by
  go_enter Tryd.func30, Tryd.ntmps30
  go_wp2_with fail
  go_loopw [5, 6] (fun v5 v6 wr => ∃ m v : Nat, m ≤ 37 ∧ v5 = .int .i64 (v : Nat) ∧ v6 = .int .i64 ((m : Int) - 1) ∧ v + 2 ^ m ≤ 137438953472 ∧ v * v ≤ p * 65536 ^ 4 ∧ p * 65536 ^ 4 < (v + 2 ^ m) * (v + 2 ^ m) ∧ Below w.heap.size w wr) (fun _ v6 _ => (intOf v6 + 1).toNat)
  case atStart => exact ⟨37, 0, by decide, rfl, rfl, by decide, Nat.zero_le _, by omega, Below.refl _ _⟩
  case round =>
    obtain ⟨m, v, hm, rfl, rfl, hv, h1, h2, hb⟩ := hrel
    have H1 := Lib.hid h1
    have H2 := Lib.hid h2
    have HB := Lib.hid hb
    have HV := Lib.hid hv
    clear h1 h2 hb hv
    by_cases h0 : 0 < m
    · obtain ⟨i, rfl⟩ : ∃ i, m = i + 1 := ⟨m - 1, by omega⟩
      have hi1 : ((i + 1 : Nat) : Int) - 1 = (i : Nat) := by omega
      rw [hi1]
      obtain ⟨t, ht⟩ : ∃ t, 2 ^ i = t := ⟨_, rfl⟩
      have hps : 2 ^ (i + 1) = t + t := by rw [Nat.pow_succ, ht]; omega
      have hv := HV.out
      rw [hps] at hv
      have hti : (2 : Int) ^ i = (t : Nat) := by rw [← ht, Int.natCast_pow]; rfl
      have hwt : wrap64 ((2 : Int) ^ i) = (t : Nat) := by rw [hti]; unfold wrap64; omega
      obtain ⟨u, hu⟩ : ∃ u, v + t = u := ⟨_, rfl⟩
      have hui : (v : Int) + (t : Nat) = (u : Nat) := by omega
      have hul : u ≤ 137438953472 := by omega
      obtain ⟨d0, e0⟩ : ∃ d, u % 65536 = d := ⟨_, rfl⟩
      obtain ⟨e1, e1e⟩ : ∃ d, u / 65536 = d := ⟨_, rfl⟩
      obtain ⟨d1, e1d⟩ : ∃ d, e1 % 65536 = d := ⟨_, rfl⟩
      obtain ⟨d2, e2⟩ : ∃ d, u / 4294967296 = d := ⟨_, rfl⟩
      have i0 : (u : Int) % 65536 = (d0 : Nat) := by omega
      have i1 : (u : Int) / 65536 = (e1 : Nat) := by omega
      have i2 : (e1 : Int) % 65536 = (d1 : Nat) := by omega
      have i3 : (u : Int) / 4294967296 = (d2 : Nat) := by omega
      have HNU := Lib.hid (show num 65536 3 (q3 d0 d1 d2) = u by
        show 0 + d0 * 1 + d1 * 65536 + d2 * (65536 * 65536) = u
        omega)
      have HDB := Lib.hid (show ∀ j, j < 3 → q3 d0 d1 d2 j < 65536 from fun j hj => by
        rcases three_of hj with rfl | rfl | rfl
        · show d0 < 65536; omega
        · show d1 < 65536; omega
        · show d2 < 65536; omega)
      have HT := Lib.hid ht
      have HU := Lib.hid hu
      have HPS := Lib.hid hps
      clear ht hu hps e0 e1e e1d e2 hti
      have HR := Lib.hid (show ArrV (wr.alloc (.cells #[.int .i64 (d0 : Nat), .int .i64 (d1 : Nat), .int .i64 (d2 : Nat)] 3)) wr.heap.size 0 3 (ints (q3 d0 d1 d2)) from arrV_made _ _ _ _ _ rfl)
      have HB1 := Lib.hid (HB.out.alloc HB.out.size (.cells #[.int .i64 (d0 : Nat), .int .i64 (d1 : Nat), .int .i64 (d2 : Nat)] 3))
      go_wp2_with fail
      refine (rtimes_any wr.heap.size wr.heap.size 3 3 3 3 _ _ _ (by decide) (by decide) HR.out HR.out HDB.out HDB.out).mono ?_
      rintro e w1 ⟨O, rfl, ho, hob, hnum, hb1⟩
      rw [HNU.out] at hnum
      have HO := Lib.hid ho
      have HOB := Lib.hid hob
      have HNO := Lib.hid hnum
      have HB2 := Lib.hid (HB1.out.trans (hb1.mono HB1.out.size))
      have HR2 := Lib.hid (HR.out.keep hb1)
      clear ho hob hnum hb1 HB1 HR
      generalize (wr.alloc (.cells #[.int .i64 (d0 : Nat), .int .i64 (d1 : Nat), .int .i64 (d2 : Nat)] 3)).heap.size = g1 at *
      go_wp2_with fail
      refine (above_any g1 6 6 p 4 O w1 (by decide) (by decide) (by omega) HO.out HOB.out).mono ?_
      rintro e w3 ⟨rfl, rfl⟩
      rw [HNO.out]
      have HBZ := HB2
      by_cases hab : p * 65536 ^ 4 < u * u
      · rw [decide_eq_true hab]
        have HAB := Lib.hid hab
        clear hab
        go_wp2_with fail
        go_roundw
        case rel => exact ⟨i, v, by omega, rfl, rfl, by rw [HT.out]; omega, H1.out, by rw [HT.out, HU.out]; exact HAB.out, HBZ.out⟩
        case measure => simp [intOf]
      · rw [decide_eq_false hab]
        have HAB := Lib.hid (Nat.le_of_not_lt hab)
        clear hab
        go_wp2_with fail
        go_roundw
        case rel => exact ⟨i, u, by omega, rfl, rfl, by rw [HT.out]; omega, HAB.out, by
          have h := H2.out
          rw [HPS.out, ← Nat.add_assoc, HU.out] at h
          rw [HT.out]; exact h, HBZ.out⟩
        case measure => simp [intOf]
    · obtain rfl : m = 0 := by omega
      go_wp2_with fail
      go_ret
      exact ⟨v, rfl, H1.out, H2.out, HB.out⟩
set_option maxHeartbeats 1600000 in
theorem root3_any (p : Nat) (w : World) (hp : p ≤ 400) :
    Calls Tryd.prog 30 #[.int .i64 (p : Nat), .int .i64 3] w fun e w' => ∃ v, e = .returned (.int .i64 (v % 4294967296 : Nat)) ∧ v * v * v ≤ p * 65536 ^ 6 ∧ p * 65536 ^ 6 < (v + 1) * (v + 1) * (v + 1) ∧ Below w.heap.size w w' := by
  go_enter Tryd.func30, Tryd.ntmps30
  go_wp2_with fail
  go_loopw [5, 6] (fun v5 v6 wr => ∃ m v : Nat, m ≤ 37 ∧ v5 = .int .i64 (v : Nat) ∧ v6 = .int .i64 ((m : Int) - 1) ∧ v + 2 ^ m ≤ 137438953472 ∧ v * v * v ≤ p * 65536 ^ 6 ∧ p * 65536 ^ 6 < (v + 2 ^ m) * (v + 2 ^ m) * (v + 2 ^ m) ∧ Below w.heap.size w wr) (fun _ v6 _ => (intOf v6 + 1).toNat)
  case atStart => exact ⟨37, 0, by decide, rfl, rfl, by decide, Nat.zero_le _, by omega, Below.refl _ _⟩
  case round =>
    obtain ⟨m, v, hm, rfl, rfl, hv, h1, h2, hb⟩ := hrel
    have H1 := Lib.hid h1
    have H2 := Lib.hid h2
    have HB := Lib.hid hb
    have HV := Lib.hid hv
    clear h1 h2 hb hv
    by_cases h0 : 0 < m
    · obtain ⟨i, rfl⟩ : ∃ i, m = i + 1 := ⟨m - 1, by omega⟩
      have hi1 : ((i + 1 : Nat) : Int) - 1 = (i : Nat) := by omega
      rw [hi1]
      obtain ⟨t, ht⟩ : ∃ t, 2 ^ i = t := ⟨_, rfl⟩
      have hps : 2 ^ (i + 1) = t + t := by rw [Nat.pow_succ, ht]; omega
      have hv := HV.out
      rw [hps] at hv
      have hti : (2 : Int) ^ i = (t : Nat) := by rw [← ht, Int.natCast_pow]; rfl
      have hwt : wrap64 ((2 : Int) ^ i) = (t : Nat) := by rw [hti]; unfold wrap64; omega
      obtain ⟨u, hu⟩ : ∃ u, v + t = u := ⟨_, rfl⟩
      have hui : (v : Int) + (t : Nat) = (u : Nat) := by omega
      have hul : u ≤ 137438953472 := by omega
      obtain ⟨d0, e0⟩ : ∃ d, u % 65536 = d := ⟨_, rfl⟩
      obtain ⟨e1, e1e⟩ : ∃ d, u / 65536 = d := ⟨_, rfl⟩
      obtain ⟨d1, e1d⟩ : ∃ d, e1 % 65536 = d := ⟨_, rfl⟩
      obtain ⟨d2, e2⟩ : ∃ d, u / 4294967296 = d := ⟨_, rfl⟩
      have i0 : (u : Int) % 65536 = (d0 : Nat) := by omega
      have i1 : (u : Int) / 65536 = (e1 : Nat) := by omega
      have i2 : (e1 : Int) % 65536 = (d1 : Nat) := by omega
      have i3 : (u : Int) / 4294967296 = (d2 : Nat) := by omega
      have HNU := Lib.hid (show num 65536 3 (q3 d0 d1 d2) = u by
        show 0 + d0 * 1 + d1 * 65536 + d2 * (65536 * 65536) = u
        omega)
      have HDB := Lib.hid (show ∀ j, j < 3 → q3 d0 d1 d2 j < 65536 from fun j hj => by
        rcases three_of hj with rfl | rfl | rfl
        · show d0 < 65536; omega
        · show d1 < 65536; omega
        · show d2 < 65536; omega)
      have HT := Lib.hid ht
      have HU := Lib.hid hu
      have HPS := Lib.hid hps
      clear ht hu hps e0 e1e e1d e2 hti
      have HR := Lib.hid (show ArrV (wr.alloc (.cells #[.int .i64 (d0 : Nat), .int .i64 (d1 : Nat), .int .i64 (d2 : Nat)] 3)) wr.heap.size 0 3 (ints (q3 d0 d1 d2)) from arrV_made _ _ _ _ _ rfl)
      have HB1 := Lib.hid (HB.out.alloc HB.out.size (.cells #[.int .i64 (d0 : Nat), .int .i64 (d1 : Nat), .int .i64 (d2 : Nat)] 3))
      go_wp2_with fail
      refine (rtimes_any wr.heap.size wr.heap.size 3 3 3 3 _ _ _ (by decide) (by decide) HR.out HR.out HDB.out HDB.out).mono ?_
      rintro e w1 ⟨O, rfl, ho, hob, hnum, hb1⟩
      rw [HNU.out] at hnum
      have HO := Lib.hid ho
      have HOB := Lib.hid hob
      have HNO := Lib.hid hnum
      have HB2 := Lib.hid (HB1.out.trans (hb1.mono HB1.out.size))
      have HR2 := Lib.hid (HR.out.keep hb1)
      clear ho hob hnum hb1 HB1 HR
      generalize (wr.alloc (.cells #[.int .i64 (d0 : Nat), .int .i64 (d1 : Nat), .int .i64 (d2 : Nat)] 3)).heap.size = g1 at *
      go_wp2_with fail
      refine (rtimes_any g1 wr.heap.size 6 3 6 3 _ _ w1 (by decide) (by decide) HO.out HR2.out HOB.out HDB.out).mono ?_
      rintro e w2 ⟨O2, rfl, ho, hob, hnum, hb1⟩
      rw [HNU.out, HNO.out] at hnum
      have HO2 := Lib.hid ho
      have HOB2 := Lib.hid hob
      have HNO2 := Lib.hid hnum
      have HB3 := Lib.hid (HB2.out.trans (hb1.mono HB2.out.size))
      clear ho hob hnum hb1
      go_wp2_with fail
      refine (above_any w1.heap.size 9 9 p 6 O2 w2 (by decide) (by decide) (by omega) HO2.out HOB2.out).mono ?_
      rintro e w3 ⟨rfl, rfl⟩
      rw [HNO2.out]
      have HBZ := HB3
      by_cases hab : p * 65536 ^ 6 < u * u * u
      · rw [decide_eq_true hab]
        have HAB := Lib.hid hab
        clear hab
        go_wp2_with fail
        go_roundw
        case rel => exact ⟨i, v, by omega, rfl, rfl, by rw [HT.out]; omega, H1.out, by rw [HT.out, HU.out]; exact HAB.out, HBZ.out⟩
        case measure => simp [intOf]
      · rw [decide_eq_false hab]
        have HAB := Lib.hid (Nat.le_of_not_lt hab)
        clear hab
        go_wp2_with fail
        go_roundw
        case rel => exact ⟨i, u, by omega, rfl, rfl, by rw [HT.out]; omega, HAB.out, by
          have h := H2.out
          rw [HPS.out, ← Nat.add_assoc, HU.out] at h
          rw [HT.out]; exact h, HBZ.out⟩
        case measure => simp [intOf]
    · obtain rfl : m = 0 := by omega
      go_wp2_with fail
      go_ret
      exact ⟨v, rfl, H1.out, H2.out, HB.out⟩
end Go.Proofs.YtcmhnelonainhaaDoor
