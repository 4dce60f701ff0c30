/- PanLengths. -/
import Derived.Test.YtgpgleojkldndaaDoorLaw11a
namespace Go.Proofs.YtgpgleojkldndaaDoor
open Go.RowKit

set_option maxHeartbeats 1600000 in
theorem lengths11_any (s : ByteArray) (w : World) (hs : s.size ≤ maxLen) (hw : PT w) :
    Calls Tryd.prog 8 #[.string s] w fun e w' => e = .returned (.bool true) ∧ Below w.heap.size w w' := by
  have HW := Lib.hid hw
  have HS := Lib.hid hs
  clear hw
  unfold maxLen at hs
  cases hz : shp s with
  | false =>
    have HC := Lib.hid (show pB s = ⟨#[]⟩ ∧ pM s = ⟨#[]⟩ ∧ pL s = ⟨#[]⟩ ∧ cutE s = 10 from ⟨pB_no hz, pM_no hz, pL_no hz, by unfold cutE; rw [hz]; rfl⟩)
    clear hz
    go_enter Tryd.func8, Tryd.ntmps8
    go_wp2_with fail
    refine (small11_any _ HW.out).mono ?_
    rintro e w1 ⟨rfl, hb1⟩
    have HB1 := Lib.hid hb1
    clear hb1
    go_wp2_with fail
    refine (cut11_any s _ HS.out (HW.out.keep HB1.out)).mono ?_
    rintro e w2 ⟨rfl, hb2⟩
    have HB2 := Lib.hid (HB1.out.trans (hb2.mono HB1.out.size))
    clear hb2
    rw [HC.out.1, HC.out.2.1, HC.out.2.2.1, HC.out.2.2.2]
    go_wp2_with fail
    go_ret
    exact ⟨rfl, HB2.out⟩
  | true =>
    have HC := Lib.hid (show cutE s = 0 by unfold cutE; rw [hz]; rfl)
    have hB := pB_size hz
    have hL := pL_size hz
    have hwh := whole_eq hz
    obtain ⟨hd, h1, h2⟩ := shp_parts hz
    have hM : 6 ≤ (pM s).size ∧ (pM s).size ≤ 9 := by rw [pM_size hz]; omega
    have HD := Lib.hid hd
    clear hz hd
    go_enter Tryd.func8, Tryd.ntmps8
    go_wp2_with fail
    refine (small11_any _ HW.out).mono ?_
    rintro e w1 ⟨rfl, hb1⟩
    have HB1 := Lib.hid hb1
    clear hb1
    go_wp2_with fail
    refine (cut11_any s _ HS.out (HW.out.keep HB1.out)).mono ?_
    rintro e w2 ⟨rfl, hb2⟩
    have HB2 := Lib.hid (HB1.out.trans (hb2.mono HB1.out.size))
    clear hb2
    rw [HC.out]
    generalize pB s = a at *
    generalize pM s = b at *
    generalize pL s = c at *
    have HWH := Lib.hid hwh
    clear hwh
    go_wp2_with fail
    go_loop [8] (fun i => ∃ k : Nat, k ≤ s.size ∧ i = .int .i64 k) (fun i => s.size - (intOf i).toNat)
    case atStart => exact ⟨0, Nat.zero_le _, rfl⟩
    case round =>
      obtain ⟨k, hk, rfl⟩ := hrel
      by_cases hlt : k < s.size
      · obtain ⟨g1, g2⟩ := dig_at s k hlt HD.out
        go_wp2_with fail
        go_round
        case rel => exact ⟨k + 1, by omega, by go_num⟩
        case measure => simp [intOf]; omega
      · obtain rfl : k = s.size := by omega
        have hz1 : (a ++ b).size ≤ 15 := by rw [ByteArray.size_append]; omega
        have e1 : (a.size : Int) = 6 := by omega
        have e2 : (c.size : Int) = 4 := by omega
        have e3 : decide ((6 : Int) ≤ b.size) = true := by simp; omega
        have e4 : decide ((b.size : Int) ≤ 9) = true := by simp; omega
        have e5 := HWH.out
        have hb1 : a.size ≤ 6 := by omega
        have hb2 : c.size ≤ 4 := by omega
        have hb3 : b.size ≤ 9 := hM.2
        clear hB hL hM
        go_wp2_with fail
        go_ret
        exact ⟨rfl, HB2.out⟩
end Go.Proofs.YtgpgleojkldndaaDoor
