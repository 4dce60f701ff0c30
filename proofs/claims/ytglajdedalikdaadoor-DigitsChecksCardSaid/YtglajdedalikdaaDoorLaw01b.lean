import Derived.Test.YtglajdedalikdaaDoorLaw01a
import Derived.Test.YtglajdedalikdaaDoorRef01C
import Derived.Test.YtglajdedalikdaaDoorRef01B
namespace Go.Proofs.YtglajdedalikdaaDoor
open Go.RowKit

set_option maxHeartbeats 800000 in
theorem checks_any (s : ByteArray) (w : World) (hs : s.size ≤ maxLen) (hw : Wts w) :
    Calls Tryd.prog 4 #[.string s] w fun e w' => e = .returned (.bool true) ∧ Below w.heap.size w w' := by
  have HW := Lib.hid hw
  clear hw
  by_cases hf : faultOf s.data.toList = 0
  · obtain ⟨hd, hl⟩ := fault_zero hf
    have hl' : s.size ≤ 999 := by rw [Array.length_toList] at hl; exact hl
    have HD := Lib.hid hd
    clear hf hd hl
    go_enter Tryd.func4, Tryd.ntmps4
    go_wp2_with fail
    refine (small_any _ HW.out).mono ?_
    rintro e w1 ⟨rfl, hb1⟩
    have HW1 := Lib.hid (HW.out.keep hb1)
    go_wp2_with fail
    refine (luhn_ok s _ HD.out hl' HW1.out).mono ?_
    rintro e w2 ⟨rfl, n2, rfl⟩
    go_wp2_with fail
    refine (rluhn_ok s _ HD.out hl').mono ?_
    rintro e w3 ⟨rfl, hb3⟩
    have HW3 := Lib.hid ((HW1.out.drewN n2).keep hb3)
    go_wp2_with fail
    refine (valid_any s _ hs HW3.out).mono ?_
    rintro e w4 ⟨rfl, n4, rfl⟩
    go_wp2_with fail
    refine (rvalid_any s _ hs).mono ?_
    rintro e w5 ⟨rfl, rfl⟩
    go_wp2_with fail
    go_ret
    exact ⟨rfl, drawn ((drawn hb1 n2).trans (hb3.mono hb1.size)) n4⟩
  · go_enter Tryd.func4, Tryd.ntmps4
    have HF := Lib.hid hf
    clear hf
    go_wp2_with fail
    refine (small_any _ HW.out).mono ?_
    rintro e w1 ⟨rfl, hb1⟩
    have HW1 := Lib.hid (HW.out.keep hb1)
    go_wp2_with fail
    refine (luhn_bad s _ hs HF.out).mono ?_
    rintro e w2 ⟨rfl, rfl⟩
    go_wp2_with fail
    refine (rluhn_bad s _ hs HF.out).mono ?_
    rintro e w3 ⟨rfl, rfl⟩
    go_wp2_with fail
    refine (valid_any s _ hs HW1.out).mono ?_
    rintro e w4 ⟨rfl, n4, rfl⟩
    go_wp2_with fail
    refine (rvalid_any s _ hs).mono ?_
    rintro e w5 ⟨rfl, rfl⟩
    go_wp2_with fail
    go_ret
    exact ⟨rfl, drawn hb1 n4⟩
end Go.Proofs.YtglajdedalikdaaDoor
