/- The laws' small case. -/
import Derived.Test.YtgpgleojkldndaaDoorPanR
import Derived.Test.YtgpgleojkldndaaDoorPanD
namespace Go.Proofs.YtgpgleojkldndaaDoor
open Go.RowKit

theorem isc_any (s : ByteArray) (w : World) (hs : s.size ≤ maxLen) (hw : PT w) :
    Calls Tryd.prog 12 #[.string s] w fun e w' => e = .returned (.bool (isV s)) ∧ Below w.heap.size w w' :=
  is11_any s w hs hw.wts fun _ hb => hw.wts.keep hb

def S9 : ByteArray := ⟨#[52, 49, 49, 49, 49, 49, 57, 57, 57, 57, 57, 57, 49, 49, 49, 49]⟩
def S1 : ByteArray := ⟨#[52, 49, 49, 49, 49, 49, 49, 49, 49, 49, 49, 49, 49, 49, 49, 49]⟩

theorem s9_shp : shp S9 = true := by decide
theorem s9_tok : tokE S9 2 = 0 := by decide
theorem itoa2 : itoaB 2 = ⟨#[50]⟩ := by
  rw [show (2 : Int) = ((2 : Nat) : Int) from rfl, itoaB_dl 2 (by decide)]; rfl
theorem s9_tkS : tkS S9 2 = ⟨#[52, 49, 49, 49, 49, 49, 57, 57, 57, 57, 57, 57, 49, 49, 49, 49, 46, 50]⟩ := by
  unfold tkS; rw [itoa2]; decide
theorem s9_tokV : tokV S9 2 = tkS S9 2 := by unfold tokV; rw [if_pos s9_tok]
theorem s9_mask : maskS (tkS S9 2) = ⟨#[52, 49, 49, 49, 49, 49, 42, 42, 42, 42, 42, 42, 49, 49, 49, 49, 46, 50]⟩ := by
  obtain ⟨e1, e2, e3⟩ := tk_of s9_shp (v := 2) (by decide) (by decide)
  unfold maskS
  rw [e3, e1, e2, show shp (tkS S9 2) = false by rw [s9_tkS]; decide, if_neg (by decide), if_pos rfl]
  unfold tkS
  rw [itoa2]
  decide

set_option maxRecDepth 100000 in
set_option maxHeartbeats 1600000 in
theorem small11_any (w : World) (hw : PT w) : Calls Tryd.prog 9 #[] w fun e w' => e = .returned (.bool true) ∧ Below w.heap.size w w' := by
  have HW := Lib.hid hw
  have HB := Lib.hid (show pB S9 = ⟨#[52, 49, 49, 49, 49, 49]⟩ ∧ pM S9 = ⟨#[57, 57, 57, 57, 57, 57]⟩ ∧ pL S9 = ⟨#[49, 49, 49, 49]⟩ ∧ cutE S9 = 0 by decide)
  have HM := Lib.hid s9_mask
  have HE := Lib.hid s9_tok
  have HV := Lib.hid s9_tokV
  have HI := Lib.hid (show isV S1 = true by decide)
  have HZ := Lib.hid (show (tkS S9 2).size ≤ maxLen by rw [s9_tkS]; decide)
  clear hw
  go_enter Tryd.func9, Tryd.ntmps9
  go_wp2_with fail
  refine (cut11_any S9 _ (by decide) HW.out).mono ?_
  rintro e w1 ⟨rfl, hb1⟩
  have HB1 := Lib.hid hb1
  clear hb1
  rw [HB.out.1, HB.out.2.1, HB.out.2.2.1, HB.out.2.2.2]
  go_wp2_with fail
  refine (token_any S9 2 _ (by decide) (HW.out.keep HB1.out)).mono ?_
  rintro e w2 ⟨rfl, hb2⟩
  have HB2 := Lib.hid (HB1.out.trans (hb2.mono HB1.out.size))
  clear hb2
  rw [HE.out, HV.out]
  generalize tkS S9 2 = tk at *
  go_wp2_with fail
  refine (isc_any S1 _ (by decide) (HW.out.keep HB2.out)).mono ?_
  rintro e w3 ⟨rfl, hb3⟩
  have HB3 := Lib.hid (HB2.out.trans (hb3.mono HB2.out.size))
  clear hb3
  rw [HI.out]
  go_wp2_with fail
  refine (mask_any tk _ HZ.out (HW.out.keep HB3.out)).mono ?_
  rintro e w4 ⟨rfl, hb4⟩
  have HB4 := Lib.hid (HB3.out.trans (hb4.mono HB3.out.size))
  clear hb4
  rw [HM.out]
  go_wp2_with fail
  go_ret
  exact ⟨rfl, HB4.out⟩
end Go.Proofs.YtgpgleojkldndaaDoor
