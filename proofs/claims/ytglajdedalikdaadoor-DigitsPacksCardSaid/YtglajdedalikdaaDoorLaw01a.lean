/- The laws' small case. -/
import Derived.Test.YtglajdedalikdaaDoorDigD
namespace Go.Proofs.YtglajdedalikdaaDoor
open Go.RowKit

theorem Wts.below {w w' : World} {B : Nat} (h : Wts w) (hb : Below B w w') (hB : 0 < B) : Wts w' := fun i hi => (hb.cell (p := ⟨_, i, none⟩) hB).trans (h i hi)

theorem Wts.lt {w : World} (h : Wts w) : 0 < w.heap.size := block_lt (h 0 (by omega))

theorem Wts.drewN {w : World} (h : Wts w) (n : Nat) : Wts (w.drewN n) := h

theorem Wts.keep {w w' : World} (h : Wts w) (hb : Below w.heap.size w w') : Wts w' := h.below hb h.lt

theorem pack123 (w : World) : Calls Tryd.prog 11 #[.string ⟨#[49, 50, 51]⟩] w fun e w' => ∃ g, e = .returned (.tuple #[.slice (some ⟨g, 0, none⟩) 2 2, .int .i64 0]) ∧
    w'.rowIs g 5 2 (fun j => .int .u8 (pb ⟨#[49, 50, 51]⟩ j : Nat)) ∧ Below w.heap.size w w' :=
  (pack_ok ⟨#[49, 50, 51]⟩ w (by decide) (by decide)).mono fun e w' ⟨g, he, _, hr, hb⟩ => ⟨g, he, hr, hb⟩

theorem pack123_str : strOf 2 (pb ⟨#[49, 50, 51]⟩) = ⟨#[1, 35]⟩ := by decide

theorem luhn10 (w : World) (hw : Wts w) : Calls Tryd.prog 17 #[.string ⟨#[55, 57, 57, 50, 55, 51, 57, 56, 55, 49]⟩] w fun e w' => e = .returned (.tuple #[.int .i64 3, .int .i64 0]) ∧ ∃ n, w' = w.drewN n :=
  (luhn_ok _ w (by decide) (by decide) hw).mono fun e w' ⟨he, h⟩ => ⟨he.trans (by rw [show luhnOf ⟨#[55, 57, 57, 50, 55, 51, 57, 56, 55, 49]⟩ = 3 by decide]), h⟩

theorem text73 (w : World) : Calls Tryd.prog 23 #[.int .i64 7, .int .i64 3] w fun e w' => e = .returned (.tuple #[.string ⟨#[48, 48, 55]⟩, .int .i64 0]) ∧ Below w.heap.size w w' :=
  (text_any 7 3 w (by decide)).mono fun e w' ⟨he, h⟩ => ⟨he.trans (by rw [show textV 7 3 = ⟨#[48, 48, 55]⟩ by decide, show textE 7 3 = 0 by decide]), h⟩

theorem valid11 (w : World) (hw : Wts w) : Calls Tryd.prog 19 #[.string ⟨#[55, 57, 57, 50, 55, 51, 57, 56, 55, 49, 51]⟩] w fun e w' => e = .returned (.bool true) ∧ ∃ n, w' = w.drewN n :=
  (valid_any _ w (by decide) hw).mono fun e w' ⟨he, h⟩ => ⟨he.trans (by rw [show validB ⟨#[55, 57, 57, 50, 55, 51, 57, 56, 55, 49, 51]⟩ = true by decide]), h⟩

theorem small_any (w : World) (hw : Wts w) : Calls Tryd.prog 9 #[] w fun e w' => e = .returned (.bool true) ∧ Below w.heap.size w w' := by
  have HW := Lib.hid hw
  clear hw
  go_enter Tryd.func9, Tryd.ntmps9
  go_wp2_with fail
  refine (pack123 _).mono ?_
  rintro e w1 ⟨g, rfl, hr1, hb1⟩
  have HW1 := Lib.hid (HW.out.keep hb1)
  go_wp2_with fail
  refine (luhn10 _ HW1.out).mono ?_
  rintro e w2 ⟨rfl, n2, rfl⟩
  go_wp2_with fail
  refine (text73 _).mono ?_
  rintro e w3 ⟨rfl, hb3⟩
  have HW3 := Lib.hid ((HW1.out.drewN n2).keep hb3)
  have hcv := convRow (hr1.of_block (hb3.block g hr1.lt)) (pb ⟨#[49, 50, 51]⟩) (Nat.le_refl _) (fun _ _ => rfl)
  rw [pack123_str] at hcv
  go_wp2_with fail
  refine (valid11 _ HW3.out).mono ?_
  rintro e w4 ⟨rfl, n4, rfl⟩
  go_wp2_with fail
  go_ret
  exact ⟨rfl, drawn ((drawn hb1 n2).trans (hb3.mono hb1.size)) n4⟩
end Go.Proofs.YtglajdedalikdaaDoor
