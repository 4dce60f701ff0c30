/- The laws' small case. -/
import Derived.Test.YtejljmpjdhdoiaaDoorRadC
import Derived.Test.YtejljmpjdhdoiaaDoorRadD
import Derived.Test.YtejljmpjdhdoiaaDoorRowB
namespace Go.Proofs.YtejljmpjdhdoiaaDoor
open Go.RowKit

theorem value4 (w : World) : Calls Tryd.prog 10 #[.string ⟨#[48, 49, 50, 51]⟩] w fun e w' => e = .returned (.tuple #[.int .i64 123, .int .i64 0]) ∧ ∃ n, w' = w.drewN n :=
  (xvalue_any ⟨#[48, 49, 50, 51]⟩ w (by decide)).mono fun e w' ⟨he, h⟩ => ⟨he.trans (by rw [show vV ⟨#[48, 49, 50, 51]⟩ = 123 by decide +kernel, show vE ⟨#[48, 49, 50, 51]⟩ = 0 by decide +kernel]), h⟩
theorem digits4 (w : World) (hp : Pws w) : Calls Tryd.prog 12 #[.int .i64 123, .int .i64 4] w fun e w' => e = .returned (.tuple #[.string ⟨#[48, 49, 50, 51]⟩, .int .i64 0]) ∧ Below w.heap.size w w' :=
  (xdigits_any 123 4 w (by decide) hp).mono fun e w' ⟨he, h⟩ => ⟨he.trans (by rw [show gV 123 4 = ⟨#[48, 49, 50, 51]⟩ by decide +kernel, show gE 123 4 = 0 by decide +kernel]), h⟩
theorem rest2 (w : World) (hp : Pws w) : Calls Tryd.prog 19 #[.slice (some ⟨w.heap.size, 0, none⟩) 2 2, .int .i64 2] (w.alloc (.cells #[.int .u8 1, .int .u8 0] 5)) fun e w' =>
    e = .returned (.tuple #[.int .i64 56, .int .i64 0]) ∧ ∃ n, w' = (w.alloc (.cells #[.int .u8 1, .int .u8 0] 5)).drewN n :=
  (xrest_any (some ⟨w.heap.size, 0, none⟩) 2 2 (fun j => [1, 0].getD j 0) 2 (w.alloc (.cells #[.int .u8 1, .int .u8 0] 5)) (by decide) (hp.alloc _) (fun _ => ⟨_, _, rfl, by show _ < (w.heap.push _).size; simp, fun j hj => by
    rcases (show j = 0 ∨ j = 1 by omega) with rfl | rfl
    · exact ⟨by decide, (World.cell?_alloc_at _ _ _ _ rfl).trans rfl⟩
    · exact ⟨by decide, (World.cell?_alloc_at _ _ _ _ rfl).trans rfl⟩⟩)).mono fun e w' ⟨he, h⟩ => ⟨he.trans (by rw [show rV 2 (fun j => [1, 0].getD j 0) 2 = 56 by decide +kernel, show rE 2 2 = 0 by decide +kernel]), h⟩
theorem power3 (w : World) (hp : Pws w) : Calls Tryd.prog 14 #[.int .i64 3] w fun e w' => e = .returned (.int .i64 1000) ∧ w = w' :=
  (xpower_any 3 w hp).mono fun e w' ⟨he, h⟩ => ⟨he.trans (by rw [show pw 3 = 1000 by decide +kernel]; rfl), h⟩
theorem width16 (w : World) (hp : Pws w) : Calls Tryd.prog 16 #[.int .i64 16] w fun e w' => e = .returned (.int .i64 7) ∧ w = w' :=
  (xwidth_any 16 w hp).mono fun e w' ⟨he, h⟩ => ⟨he.trans (by rw [show wd 16 = 7 by decide +kernel]; rfl), h⟩

theorem small9_any (w : World) (hp : Pws w) : Calls Tryd.prog 9 #[] w fun e w' => e = .returned (.bool true) ∧ Below w.heap.size w w' := by
  have HP := Lib.hid hp
  clear hp
  go_enter Tryd.func9, Tryd.ntmps9
  go_wp2_with fail
  refine (value4 _).mono ?_
  rintro e w1 ⟨rfl, n1, rfl⟩
  go_wp2_with fail
  refine (digits4 _ (HP.out.drewN n1)).mono ?_
  rintro e w2 ⟨rfl, hb2⟩
  have HB2 := Lib.hid (show Below w.heap.size w w2 from (drawn (Below.refl _ _) n1).trans hb2)
  clear hb2
  have HP2 := Lib.hid (HP.out.keep HB2.out)
  go_wp2_with fail
  refine (rest2 _ HP2.out).mono ?_
  rintro e w3 ⟨rfl, n3, rfl⟩
  have HP3 := Lib.hid ((HP2.out.alloc (.cells #[.int .u8 1, .int .u8 0] 5)).drewN n3)
  have HB3 := Lib.hid (drawn (HB2.out.alloc HB2.out.size (.cells #[.int .u8 1, .int .u8 0] 5)) n3)
  go_wp2_with fail
  refine (power3 _ HP3.out).mono ?_
  rintro e w4 ⟨rfl, rfl⟩
  go_wp2_with fail
  refine (width16 _ HP3.out).mono ?_
  rintro e w4 ⟨rfl, rfl⟩
  go_wp2_with fail
  go_ret
  exact ⟨rfl, HB3.out⟩
end Go.Proofs.YtejljmpjdhdoiaaDoor
