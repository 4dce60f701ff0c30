import Derived.Test.YtejljmpjdhdoiaaDoorLaw09a
import Derived.Test.YtejljmpjdhdoiaaDoorRef09X
import Derived.Test.YtejljmpjdhdoiaaDoorLent
namespace Go.Proofs.YtejljmpjdhdoiaaDoor
open Go.RowKit

set_option maxHeartbeats 800000 in
theorem numerals_any (s : ByteArray) (n m : Int) (w : World) (hs : s.size ≤ maxLen) (hn : n ≤ 9223372036854775807) (hp : Pws w) :
    Calls Tryd.prog 3 #[.string s, .int .i64 n, .int .i64 m] w fun e w' => e = .returned (.bool true) ∧ Below w.heap.size w w' := by
  have HP := Lib.hid hp
  clear hp
  go_enter Tryd.func3, Tryd.ntmps3
  go_wp2_with fail
  refine (small9_any _ HP.out).mono ?_
  rintro e w1 ⟨rfl, hb1⟩
  have HB1 := Lib.hid hb1
  clear hb1
  go_wp2_with fail
  refine (xvalue_any s _ hs).mono ?_
  rintro e w2 ⟨rfl, n2, rfl⟩
  go_wp2_with fail
  refine (qvalue_any s _ hs).mono ?_
  rintro e w3 ⟨rfl, n3, rfl⟩
  have HB3 := Lib.hid (drawn (drawn HB1.out n2) n3)
  have HP3 := Lib.hid (HP.out.keep HB3.out)
  generalize (w1.drewN n2).drewN n3 = w3 at *
  go_wp2_with fail
  refine (xdigits_any n m _ hn HP3.out).mono ?_
  rintro e w4 ⟨rfl, hb4⟩
  have HB4 := Lib.hid (HB3.out.trans (hb4.mono HB3.out.size))
  clear hb4
  go_wp2_with fail
  refine (qdigits_any n m _ hn).mono ?_
  rintro e w5 ⟨rfl, hb5⟩
  have HB5 := Lib.hid (HB4.out.trans (hb5.mono HB4.out.size))
  have HP5 := Lib.hid (HP.out.keep HB5.out)
  clear hb5
  go_wp2_with fail
  refine (xpower_any m _ HP5.out).mono ?_
  rintro e w6 ⟨rfl, rfl⟩
  go_wp2_with fail
  refine (qpower_any m _).mono ?_
  rintro e w6 ⟨rfl, rfl⟩
  go_wp2_with fail
  refine (xwidth_any m _ HP5.out).mono ?_
  rintro e w6 ⟨rfl, rfl⟩
  go_wp2_with fail
  refine (qwidth_any m _).mono ?_
  rintro e w6 ⟨rfl, rfl⟩
  go_wp2_with fail
  go_ret
  exact ⟨rfl, HB5.out⟩

set_option maxHeartbeats 800000 in
theorem rests_any (A : Option Addr) (len cap : Nat) (bs : Nat → Nat) (x y m : Int) (w : World) (hl : len ≤ 140737488351232) (hA : SlB w A len bs) (hp : Pws w) :
    Calls Tryd.prog 4 #[.slice A len cap, .int .i64 x, .int .i64 y, .int .i64 m] w fun e w' => e = .returned (.bool true) ∧ Below w.heap.size w w' := by
  have HP := Lib.hid hp
  have HA := Lib.hid hA
  clear hp hA
  go_enter Tryd.func4, Tryd.ntmps4
  go_wp2_with fail
  refine (small9_any _ HP.out).mono ?_
  rintro e w1 ⟨rfl, hb1⟩
  have HB1 := Lib.hid hb1
  have HA1 := Lib.hid (HA.out.keep hb1)
  clear hb1
  go_wp2_with fail
  refine (lent_any A len cap bs _ hl HA1.out).mono ?_
  rintro e w2 ⟨g, rfl, hg, hrow, hb2⟩
  have HB2 := Lib.hid (HB1.out.trans (hb2.mono HB1.out.size))
  have HA2 := Lib.hid (HA.out.keep HB2.out)
  have HP2 := Lib.hid (HP.out.keep HB2.out)
  have HR := Lib.hid hrow
  have HS := Lib.hid (SlB.of_rowX (bs := bs) ((RowX.of_rowIs hrow).less (Nat.le_succ len)) (fun j hj => ⟨HA.out.byte hj, by rw [if_pos hj]⟩))
  clear hb2 hg hrow
  go_wp2_with fail
  refine (xrest_any (some ⟨g, 0, none⟩) len (len + 1) bs m _ (by omega) HP2.out HS.out).mono ?_
  rintro e w3 ⟨rfl, n3, rfl⟩
  go_wp2_with fail
  refine (kept_any g A len cap bs _ hl (HA2.out.drewN n3) (HR.out)).mono ?_
  rintro e w4 ⟨rfl, rfl⟩
  go_wp2_with fail
  refine (qrest_any A len cap bs m _ (by omega) (HA2.out.drewN n3)).mono ?_
  rintro e w5 ⟨rfl, n5, rfl⟩
  have HB5 := Lib.hid (drawn (drawn HB2.out n3) n5)
  have HP5 := Lib.hid (HP.out.keep HB5.out)
  generalize (w2.drewN n3).drewN n5 = w5 at *
  go_wp2_with fail
  refine (xadd_any x y m _ HP5.out).mono ?_
  rintro e w6 ⟨rfl, hb6⟩
  have HB6 := Lib.hid (HB5.out.trans (hb6.mono HB5.out.size))
  have HP6 := Lib.hid (HP.out.keep HB6.out)
  clear hb6
  go_wp2_with fail
  refine (qadd_any x y m _).mono ?_
  rintro e w7 ⟨rfl, rfl⟩
  go_wp2_with fail
  refine (xsub_any x y m _ HP6.out).mono ?_
  rintro e w8 ⟨rfl, hb8⟩
  have HB8 := Lib.hid (HB6.out.trans (hb8.mono HB6.out.size))
  clear hb8
  go_wp2_with fail
  refine (qsub_any x y m _).mono ?_
  rintro e w9 ⟨rfl, rfl⟩
  go_wp2_with fail
  go_ret
  exact ⟨rfl, HB8.out⟩
end Go.Proofs.YtejljmpjdhdoiaaDoor
