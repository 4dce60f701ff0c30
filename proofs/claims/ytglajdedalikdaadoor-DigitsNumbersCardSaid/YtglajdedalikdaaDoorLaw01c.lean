import Derived.Test.YtglajdedalikdaaDoorLaw01a
import Derived.Test.YtglajdedalikdaaDoorRef01C
import Derived.Test.YtglajdedalikdaaDoorRef01B
namespace Go.Proofs.YtglajdedalikdaaDoor
open Go.RowKit

set_option maxHeartbeats 800000 in
theorem numbers_any (s : ByteArray) (n k : Int) (w : World) (hs : s.size ≤ maxLen) (hn : n ≤ 9223372036854775807) (hw : Wts w) :
    Calls Tryd.prog 5 #[.string s, .int .i64 n, .int .i64 k] w fun e w' => e = .returned (.bool true) ∧ Below w.heap.size w w' := by
  have HW := Lib.hid hw
  clear hw
  go_enter Tryd.func5, Tryd.ntmps5
  go_wp2_with fail
  refine (small_any _ HW.out).mono ?_
  rintro e w1 ⟨rfl, hb1⟩
  go_wp2_with fail
  refine (number_any s _ hs).mono ?_
  rintro e w2 ⟨rfl, n2, rfl⟩
  go_wp2_with fail
  refine (rnumber_any s _ hs).mono ?_
  rintro e w3 ⟨rfl, n3, rfl⟩
  go_wp2_with fail
  refine (text_any n k _ hn).mono ?_
  rintro e w4 ⟨rfl, hb4⟩
  go_wp2_with fail
  refine (rtext_any n k _ hn).mono ?_
  rintro e w5 ⟨rfl, hb5⟩
  go_wp2_with fail
  go_ret
  exact ⟨rfl, ((drawn hb1 (n2 + n3)).trans (hb4.mono hb1.size)).trans (hb5.mono (Nat.le_trans hb1.size hb4.size))⟩
end Go.Proofs.YtglajdedalikdaaDoor
