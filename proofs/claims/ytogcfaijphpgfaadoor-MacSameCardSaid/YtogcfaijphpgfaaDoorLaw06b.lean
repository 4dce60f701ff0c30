/- Law MacSame (layer 6): the walk. -/
import Derived.Test.YtogcfaijphpgfaaDoorLaw06a
namespace Go.Proofs.YtogcfaijphpgfaaDoor
open Go.RowKit
theorem strOf_inj {n m : Nat} {f g : Nat → Nat} (hf : ∀ j, j < n → f j < 256) (hg : ∀ j, j < m → g j < 256) (h : strOf n f = strOf m g) : n = m ∧ ∀ j, j < n → f j = g j := by
  have hn : n = m := by rw [← strOf_size n f, ← strOf_size m g, h]
  subst hn
  refine ⟨rfl, fun j hj => ?_⟩
  rw [← strOf_at n f 0 j hj (hf j hj), h, strOf_at n g 0 j hj (hg j hj)]
theorem str_eq (s t : ByteArray) : (s.toList == t.toList) = decide (s = t) := by
  rw [Bool.eq_iff_iff, beq_iff_eq, decide_eq_true_iff, ByteArray.toList_eq, ByteArray.toList_eq]
  exact ⟨fun h => ByteArray.ext (Array.ext' h), fun h => by rw [h]⟩
theorem same_str {n m : Nat} {f g : Nat → Nat} (hf : ∀ j, j < n → f j < 256) (hg : ∀ j, j < m → g j < 256) : ((strOf n f).toList == (strOf m g).toList) = sameB n m f g := by
  rw [str_eq]
  unfold sameB
  refine decide_eq_decide.2 ⟨fun h => strOf_inj hf hg h, fun ⟨h1, h2⟩ => ?_⟩
  subst h1
  exact strOf_congr n f g h2
/-- what Lent leaves, as bytes -/
theorem lent_slB {w : World} {g n : Nat} {f : Nat → Nat} (h : w.rowIs g 5 (n + 1) (fun j => .int .u8 (if j < n then f j else 77 : Nat))) (hf : By n f) : SlB w (some ⟨g, 0, none⟩) n f :=
  SlB.of_rowX ((RowX.of_rowIs h).less (Nat.le_succ n)) fun j hj => ⟨hf j hj, by rw [if_pos hj]⟩
set_option maxHeartbeats 1600000 in
theorem msame_any (A B : Option Addr) (n c m c2 : Nat) (f g : Nat → Nat) (w : World) (hn : n ≤ 140737488351232) (hm : m ≤ 140737488351232) (hA : SlB w A n f) (hB : SlB w B m g) (ht : GT w) :
    Calls Tryd.prog 4 #[.slice A n c, .slice B m c2] w fun e w' => e = .returned (.bool true) ∧ Below w.heap.size w w' := by
  have HA := Lib.hid hA
  have HB := Lib.hid hB
  have HT := Lib.hid ht
  have HFA := Lib.hid (show By n f from fun j hj => hA.byte hj)
  have HFB := Lib.hid (show By m g from fun j hj => hB.byte hj)
  clear hA hB ht
  go_enter Tryd.func4, Tryd.ntmps4
  go_wp2_with fail
  refine (small6_any w HT.out).mono ?_
  rintro e w1 ⟨rfl, hb⟩
  have HB1 := Lib.hid hb
  clear hb
  go_wp2_with fail
  refine (lent_any A n c f w1 hn (HA.out.keep HB1.out)).mono ?_
  rintro e w2 ⟨g1, rfl, hg, hrow, hb⟩
  have HR1 := Lib.hid hrow
  have HB2 := Lib.hid (HB1.out.trans (hb.mono HB1.out.size))
  clear hg hrow hb
  go_wp2_with fail
  refine (lent_any B m c2 g w2 hm (HB.out.keep HB2.out)).mono ?_
  rintro e w3 ⟨g2, rfl, hg, hrow, hb⟩
  have HR2 := Lib.hid hrow
  have HR1b := Lib.hid (HR1.out.of_block (hb.block g1 HR1.out.lt))
  have HB3 := Lib.hid (HB2.out.trans (hb.mono HB2.out.size))
  clear hg hrow hb HR1
  go_wp2_with fail
  refine (same_any (some ⟨g1, 0, none⟩) (some ⟨g2, 0, none⟩) n (n + 1) m (m + 1) f g w3 hn hm (lent_slB HR1b.out HFA.out) (lent_slB HR2.out HFB.out)).mono ?_
  rintro e w4 ⟨rfl, q, rfl⟩
  have HB4 := Lib.hid (drawn HB3.out q)
  have HQ1 := Lib.hid (show (w3.drewN q).rowIs g1 5 (n + 1) (fun j => .int .u8 (if j < n then f j else 77 : Nat)) from HR1b.out.of_block rfl)
  have HQ2 := Lib.hid (show (w3.drewN q).rowIs g2 5 (m + 1) (fun j => .int .u8 (if j < m then g j else 77 : Nat)) from HR2.out.of_block rfl)
  generalize w3.drewN q = w5 at *
  have HK1 := Lib.hid (kept_any g1 A n c f w5 hn (HA.out.keep HB4.out) HQ1.out)
  have HK2 := Lib.hid (kept_any g2 B m c2 g w5 hm (HB.out.keep HB4.out) HQ2.out)
  have hcv1 := convSl (cap := c) (HA.out.keep HB4.out) (Nat.le_refl n)
  have hcv2 := convSl (cap := c2) (HB.out.keep HB4.out) (Nat.le_refl m)
  have hs := same_str HFA.out HFB.out
  generalize strOf n f = X at *
  generalize strOf m g = Y at *
  clear HR1b HR2 HQ1 HQ2 HB3
  cases hsb : sameB n m f g
  all_goals
    rw [hsb] at hs
    clear hsb
    go_wp2_with fail
    refine HK1.out.mono ?_
    rintro e w6 ⟨rfl, rfl⟩
    go_wp2_with fail
    refine HK2.out.mono ?_
    rintro e w6 ⟨rfl, rfl⟩
    go_wp2_with fail
    go_ret
    exact ⟨rfl, HB4.out⟩
end Go.Proofs.YtogcfaijphpgfaaDoor
