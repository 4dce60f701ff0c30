/- CheckSums: the walk. -/
import Derived.Test.YtphbhfilaknbfaaDoorLaw02a
import Derived.Test.YtphbhfilaknbfaaDoorLent
import Derived.Test.YtphbhfilaknbfaaDoorRef02A
namespace Go.Proofs.YtphbhfilaknbfaaDoor
open Go.RowKit

/-- two parts -/
def twoN (n m j : Nat) : Nat := if j = 0 then n else m
def twoA (A B : Option Addr) (j : Nat) : Option Addr := if j = 0 then A else B
def twoF (f g : Nat → Nat) (j t : Nat) : Nat := if j = 0 then f t else g t
theorem two_crc (n m : Nat) (f g : Nat → Nat) : 4294967295 - regs 4294967295 (twoN n m) (twoF f g) 2 = crc (n + m) (catB n f g) := by
  unfold crc
  rw [← reg_two 4294967295 n m f g (catB n f g) (fun j hj => by unfold catB; rw [if_pos hj]) (fun j _ => by unfold catB; rw [if_neg (by omega), Nat.add_sub_cancel_left])]
  rfl
theorem two_parts {w : World} {A B : Option Addr} {n c m c2 : Nat} {f g : Nat → Nat} (hA : SlB w A n f) (hB : SlB w B m g) (t : TypeId) :
    Parts (w.alloc (.cells #[.slice A n c, .slice B m c2] t)) w.heap.size 2 (twoA A B) (twoN n m) (twoN c c2) (twoF f g) :=
  ⟨fun j hj => by
    rcases (show j = 0 ∨ j = 1 by omega) with rfl | rfl <;> exact (World.cell?_alloc_at _ _ _ _ rfl).trans rfl, fun j hj => by
    rcases (show j = 0 ∨ j = 1 by omega) with rfl | rfl
    · exact hA.keep ((Below.refl _ _).alloc (Nat.le_refl _) _)
    · exact hB.keep ((Below.refl _ _).alloc (Nat.le_refl _) _)⟩
theorem sum_two {w : World} {A B : Option Addr} {n c m c2 : Nat} {f g : Nat → Nat} (hA : SlB w A n f) (hB : SlB w B m g) (hn : n ≤ 281474976710656) (hm : m ≤ 281474976710656) (ht : Tab w) :
    Calls Tryd.prog 11 #[.slice (some ⟨w.heap.size, 0, none⟩) 2 2] (w.alloc (.cells #[.slice A n c, .slice B m c2] 22)) fun e w' => e = .returned (.int .i64 (crc (n + m) (catB n f g) : Nat)) ∧ Below w.heap.size w w' :=
  (sum_any w.heap.size 2 2 (twoA A B) (twoN n m) (twoN c c2) (twoF f g) _ (by decide) (fun j _ => by unfold twoN; split <;> assumption) (two_parts hA hB _) (ht.keep ((Below.refl _ _).alloc (Nat.le_refl _) _))).mono fun e w' ⟨he, hw⟩ => by
    subst hw
    rw [two_crc] at he
    exact ⟨he, (Below.refl _ _).alloc (Nat.le_refl _) _⟩

set_option maxHeartbeats 1600000 in
theorem sums_any (A B : Option Addr) (n c m c2 : Nat) (f g : Nat → Nat) (w : World) (hn : n ≤ 140737488351232) (hm : m ≤ 140737488351232) (hA : SlB w A n f) (hB : SlB w B m g) (nA : A = none → n = 0 ∧ c = 0) (nB : B = none → m = 0 ∧ c2 = 0) (ht : Tab w) :
    Calls Tryd.prog 3 #[.slice A n c, .slice B m c2] w fun e w' => e = .returned (.bool true) ∧ Below w.heap.size w w' := by
  have HA := Lib.hid hA
  have HB := Lib.hid hB
  have HT := Lib.hid ht
  have HNA := Lib.hid nA
  have HNB := Lib.hid nB
  have HFA := Lib.hid (fun j (hj : j < n) => hA.byte hj)
  have HFB := Lib.hid (fun j (hj : j < m) => hB.byte hj)
  clear hA hB ht nA nB
  by_cases hbig : 1048576 < n ∨ 1048576 < m
  · have HG := Lib.hid hbig
    clear hbig
    go_enter Tryd.func3, Tryd.ntmps3
    go_wp2_with fail
    refine (small_any _ HT.out).mono ?_
    rintro e w1 ⟨rfl, hb1⟩
    rcases HG.out with h | h
    · have hd : decide (1048576 < (n : Int)) = true := by simp; omega
      go_wp2_with fail
      go_ret
      exact ⟨rfl, hb1⟩
    · by_cases h2 : 1048576 < n
      · have hd : decide (1048576 < (n : Int)) = true := by simp; omega
        go_wp2_with fail
        go_ret
        exact ⟨rfl, hb1⟩
      · have hd : decide (1048576 < (n : Int)) = false := by simp; omega
        have hd2 : decide (1048576 < (m : Int)) = true := by simp; omega
        go_wp2_with fail
        go_ret
        exact ⟨rfl, hb1⟩
  · have hn1 : n ≤ 1048576 := by omega
    have hm1 : m ≤ 1048576 := by omega
    have hd : decide (1048576 < (n : Int)) = false := by simp; omega
    have hd2 : decide (1048576 < (m : Int)) = false := by simp; omega
    clear hbig
    go_enter Tryd.func3, Tryd.ntmps3
    go_wp2_with fail
    refine (small_any _ HT.out).mono ?_
    rintro e w1 ⟨rfl, hb1⟩
    have HB1 := Lib.hid hb1
    clear hb1
    go_wp2_with fail
    refine (lent_any A n c f _ hn (HA.out.keep HB1.out)).mono ?_
    rintro e w2 ⟨gL, rfl, hgL, hrow, hb2⟩
    have HR2 := Lib.hid hrow
    have HB2 := Lib.hid (HB1.out.trans (hb2.mono HB1.out.size))
    clear hrow hgL hb2
    go_wp2_with fail
    refine (sum_two (w := w2) (SlB.of_rowX ((RowX.of_rowIs HR2.out).less (Nat.le_succ n)) (fun j hj => ⟨HFA.out j hj, by rw [if_pos hj]⟩)) (HB.out.keep HB2.out) (by omega) (by omega) (HT.out.keep HB2.out)).mono ?_
    rintro e w3 ⟨rfl, hb3⟩
    have HR3 := Lib.hid (HR2.out.of_block (hb3.block gL HR2.out.lt))
    have HB3 := Lib.hid (HB2.out.trans (hb3.mono HB2.out.size))
    clear hb3
    go_wp2_with fail
    refine (kept_any gL A n c f _ hn (HA.out.keep HB3.out) HR3.out).mono ?_
    rintro e w4 ⟨rfl, rfl⟩
    obtain ⟨A5, c5, w5, hrun5, ho5, hs5, hc5, hb5⟩ := run_appO (w3.alloc (.cells #[] 5)) w.heap.size _ 0 (fun _ => 0) (OwnB.empty w3 _ _ HB3.out.size) A n c f ((HA.out.keep HB3.out).keep ((Below.refl _ _).alloc (Nat.le_refl _) _)) HNA.out (by omega) (Nat.le_trans HB3.out.size (by simp)) (fun j hj => absurd hj (Nat.not_lt_zero j)) HFA.out
    have HB5 := Lib.hid ((HB3.out.alloc HB3.out.size (.cells #[] 5)).trans hb5)
    rw [Nat.zero_add] at hrun5 ho5 hs5 hc5
    obtain ⟨A6, c6, w6, hrun6, ho6, hs6, hc6, hb6⟩ := run_appO w5 w.heap.size _ n _ ho5 B m c2 g (HB.out.keep HB5.out) HNB.out (by omega) HB5.out.size (fun j hj => catB_lt (fun j hj => absurd hj (Nat.not_lt_zero j)) HFA.out j (by omega)) HFB.out
    have HB6 := Lib.hid (HB5.out.trans hb6)
    have HS6 := Lib.hid hs6
    have HQ := Lib.hid (show crc (n + m) (catB n (catB 0 (fun _ => 0) f) g) = crc (n + m) (catB n f g) from crc_congr fun j _ => by
      unfold catB; by_cases h : j < n
      · rw [if_pos h, if_pos h, if_neg (by omega), Nat.sub_zero]
      · rw [if_neg h, if_neg h])
    have HR5 := Lib.hid hrun5
    have HR6 := Lib.hid hrun6
    clear ho5 hs5 hc5 hb5 ho6 hs6 hc6 hb6 hrun5 hrun6
    go_wp2_with (first | (refine wpList_runA (.tmp 34) (.tmp 35) rfl rfl (by rfl) rfl rfl HR5.out ?_) | (refine wpList_runA (.tmp 36) (.tmp 37) rfl rfl (by rfl) rfl rfl HR6.out ?_))
    refine (rsum_any A6 (n + m) c6 _ _ (by omega) HS6.out).mono ?_
    rintro e w7 ⟨rfl, rfl⟩
    rw [HQ.out]
    go_wp2_with fail
    go_ret
    exact ⟨rfl, HB6.out⟩
end Go.Proofs.YtphbhfilaknbfaaDoor
