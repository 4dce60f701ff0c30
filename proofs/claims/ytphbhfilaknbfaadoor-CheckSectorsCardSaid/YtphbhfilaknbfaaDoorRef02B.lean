/- The document's own answer for layer 2: Lay, Take. -/
import Derived.Test.YtphbhfilaknbfaaDoorChkD
import Derived.Test.YtphbhfilaknbfaaDoorRef02A
namespace Go.Proofs.YtphbhfilaknbfaaDoor
open Go.RowKit

theorem layd_step (n k : Nat) (f : Nat → Nat) (h : n ≤ k) (j : Nat) : catB k (layd n f) (fun _ => 0) j = layd n f j := by
  unfold catB layd
  by_cases h1 : j < k
  · rw [if_pos h1]
  · rw [if_neg h1, if_neg (by omega)]
theorem layd_first (n : Nat) (f g : Nat → Nat) (j : Nat) (hj : j < n) : catB 0 g f j = layd n f j := by
  unfold catB layd; rw [if_neg (by omega), if_pos hj, Nat.sub_zero]

set_option maxHeartbeats 1600000 in
theorem rlay_ok (A : Option Addr) (n cap : Nat) (f : Nat → Nat) (s m : Nat) (w : World) (hs : s = m + 4) (h1 : 1 ≤ m) (h2 : s ≤ 4096) (hn : n ≤ m) (hA : SlB w A n f) (hnil : A = none → n = 0 ∧ cap = 0) :
    Calls Tryd.prog 16 #[.slice A n cap, .int .i64 s] w fun e w' => ∃ B c, e = .returned (.tuple #[.slice B s c, .int .i64 0]) ∧ SlB w' B s (secB m (layd n f)) ∧ Below w.heap.size w w' := by
  have HA := Lib.hid hA
  have HNil := Lib.hid hnil
  have HM := Lib.hid hs
  have HF := Lib.hid (fun j (hj : j < n) => hA.byte hj)
  have HZ := Lib.hid (fun j (hj : j < m) => layd_lt HF.out j hj)
  have e4 : (s : Int) - 4 = (m : Nat) := by omega
  have h5 : (5 : Int) ≤ s := by omega
  have h6 : (s : Int) ≤ 4096 := by omega
  have hd : decide ((s : Int) < 5) = false := by simp; omega
  have hd2 : decide ((4096 : Int) < s) = false := by simp; omega
  have hd3 : decide (m < n) = false := by simp; omega
  clear hA hnil hs
  go_enter Tryd.func16, Tryd.ntmps16
  go_wp2_with ((refine wpList_appO rfl (.tmp 19) (.tmp 20) rfl w.heap.size _ 0 (fun _ => 0) rfl (OwnB.nil w _ _) A n cap f rfl HA.out HNil.out (by omega) (Nat.le_refl _) (fun j hj => absurd hj (Nat.not_lt_zero j)) HF.out ?_); intro A1 c1 w1 ho1 hs1 hc1 hb1; rw [Nat.zero_add] at ho1 hs1 hc1 ⊢; have HO1 := Lib.hid (ho1.congr (layd_first n f _)); have HB1 := Lib.hid hb1; clear ho1 hs1 hc1 hb1)
  go_loopw [6] (fun o wr => ∃ k A c, n ≤ k ∧ k ≤ m ∧ o = .slice A k c ∧ OwnB wr w.heap.size (.slice A k c) k (layd n f) ∧ Below w.heap.size w wr) (fun o _ => m - lenOf o)
  case atStart => exact ⟨n, A1, c1, Nat.le_refl _, hn, rfl, HO1.out, HB1.out⟩
  case round =>
    obtain ⟨k, Ak, ck, hnk, hkm, rfl, ho, hb⟩ := hrel
    have HO := Lib.hid ho
    have HB := Lib.hid hb
    clear ho hb
    by_cases hlt : k < m
    · have hd4 : decide (k < m) = true := by simpa using hlt
      have HN := Lib.hid (layd_step n k f hnk)
      have HL := Lib.hid (fun j (hj : j < k) => HZ.out j (by omega))
      go_wp2_with ((refine wpList_appO rfl (.tmp 27) (.tmp 28) rfl w.heap.size _ k (layd n f) rfl (HO.out.alloc _) _ 1 1 (fun _ => 0) rfl (one_slB wr _ 0 (by decide)) (fun h => by cases h) (by omega) (Nat.le_trans HB.out.size (by simp)) HL.out (fun _ _ => by decide) ?_); intro A2 c2 w2 ho2 hs2 hc2 hb2; have HO2 := Lib.hid (ho2.congr (fun j _ => HN.out j)); have HB2 := Lib.hid ((HB.out.alloc HB.out.size _).trans hb2); clear ho2 hs2 hc2 hb2)
      go_roundw
      case rel => exact ⟨k + 1, A2, c2, by omega, by omega, rfl, HO2.out, HB2.out⟩
      case measure => simp [lenOf]; omega
    · obtain rfl : k = m := by omega
      have hd4 : decide (k < k) = false := by simp
      obtain ⟨A9, c9, e9, hs9⟩ := HO.out.slice HZ.out
      cases e9
      have HS9 := Lib.hid hs9
      clear hs9
      go_wp2_with fail
      refine (rsum_any Ak k ck (layd n f) _ (by omega) HS9.out).mono ?_
      rintro e w3 ⟨rfl, rfl⟩
      have hl := crc_lt k (layd n f)
      obtain ⟨q, hq⟩ : ∃ q, crc k (layd n f) = q := ⟨_, rfl⟩
      have HQ := Lib.hid hq
      rw [hq] at hl ⊢
      have HL := Lib.hid hl
      clear hq
      have HN := Lib.hid (show ((nb q 0 : Nat) : Int) = (q : Int) / 16777216 ∧ ((nb q 1 : Nat) : Int) = (q : Int) / 65536 % 256 ∧ ((nb q 2 : Nat) : Int) = (q : Int) / 256 % 256 ∧ ((nb q 3 : Nat) : Int) = (q : Int) % 256 from ⟨rfl, rfl, rfl, rfl⟩)
      have HF4 := Lib.hid (four_slB wr 5 (nb q) (fun j => nb_lt q j HL.out))
      go_wp2_with ((refine wpList_appO rfl (.tmp 32) (.tmp 44) rfl w.heap.size _ k (layd n f) rfl (HO.out.alloc _) _ 4 4 (nb q) rfl HF4.out (fun h => by cases h) (by omega) (Nat.le_trans HB.out.size (by simp)) HZ.out (fun j _ => nb_lt q j HL.out) ?_); intro A2 c2 w2 ho2 hs2 hc2 hb2; have HS2 := Lib.hid hs2; have HB2 := Lib.hid ((HB.out.alloc HB.out.size _).trans hb2); clear ho2 hs2 hc2 hb2)
      go_ret2
      exact ⟨A2, c2, by rw [HM.out]; rfl, by
        rw [HM.out]
        exact fun hpos => by
          obtain ⟨B, o, e, hB, hc⟩ := HS2.out hpos
          refine ⟨B, o, e, hB, fun j hj => ?_⟩
          have := hc j hj
          unfold secB; rw [HQ.out]; exact this, HB2.out⟩

set_option maxHeartbeats 400000 in
theorem rlay_arg (A : Option Addr) (n cap : Nat) (s : Int) (w : World) (h : s < 5 ∨ 4096 < s) :
    Calls Tryd.prog 16 #[.slice A n cap, .int .i64 s] w fun e w' => e = .returned (.tuple #[.slice none 0 0, .int .i64 1]) ∧ w = w' := by
  rcases h with h | h
  · have hd : decide (s < 5) = true := by simpa using h
    go_enter Tryd.func16, Tryd.ntmps16
    go_wp2_with fail
    go_ret2
    exact ⟨rfl, rfl⟩
  · have hd : decide (s < 5) = false := by simp; omega
    have hd2 : decide (4096 < s) = true := by simpa using h
    go_enter Tryd.func16, Tryd.ntmps16
    go_wp2_with fail
    go_ret2
    exact ⟨rfl, rfl⟩
set_option maxHeartbeats 400000 in
theorem rlay_long (A : Option Addr) (n cap : Nat) (s : Int) (w : World) (h1 : 5 ≤ s) (h2 : s ≤ 4096) (hn : s - 4 < n) :
    Calls Tryd.prog 16 #[.slice A n cap, .int .i64 s] w fun e w' => e = .returned (.tuple #[.slice none 0 0, .int .i64 2]) ∧ w = w' := by
  have hd : decide (s < 5) = false := by simp; omega
  have hd2 : decide (4096 < s) = false := by simp; omega
  go_enter Tryd.func16, Tryd.ntmps16
  go_wp2_with fail
  go_ret2
  exact ⟨rfl, rfl⟩

set_option maxHeartbeats 400000 in
theorem rtake_form (A : Option Addr) (n cap : Nat) (w : World) (hn : n ≤ 281474976710656) (h : n < 5 ∨ 4096 < n) :
    Calls Tryd.prog 17 #[.slice A n cap] w fun e w' => e = .returned (.tuple #[.slice none 0 0, .int .i64 4]) ∧ w = w' := by
  rcases h with h | h
  · have hd : decide ((n : Int) < 5) = true := by simp; omega
    go_enter Tryd.func17, Tryd.ntmps17
    go_wp2_with fail
    go_ret2
    exact ⟨rfl, rfl⟩
  · have hd : decide ((n : Int) < 5) = false := by simp; omega
    have hd2 : decide ((4096 : Int) < n) = true := by simp; omega
    go_enter Tryd.func17, Tryd.ntmps17
    go_wp2_with fail
    go_ret2
    exact ⟨rfl, rfl⟩

theorem told_iff (m : Nat) (f : Nat → Nat) (hf : ∀ j, j < m + 4 → f j < 256) : told m f = true ↔ crc m f = f m * 16777216 + f (m + 1) * 65536 + f (m + 2) * 256 + f (m + 3) := by
  have hq := crc_lt m f
  have l0 := hf m (by omega)
  have l1 := hf (m + 1) (by omega)
  have l2 := hf (m + 2) (by omega)
  have l3 := hf (m + 3) (by omega)
  constructor
  · intro h
    obtain ⟨_, h2⟩ := strOf_inj (fun j hj => hf _ (by omega)) (fun j _ => nb_lt _ j hq) (sameS_eq h)
    have a0 : f m = crc m f / 16777216 := h2 0 (by omega)
    have a1 : f (m + 1) = crc m f / 65536 % 256 := h2 1 (by omega)
    have a2 : f (m + 2) = crc m f / 256 % 256 := h2 2 (by omega)
    have a3 : f (m + 3) = crc m f % 256 := h2 3 (by omega)
    omega
  · intro h
    unfold told
    rw [strOf_congr 4 (fun j => f (m + j)) (nb (crc m f)) fun j hj => by
      rcases (show j = 0 ∨ j = 1 ∨ j = 2 ∨ j = 3 by omega) with rfl | rfl | rfl | rfl
      · show f m = crc m f / 16777216; omega
      · show f (m + 1) = crc m f / 65536 % 256; omega
      · show f (m + 2) = crc m f / 256 % 256; omega
      · show f (m + 3) = crc m f % 256; omega]
    exact sameS_self _
/-- what the document's Take does with a sector's bytes -/
def RTakeP (b : Bool) (m : Nat) (f : Nat → Nat) (w : World) (e : Ending) (w' : World) : Prop :=
  match b with
  | true => ∃ A c, e = .returned (.tuple #[.slice A m c, .int .i64 0]) ∧ SlB w' A m f ∧ Below w.heap.size w w'
  | false => e = .returned (.tuple #[.slice none 0 0, .int .i64 6]) ∧ Below w.heap.size w w'
set_option maxHeartbeats 1600000 in
theorem rtake_both (b : Bool) (A : Option Addr) (s m cap : Nat) (f : Nat → Nat) (w : World) (hs : s = m + 4) (h1 : 1 ≤ m) (h2 : s ≤ 4096) (hsc : s ≤ cap) (hA : SlB w A s f) (hto : told m f = b) :
    Calls Tryd.prog 17 #[.slice A s cap] w (RTakeP b m f w) := by
  obtain ⟨B, o, rfl, hB, hcl⟩ := hA (by omega)
  have HTo := Lib.hid (told_iff m f fun j hj => (hcl j (by omega)).1)
  have HTb := Lib.hid hto
  have HM2 := Lib.hid (show SlB w (some ⟨B, o, none⟩) m f from fun _ => ⟨B, o, rfl, hB, fun j hj => hcl j (by omega)⟩)
  have HF := Lib.hid (fun j (hj : j < m) => (hcl j (by omega)).1)
  obtain ⟨l0, c0⟩ := hcl m (by omega)
  obtain ⟨l1, c1⟩ := hcl (m + 1) (by omega)
  obtain ⟨l2, c2⟩ := hcl (m + 2) (by omega)
  obtain ⟨l3, c3⟩ := hcl (m + 3) (by omega)
  obtain ⟨q, hq⟩ : ∃ q, crc m f = q := ⟨_, rfl⟩
  have HQ := Lib.hid hq
  rw [hq] at HTo
  generalize f m = x0 at *
  generalize f (m + 1) = x1 at *
  generalize f (m + 2) = x2 at *
  generalize f (m + 3) = x3 at *
  obtain ⟨t, ht⟩ : ∃ t : Nat, (x0 : Int) * 16777216 + (x1 : Int) * 65536 + (x2 : Int) * 256 + (x3 : Int) = t := ⟨x0 * 16777216 + x1 * 65536 + x2 * 256 + x3, by omega⟩
  have HTt := Lib.hid (show x0 * 16777216 + x1 * 65536 + x2 * 256 + x3 = t by omega)
  rw [HTt.out] at HTo
  have e4 : (s : Int) - 4 = (m : Nat) := by omega
  have h5 : (5 : Int) ≤ s := by omega
  have h6 : (s : Int) ≤ 4096 := by omega
  have h7 : (m : Int) < s := by omega
  have h8 : (m : Int) ≤ cap := by omega
  have hd : decide ((s : Int) < 5) = false := by simp; omega
  have hd2 : decide ((4096 : Int) < s) = false := by simp; omega
  clear hA hs hto hcl hq
  go_enter Tryd.func17, Tryd.ntmps17
  go_wp2_with fail
  go_quiet (fail)
  have HM3 := Lib.hid (HM2.out.drewN nq)
  have HB3 := Lib.hid (drawn (Below.refl w.heap.size w) nq)
  generalize w.drewN nq = w3 at *
  clear ht c0 c1 c2 c3
  go_wp2_with fail
  refine (rsum_any _ m cap f _ (by omega) HM3.out).mono ?_
  rintro e w4 ⟨rfl, rfl⟩
  rw [HQ.out]
  cases b
  · have hne : ((q : Int) != (t : Int)) = true := by
      have : ¬ q = t := fun h => by
        have h2 := HTo.out.2 h
        rw [HTb.out] at h2
        cases h2
      simp; omega
    go_wp2_with fail
    go_ret2
    exact ⟨rfl, HB3.out⟩
  · obtain rfl : q = t := HTo.out.1 HTb.out
    go_wp2_with ((refine wpList_appO rfl (.tmp 52) (.tmp 55) rfl w.heap.size _ 0 (fun _ => 0) rfl (OwnB.empty w3 _ _ HB3.out.size) _ m cap f rfl (HM3.out.keep ((Below.refl _ _).alloc (Nat.le_refl _) _)) (fun h => by cases h) (by omega) (Nat.le_trans HB3.out.size (by simp)) (fun j hj => absurd hj (Nat.not_lt_zero j)) HF.out ?_); intro A1 c1 w1 ho1 hs1 hc1 hb1; rw [Nat.zero_add] at hs1 ⊢; have HS1 := Lib.hid hs1; have HB1 := Lib.hid ((HB3.out.alloc HB3.out.size _).trans hb1); clear ho1 hs1 hc1 hb1)
    go_ret2
    exact ⟨A1, c1, rfl, fun hpos => by
      obtain ⟨B, o, e, hB, hc⟩ := HS1.out hpos
      refine ⟨B, o, e, hB, fun j hj => ?_⟩
      have := hc j hj
      unfold catB at this
      rw [if_neg (Nat.not_lt_zero j), Nat.sub_zero] at this
      exact this, HB1.out⟩
end Go.Proofs.YtphbhfilaknbfaaDoor
