/- Contracts of package mac: Mac, of one, two and three parts. -/
import Derived.Test.YtogcfaijphpgfaaDoorMacC
namespace Go.Proofs.YtogcfaijphpgfaaDoor
open Go.RowKit
/-- what a call of Mac leaves -/
def TagD (n : Nat) (key : Nat → Nat) (m : Nat) (F : Nat → Nat) (W : World) (e : Ending) (w' : World) : Prop :=
  ∃ d, e = .returned (.slice (some ⟨d, 0, none⟩) 32 32) ∧ W.heap.size ≤ d ∧ Arr w' d 0 32 (tag n key m F) ∧ Below W.heap.size W w'
theorem TagD.from {n : Nat} {key : Nat → Nat} {m : Nat} {F : Nat → Nat} {W0 W : World} {e : Ending} {w' : World} (h : TagD n key m F W e w') (hb : Below W0.heap.size W0 W) : TagD n key m F W0 e w' := by
  obtain ⟨d, he, hd, ha, hb'⟩ := h
  exact ⟨d, he, Nat.le_trans hb.size hd, ha, hb.trans (hb'.mono hb.size)⟩
theorem TagD.as {n m m' : Nat} {key F F' : Nat → Nat} {W : World} {e : Ending} {w' : World} (h : TagD n key m F W e w') (hm : m = m') (hF : ∀ j, j < m → F j = F' j) : TagD n key m' F' W e w' := by
  subst hm
  obtain ⟨d, he, hd, ha, hb'⟩ := h
  exact ⟨d, he, hd, ha.congr fun j _ => tag_congr (fun _ _ => rfl) hF j, hb'⟩
theorem TagP.from {g n : Nat} {key : Nat → Nat} {m : Nat} {F : Nat → Nat} {W0 W : World} {e : Ending} {w' : World} (h : TagP g n key m F W e w') (hb : Below W0.heap.size W0 W) : TagP g n key m F W0 e w' := by
  obtain ⟨d, he, hd, ha, hr, hc⟩ := h
  exact ⟨d, he, Nat.le_trans hb.size hd, ha, hr, (Chg.of_below hb).trans hc⟩
theorem TagP.as {g n m m' : Nat} {key F F' : Nat → Nat} {W : World} {e : Ending} {w' : World} (h : TagP g n key m F W e w') (hm : m = m') (hF : ∀ j, j < m → F j = F' j) : TagP g n key m' F' W e w' := by
  subst hm
  obtain ⟨d, he, hd, ha, hr, hc⟩ := h
  exact ⟨d, he, hd, ha.congr fun j _ => tag_congr (fun _ _ => rfl) hF j, hr, hc⟩
set_option maxHeartbeats 800000 in
theorem mac_any (gp k cap n ck : Nat) (AK : Option Addr) (key : Nat → Nat) (A : Nat → Option Addr) (l c : Nat → Nat) (f : Nat → Nat → Nat) (F : Nat → Nat) (m : Nat) (w : World) (hn : n ≤ 10000000000000) (hck : n ≤ ck) (hAK : SlB w AK n key) (hkey : By n key) (hk0 : 0 < k) (hk2 : k ≤ 1000) (hm : offs 0 l k = m) (hN : m ≤ 10000000000000)
    (hp : Parts w gp k A l c f) (hcap : ∀ i, i < k → l i ≤ c i) (hF : ∀ i, i < k → ∀ j, j < l i → F (offs 0 l i + j) = f i j) (hY : By m F) (ht : GT w) :
    Calls Tryd.prog 12 #[.slice AK n ck, .slice (some ⟨gp, 0, none⟩) k cap] w (TagD n key m F w) := by
  have HW := Lib.hid (mnew_any AK n ck key w (by omega) hck hAK ht)
  have HGP := Lib.hid (block_lt (a := ⟨gp, 0, none⟩) (hp.cells 0 hk0))
  have HP := Lib.hid hp
  have HT := Lib.hid ht
  have HM := Lib.hid (fun (g : Nat) (w1 : World) (h1 : MakAt w1 g n key) (h2 : Parts w1 gp k A l c f) (h3 : GT w1) (h4 : 1 ≠ g ∧ 0 ≠ g) (h5 : gp ≠ g) (h6 : ∀ i, i < k → 0 < l i → ∀ B o, A i = some ⟨B, o, none⟩ → B ≠ g) =>
    mmac_any g n gp k cap key A l c f F m w1 hkey h1 hk0 hk2 hm hN h2 hcap hF hY h3 h4 h5 h6)
  clear hn hck hAK hkey hm hN hp hcap hF hY ht
  go_enter Tryd.func12, Tryd.ntmps12
  go_wp2_with fail
  refine HW.out.mono ?_
  rintro e w1 ⟨g, rfl, hg, h1, h2⟩
  have HQ := Lib.hid (HM.out g w1 h1 (HP.out.keep h2) (HT.out.keep h2) ⟨Nat.ne_of_lt (Nat.lt_of_lt_of_le HT.out.ltk hg), Nat.ne_of_lt (Nat.lt_of_lt_of_le HT.out.lth hg)⟩ (Nat.ne_of_lt (Nat.lt_of_lt_of_le HGP.out hg)) (HP.out.apart hg))
  have HG := Lib.hid hg
  have HB := Lib.hid h2
  clear hg h1 h2
  go_wp2_with fail
  refine HQ.out.mono ?_
  rintro e w2 ⟨d, rfl, hd, ha, _, hc⟩
  have HD := Lib.hid hd
  have HA := Lib.hid ha
  have HC := Lib.hid hc
  clear hd ha hc
  go_wp2_with fail
  go_ret
  exact ⟨d, rfl, Nat.le_trans HB.out.size HD.out, HA.out, HB.out.trans (HC.out.below HB.out.size HG.out)⟩
theorem alloc_below (W : World) (o : Obj) : Below W.heap.size W (W.alloc o) := (Below.refl _ _).alloc (Nat.le_refl _) o
theorem mac1_any (W : World) (AK A : Option Addr) (n ck l c : Nat) (key f : Nat → Nat) (hn : n ≤ 10000000000000) (hl : l ≤ 10000000000000) (hck : n ≤ ck) (hc : l ≤ c) (hAK : SlB W AK n key) (hkey : By n key) (hA : SlB W A l f) (ht : GT W) :
    Calls Tryd.prog 12 #[.slice AK n ck, .slice (some ⟨W.heap.size, 0, none⟩) 1 1] (W.alloc (.cells #[.slice A l c] 22)) (TagD n key l f W) := by
  refine (mac_any W.heap.size 1 1 n ck AK key (fun _ => A) (fun _ => l) (fun _ => c) (fun _ => f) f l _ hn hck (hAK.keep (alloc_below _ _)) hkey (by decide) (by decide) (Nat.zero_add l) hl (parts1 A l c f hA) (fun _ _ => hc) (fun i hi j hj => ?_) (fun j hj => hA.byte hj) (ht.alloc _)).mono fun e w' h => h.from (alloc_below _ _)
  obtain rfl : i = 0 := by omega
  show f (0 + j) = f j
  rw [Nat.zero_add]
theorem hF_two {A0 A1 : Option Addr} {W : World} {n0 n1 : Nat} {f0 f1 F : Nat → Nat} (h0 : SlB W A0 n0 f0) (h1 : SlB W A1 n1 f1) (hF0 : ∀ j, j < n0 → F j = f0 j) (hF1 : ∀ j, j < n1 → F (n0 + j) = f1 j) :
    (∀ i, i < 2 → ∀ j, j < t2 n0 n1 i → F (offs 0 (t2 n0 n1) i + j) = t2 f0 f1 i j) ∧ By (n0 + n1) F := by
  refine ⟨fun i hi j hj => ?_, fun j hj => ?_⟩
  · rcases two_of hi with rfl | rfl
    · show F (0 + j) = f0 j
      rw [Nat.zero_add]; exact hF0 j hj
    · show F (0 + n0 + j) = f1 j
      rw [Nat.zero_add]; exact hF1 j hj
  · by_cases e : j < n0
    · rw [hF0 j e]; exact h0.byte e
    · have := hF1 (j - n0) (by omega)
      rw [show n0 + (j - n0) = j by omega] at this
      rw [this]; exact h1.byte (by omega)
theorem cap_two {n0 n1 c0 c1 : Nat} (h0 : n0 ≤ c0) (h1 : n1 ≤ c1) : ∀ i, i < 2 → t2 n0 n1 i ≤ t2 c0 c1 i := fun i hi => by
  rcases two_of hi with rfl | rfl
  · exact h0
  · exact h1
theorem offs_two (n0 n1 : Nat) : offs 0 (t2 n0 n1) 2 = n0 + n1 := by show 0 + n0 + n1 = _; omega
theorem mac2_any (W : World) (AK A0 A1 : Option Addr) (n ck n0 n1 c0 c1 : Nat) (key f0 f1 F : Nat → Nat) (hn : n ≤ 10000000000000) (hl : n0 + n1 ≤ 10000000000000) (hck : n ≤ ck) (hc0 : n0 ≤ c0) (hc1 : n1 ≤ c1) (hAK : SlB W AK n key) (hkey : By n key) (h0 : SlB W A0 n0 f0) (h1 : SlB W A1 n1 f1)
    (hF0 : ∀ j, j < n0 → F j = f0 j) (hF1 : ∀ j, j < n1 → F (n0 + j) = f1 j) (ht : GT W) :
    Calls Tryd.prog 12 #[.slice AK n ck, .slice (some ⟨W.heap.size, 0, none⟩) 2 2] (W.alloc (.cells #[.slice A0 n0 c0, .slice A1 n1 c1] 22)) (TagD n key (n0 + n1) F W) :=
  (mac_any W.heap.size 2 2 n ck AK key _ _ _ _ F (n0 + n1) _ hn hck (hAK.keep (alloc_below _ _)) hkey (by decide) (by decide) (offs_two n0 n1) hl (parts2 A0 A1 n0 n1 c0 c1 f0 f1 h0 h1) (cap_two hc0 hc1) (hF_two h0 h1 hF0 hF1).1 (hF_two h0 h1 hF0 hF1).2 (ht.alloc _)).mono fun e w' h => h.from (alloc_below _ _)
theorem mac3_any (W : World) (AK A0 A1 A2 : Option Addr) (n ck n0 n1 n2 c0 c1 c2 : Nat) (key f0 f1 f2 F : Nat → Nat) (hn : n ≤ 10000000000000) (hl : n0 + n1 + n2 ≤ 10000000000000) (hck : n ≤ ck) (hc0 : n0 ≤ c0) (hc1 : n1 ≤ c1) (hc2 : n2 ≤ c2) (hAK : SlB W AK n key) (hkey : By n key) (h0 : SlB W A0 n0 f0) (h1 : SlB W A1 n1 f1) (h2 : SlB W A2 n2 f2)
    (hY : By (n0 + n1 + n2) F) (hF0 : ∀ j, j < n0 → F j = f0 j) (hF1 : ∀ j, j < n1 → F (n0 + j) = f1 j) (hF2 : ∀ j, j < n2 → F (n0 + n1 + j) = f2 j) (ht : GT W) :
    Calls Tryd.prog 12 #[.slice AK n ck, .slice (some ⟨W.heap.size, 0, none⟩) 3 3] (W.alloc (.cells #[.slice A0 n0 c0, .slice A1 n1 c1, .slice A2 n2 c2] 22)) (TagD n key (n0 + n1 + n2) F W) := by
  refine (mac_any W.heap.size 3 3 n ck AK key _ _ _ _ F (n0 + n1 + n2) _ hn hck (hAK.keep (alloc_below _ _)) hkey (by decide) (by decide) (by show 0 + n0 + n1 + n2 = _; omega) hl (parts3 A0 A1 A2 n0 n1 n2 c0 c1 c2 f0 f1 f2 h0 h1 h2) (fun i hi => ?_) (fun i hi j hj => ?_) hY (ht.alloc _)).mono fun e w' h => h.from (alloc_below _ _)
  · rcases three_of hi with rfl | rfl | rfl
    · exact hc0
    · exact hc1
    · exact hc2
  · rcases three_of hi with rfl | rfl | rfl
    · show F (0 + j) = f0 j
      rw [Nat.zero_add]; exact hF0 j hj
    · show F (0 + n0 + j) = f1 j
      rw [Nat.zero_add]; exact hF1 j hj
    · show F (0 + n0 + n1 + j) = f2 j
      rw [Nat.zero_add]; exact hF2 j hj
theorem mmac1_any (W : World) (g n : Nat) (A : Option Addr) (l c : Nat) (key f : Nat → Nat) (hkey : By n key) (hk : MakAt W g n key) (hl : l ≤ 10000000000000) (hc : l ≤ c) (hA : SlB W A l f) (ht : GT W) (hG : 1 ≠ g ∧ 0 ≠ g) (hO : Off A l g) :
    Calls Tryd.prog 15 #[.pointer (some ⟨g, 0, none⟩), .slice (some ⟨W.heap.size, 0, none⟩) 1 1] (W.alloc (.cells #[.slice A l c] 22)) (TagP g n key l f W) := by
  refine (mmac_any g n W.heap.size 1 1 key (fun _ => A) (fun _ => l) (fun _ => c) (fun _ => f) f l _ hkey (hk.keep (alloc_below _ _)) (by decide) (by decide) (Nat.zero_add l) hl (parts1 A l c f hA) (fun _ _ => hc) (fun i hi j hj => ?_) (fun j hj => hA.byte hj) (ht.alloc _) hG (Nat.ne_of_gt hk.lt) (fun _ _ => hO)).mono fun e w' h => h.from (alloc_below _ _)
  obtain rfl : i = 0 := by omega
  show f (0 + j) = f j
  rw [Nat.zero_add]
theorem mmac2_any (W : World) (g n : Nat) (A0 A1 : Option Addr) (n0 n1 c0 c1 : Nat) (key f0 f1 F : Nat → Nat) (hkey : By n key) (hk : MakAt W g n key) (hl : n0 + n1 ≤ 10000000000000) (hc0 : n0 ≤ c0) (hc1 : n1 ≤ c1) (h0 : SlB W A0 n0 f0) (h1 : SlB W A1 n1 f1)
    (hF0 : ∀ j, j < n0 → F j = f0 j) (hF1 : ∀ j, j < n1 → F (n0 + j) = f1 j) (ht : GT W) (hG : 1 ≠ g ∧ 0 ≠ g) (hO0 : Off A0 n0 g) (hO1 : Off A1 n1 g) :
    Calls Tryd.prog 15 #[.pointer (some ⟨g, 0, none⟩), .slice (some ⟨W.heap.size, 0, none⟩) 2 2] (W.alloc (.cells #[.slice A0 n0 c0, .slice A1 n1 c1] 22)) (TagP g n key (n0 + n1) F W) := by
  refine (mmac_any g n W.heap.size 2 2 key _ _ _ _ F (n0 + n1) _ hkey (hk.keep (alloc_below _ _)) (by decide) (by decide) (offs_two n0 n1) hl (parts2 A0 A1 n0 n1 c0 c1 f0 f1 h0 h1) (cap_two hc0 hc1) (hF_two h0 h1 hF0 hF1).1 (hF_two h0 h1 hF0 hF1).2 (ht.alloc _) hG (Nat.ne_of_gt hk.lt) (fun i hi => ?_)).mono fun e w' h => h.from (alloc_below _ _)
  rcases two_of hi with rfl | rfl
  · exact hO0
  · exact hO1
end Go.Proofs.YtogcfaijphpgfaaDoor
