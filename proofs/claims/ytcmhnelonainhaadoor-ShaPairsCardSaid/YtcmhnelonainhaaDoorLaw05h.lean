/- Law ShaPairs: two digests that go on in turn (layer 5). Written by wip/specs/mklaw5h.py and asm2.py. -/
import Derived.Test.YtcmhnelonainhaaDoorTwin
namespace Go.Proofs.YtcmhnelonainhaaDoor
open Go.RowKit
theorem run_parts1 (w : World) (A : Option Addr) (n c : Nat) : (Instr.buildSlice 28 1 #[(0, .slice A n c)]).run Tryd.prog w = .ok (.slice (some ⟨w.heap.size, 0, none⟩) 1 1) (w.alloc (.cells #[.slice A n c] 22)) := by go_simp
theorem sum1_parts (W : World) (gp cap : Nat) (A : Option Addr) (n c : Nat) (f : Nat → Nat) (hn : n ≤ 100000000000000) (hc : n ≤ c) (hp : Parts W gp 1 (fun _ => A) (fun _ => n) (fun _ => c) (fun _ => f)) (ht : GT W) :
    Calls Tryd.prog 12 #[.slice (some ⟨gp, 0, none⟩) 1 cap] W (Dig W n f) := by
  refine (sum_any gp 1 cap _ _ _ _ f W (by decide) (by decide) (by show 0 + n ≤ _; omega) hp (fun _ _ => hc) (fun i hi j hj => ?_) (fun j hj => (hp.rows 0 (by decide)).byte (by have : j < 0 + n := hj; omega)) ht).mono fun e w' h => (Dig.of h (Below.refl _ _)).as (Nat.zero_add n) fun _ _ => rfl
  obtain rfl : i = 0 := by omega
  show f (0 + j) = f j
  rw [Nat.zero_add]
--DEFS pas
def pasG (Va Vb : Option Addr) (g hh NA NB da db : Nat) (CA CB : Nat → Nat) : Nat → Value → World → Prop
  | 0, v, _ => v = .pointer (some ⟨g, 0, none⟩)
  | 1, v, w => ∃ d', v = .slice (some ⟨d', 0, none⟩) 32 32 ∧ Arr w d' 0 32 (sha NA CA)
  | 2, v, _ => v = .string (strOf 32 (sha NA CA))
  | 3, v, _ => v = .slice Va NA da
  | 4, v, w => ∃ gp, v = .slice (some ⟨gp, 0, none⟩) 1 1 ∧ Parts w gp 1 (fun _ => Va) (fun _ => NA) (fun _ => da) (fun _ => CA)
  | 5, v, w => ∃ d', v = .slice (some ⟨d', 0, none⟩) 32 32 ∧ Arr w d' 0 32 (sha NA CA)
  | 6, v, _ => v = .string (strOf 32 (sha NA CA))
  | 7, v, _ => v = .bool true
  | 8, v, _ => v = .bool true
  | 9, v, _ => v = .pointer (some ⟨hh, 0, none⟩)
  | 10, v, w => ∃ d', v = .slice (some ⟨d', 0, none⟩) 32 32 ∧ Arr w d' 0 32 (sha NB CB)
  | 11, v, _ => v = .string (strOf 32 (sha NB CB))
  | 12, v, _ => v = .slice Vb NB db
  | 13, v, w => ∃ gp, v = .slice (some ⟨gp, 0, none⟩) 1 1 ∧ Parts w gp 1 (fun _ => Vb) (fun _ => NB) (fun _ => db) (fun _ => CB)
  | 14, v, w => ∃ d', v = .slice (some ⟨d', 0, none⟩) 32 32 ∧ Arr w d' 0 32 (sha NB CB)
  | 15, v, _ => v = .string (strOf 32 (sha NB CB))
  | 16, v, _ => v = .bool true
  | 17, v, _ => v = .bool true
  | 18, v, _ => v = .bool true
  | 19, v, _ => v = .pointer (some ⟨g, 0, none⟩)
  | 20, v, _ => v = .int .i64 (NA : Nat)
  | 21, v, _ => v = .slice Va NA da
  | 22, v, _ => v = .int .i64 (NA : Nat)
  | 23, v, _ => v = .bool true
  | 24, v, _ => v = .bool true
  | 25, v, _ => v = .bool true
  | 26, v, _ => v = .pointer (some ⟨hh, 0, none⟩)
  | 27, v, _ => v = .int .i64 (NB : Nat)
  | 28, v, _ => v = .slice Vb NB db
  | 29, v, _ => v = .int .i64 (NB : Nat)
  | 30, v, _ => v = .bool true
  | 31, v, _ => v = .bool true
  | 32, v, _ => v = .bool true
  | _, _, _ => True
theorem pasG_stays (Va Vb : Option Addr) (g hh NA NB da db : Nat) (CA CB : Nat → Nat) : ∀ i v w w', pasG Va Vb g hh NA NB da db CA CB i v w → Below w.heap.size w w' → pasG Va Vb g hh NA NB da db CA CB i v w'
  | 0, _, _, _, h, _ => h
  | 1, v, w, w', h_, hb => by
    obtain ⟨d1, h1, h2⟩ := h_; exact ⟨d1, h1, h2.keep hb⟩
  | 2, _, _, _, h, _ => h
  | 3, _, _, _, h, _ => h
  | 4, v, w, w', h_, hb => by
    obtain ⟨d1, h1, h2⟩ := h_; exact ⟨d1, h1, h2.keep hb⟩
  | 5, v, w, w', h_, hb => by
    obtain ⟨d1, h1, h2⟩ := h_; exact ⟨d1, h1, h2.keep hb⟩
  | 6, _, _, _, h, _ => h
  | 7, _, _, _, h, _ => h
  | 8, _, _, _, h, _ => h
  | 9, _, _, _, h, _ => h
  | 10, v, w, w', h_, hb => by
    obtain ⟨d1, h1, h2⟩ := h_; exact ⟨d1, h1, h2.keep hb⟩
  | 11, _, _, _, h, _ => h
  | 12, _, _, _, h, _ => h
  | 13, v, w, w', h_, hb => by
    obtain ⟨d1, h1, h2⟩ := h_; exact ⟨d1, h1, h2.keep hb⟩
  | 14, v, w, w', h_, hb => by
    obtain ⟨d1, h1, h2⟩ := h_; exact ⟨d1, h1, h2.keep hb⟩
  | 15, _, _, _, h, _ => h
  | 16, _, _, _, h, _ => h
  | 17, _, _, _, h, _ => h
  | 18, _, _, _, h, _ => h
  | 19, _, _, _, h, _ => h
  | 20, _, _, _, h, _ => h
  | 21, _, _, _, h, _ => h
  | 22, _, _, _, h, _ => h
  | 23, _, _, _, h, _ => h
  | 24, _, _, _, h, _ => h
  | 25, _, _, _, h, _ => h
  | 26, _, _, _, h, _ => h
  | 27, _, _, _, h, _ => h
  | 28, _, _, _, h, _ => h
  | 29, _, _, _, h, _ => h
  | 30, _, _, _, h, _ => h
  | 31, _, _, _, h, _ => h
  | 32, _, _, _, h, _ => h
  | _ + 33, _, _, _, _, _ => trivial
--END DEFS pas
set_option maxRecDepth 100000 in
set_option maxHeartbeats 6400000 in
theorem pairs_any (ABa ABb : Option Addr) (na nb ca cb : Nat) (w : World) (hna : na ≤ 140737488351232) (hnb : nb ≤ 140737488351232) (hABa : RowsIn w ABa na) (hABb : RowsIn w ABb nb) (ht : GT w) :
    Calls Tryd.prog 8 #[.slice ABa na ca, .slice ABb nb cb] w fun e w' => e = .returned (.bool true) ∧ Below w.heap.size w w' := by
  have HABa := Lib.hid hABa
  have HABb := Lib.hid hABb
  have HT := Lib.hid ht
  clear hABa hABb ht
  go_enter Tryd.func8, Tryd.ntmps8
  go_wp2_with fail
  refine (small_any _ HT.out).mono ?_
  rintro e w1 ⟨rfl, hb1⟩
  have HB1 := Lib.hid hb1
  clear hb1
  go_wp2_with fail
  refine (new_any (fun _ => 0) w1 (HT.out.keep HB1.out)).mono ?_
  rintro e w2 ⟨rfl, h1, h2⟩
  have HM2 := Lib.hid h1
  have HB2 := Lib.hid (HB1.out.trans (h2.mono HB1.out.size))
  have HG := Lib.hid (show 0 ≠ w1.heap.size ∧ 1 ≠ w1.heap.size from ⟨Nat.ne_of_lt (HT.out.keep HB1.out).ltk, Nat.ne_of_lt (HT.out.keep HB1.out).lth⟩)
  have HWG := Lib.hid (show w.heap.size ≤ w1.heap.size from HB1.out.size)
  clear h1 h2
  obtain ⟨g, hgE⟩ : ∃ g, w1.heap.size = g := ⟨_, rfl⟩
  rw [hgE] at HM2 HG HWG
  rw [hgE]
  clear hgE
  go_wp2_with fail
  refine (new_any (fun _ => 0) w2 (HT.out.keep HB2.out)).mono ?_
  rintro e w3 ⟨rfl, h1, h2⟩
  have HMg3 := Lib.hid (HM2.out.keep h2)
  have HMh3 := Lib.hid h1
  have HB3 := Lib.hid (HB2.out.trans (h2.mono HB2.out.size))
  have HH := Lib.hid (show 0 ≠ w2.heap.size ∧ 1 ≠ w2.heap.size from ⟨Nat.ne_of_lt (HT.out.keep HB2.out).ltk, Nat.ne_of_lt (HT.out.keep HB2.out).lth⟩)
  have HWH := Lib.hid (show w.heap.size ≤ w2.heap.size from HB2.out.size)
  have HNE := Lib.hid (show g ≠ w2.heap.size from Nat.ne_of_lt HM2.out.lt)
  clear h1 h2 HM2
  obtain ⟨hh, hhE⟩ : ∃ hh, w2.heap.size = hh := ⟨_, rfl⟩
  rw [hhE] at HMh3 HH HWH HNE
  rw [hhE]
  clear hhE
  have HGL := Lib.hid HMg3.out.lt
  have HHL := Lib.hid HMh3.out.lt
  go_wp2_with fail
  go_loopw [8, 9, 10] (fun v8 v9 v10 wr => ∃ (k NA NB : Nat) (CA CB : Nat → Nat), k ≤ 8 ∧ NA ≤ 4096 * k ∧ NB ≤ 4096 * k ∧ v10 = .int .i64 (k : Nat) ∧ OwnB wr w3.heap.size v8 NA CA ∧ OwnB wr w3.heap.size v9 NB CB ∧ Apart v8 v9 ∧ HM wr g NA CA ∧ HM wr hh NB CB ∧ By NA CA ∧ By NB CB ∧ w3.heap.size ≤ wr.heap.size ∧ Below w.heap.size w wr) (fun _ _ v10 _ => 8 - (intOf v10).toNat)
  case atStart => exact ⟨0, 0, 0, fun _ => 0, fun _ => 0, Nat.zero_le _, Nat.zero_le _, Nat.zero_le _, rfl, OwnB.nil _ _ _, OwnB.nil _ _ _, Apart.nil _, HMg3.out, HMh3.out, fun j hj => absurd hj (Nat.not_lt_zero j), fun j hj => absurd hj (Nat.not_lt_zero j), Nat.le_refl _, HB3.out⟩
  case round =>
    obtain ⟨k, NA, NB, CA, CB, hk, hNA, hNB, rfl, hoA, hoB, hap, hmg, hmh, hyA, hyB, hs, hb⟩ := hrel
    have HOA := Lib.hid hoA
    have HOB := Lib.hid hoB
    have HAP := Lib.hid hap
    have HMg := Lib.hid hmg
    have HMh := Lib.hid hmh
    have HYA := Lib.hid hyA
    have HYB := Lib.hid hyB
    have HS := Lib.hid hs
    have HB := Lib.hid hb
    clear hoA hoB hap hmg hmh hyA hyB hs hb HMg3 HMh3
    by_cases hlt : k < 8
    · have hki : (k : Int) < 8 := by omega
      have hk0 : (0 : Int) ≤ (k : Nat) := by omega
      by_cases ha : k < na
      · obtain ⟨Ba, oa, rfl, hB, hrows⟩ := HABa.out (by omega)
        obtain ⟨Ra, la, ca, fa, hcell, hsl, hlca, hnil⟩ := hrows k ha
        have HBLa := Lib.hid hB
        have HCEa := Lib.hid hcell
        have HSLa := Lib.hid hsl
        have HNLa := Lib.hid hnil
        have HYa := Lib.hid (show By la fa from fun j hj => hsl.byte hj)
        have HOFa := Lib.hid (show Off Ra la g from hsl.off HWG.out)
        have hkia : (k : Int) < (na : Nat) := by omega
        clear hrows hcell hsl hB hnil
        by_cases hla : la < 4096
        · have hdla : decide ((la : Int) < 4096) = true := by simp; omega
          by_cases hb : k < nb
          · obtain ⟨Bb, ob, rfl, hB, hrows⟩ := HABb.out (by omega)
            obtain ⟨Rb, lb, cb, fb, hcell, hsl, hlcb, hnil⟩ := hrows k hb
            have HBLb := Lib.hid hB
            have HCEb := Lib.hid hcell
            have HSLb := Lib.hid hsl
            have HNLb := Lib.hid hnil
            have HYb := Lib.hid (show By lb fb from fun j hj => hsl.byte hj)
            have HOFb := Lib.hid (show Off Rb lb hh from hsl.off HWH.out)
            have hkib : (k : Int) < (nb : Nat) := by omega
            clear hrows hcell hsl hB hnil
            by_cases hlb : lb < 4096
            · have hdlb : decide ((lb : Int) < 4096) = true := by simp; omega
              have hca := (HB.out.cell (p := ⟨Ba, oa + k, none⟩) HBLa.out).trans HCEa.out
              go_wp2_with fail
              refine (write1_any wr g NA Ra la ca fa (catB NA CA fa) (by omega) hlca (HSLa.out.keep HB.out) (fun j _ => by unfold catB; rw [if_neg (by omega), Nat.add_sub_cancel_left]) (HMg.out.congr fun j hj => by unfold catB; rw [if_pos hj]) (catB_lt HYA.out HYa.out) (HT.out.keep HB.out) HG.out HOFa.out).mono ?_
              rintro e wa1 ⟨rfl, h1, h2⟩
              have HMs1 := Lib.hid h1
              have HMo1 := Lib.hid (HMh.out.chg h2 HNE.out.symm)
              have HBa1 := Lib.hid (HB.out.trans (h2.below HB.out.size HWG.out))
              have HOs1 := Lib.hid (HOA.out.chg h2 HGL.out)
              have HOo1 := Lib.hid (HOB.out.chg h2 HGL.out)
              have HSa1 := Lib.hid (Nat.le_trans HS.out h2.size)
              have hNA1 := show NA + la ≤ 4096 * (k + 1) by omega
              clear h1 h2 hca
              have hca := (HBa1.out.cell (p := ⟨Ba, oa + k, none⟩) HBLa.out).trans HCEa.out
              go_wp2_with (at_builtin; go_must (refine wpList_appW rfl (.tmp 47) (.tmp 51) rfl w3.heap.size _ NA CA rfl HOs1.out Ra la ca fa rfl (HSLa.out.keep HBa1.out) HNLa.out (by omega) HSa1.out _ _ _ HOo1.out (HAP.out) ?_); intro v1 wb1 h1 h2 h3 h4; have HOt1 := Lib.hid h1; have HOu1 := Lib.hid h2; have HAP1 := Lib.hid h3; have HBb1 := Lib.hid (HBa1.out.trans (h4.mono HB3.out.size)); have HMs1b := Lib.hid (HMs1.out.of_block (h4.block _ HGL.out)); have HMo1b := Lib.hid (HMo1.out.of_block (h4.block _ HHL.out)); have HSb1 := Lib.hid (Nat.le_trans HSa1.out h4.size); have HYA1 := Lib.hid (catB_lt HYA.out HYa.out); clear h1 h2 h3 h4 hca; have hcb := (HBb1.out.cell (p := ⟨Bb, ob + k, none⟩) HBLb.out).trans HCEb.out)
              refine (write1_any wb1 hh NB Rb lb cb fb (catB NB CB fb) (by omega) hlcb (HSLb.out.keep HBb1.out) (fun j _ => by unfold catB; rw [if_neg (by omega), Nat.add_sub_cancel_left]) (HMo1b.out.congr fun j hj => by unfold catB; rw [if_pos hj]) (catB_lt HYB.out HYb.out) (HT.out.keep HBb1.out) HH.out HOFb.out).mono ?_
              rintro e wa2 ⟨rfl, h1, h2⟩
              have HMs2 := Lib.hid h1
              have HMo2 := Lib.hid (HMs1b.out.chg h2 HNE.out)
              have HBa2 := Lib.hid (HBb1.out.trans (h2.below HBb1.out.size HWH.out))
              have HOs2 := Lib.hid (HOu1.out.chg h2 HHL.out)
              have HOo2 := Lib.hid (HOt1.out.chg h2 HHL.out)
              have HSa2 := Lib.hid (Nat.le_trans HSb1.out h2.size)
              have hNB2 := show NB + lb ≤ 4096 * (k + 1) by omega
              clear h1 h2 hcb
              have hcb := (HBa2.out.cell (p := ⟨Bb, ob + k, none⟩) HBLb.out).trans HCEb.out
              go_wp2_with (at_builtin; go_must (refine wpList_appW rfl (.tmp 72) (.tmp 76) rfl w3.heap.size _ NB CB rfl HOs2.out Rb lb cb fb rfl (HSLb.out.keep HBa2.out) HNLb.out (by omega) HSa2.out _ _ _ HOo2.out (HAP1.out.symm) ?_); intro v2 wb2 h1 h2 h3 h4; have HOt2 := Lib.hid h1; have HOu2 := Lib.hid h2; have HAP2 := Lib.hid h3.symm; have HBb2 := Lib.hid (HBa2.out.trans (h4.mono HB3.out.size)); have HMs2b := Lib.hid (HMs2.out.of_block (h4.block _ HHL.out)); have HMo2b := Lib.hid (HMo2.out.of_block (h4.block _ HGL.out)); have HSb2 := Lib.hid (Nat.le_trans HSa2.out h4.size); have HYB2 := Lib.hid (catB_lt HYB.out HYb.out); clear h1 h2 h3 h4 hcb)
              go_roundw
              case rel => exact ⟨k + 1, (NA + la), (NB + lb), (catB NA CA fa), (catB NB CB fb), by omega, by omega, by omega, by go_num, HOu2.out, HOt2.out, HAP2.out, HMo2b.out, HMs2b.out, HYA1.out, HYB2.out, HSb2.out, HBb2.out⟩
              case measure => simp [intOf]; omega
            · have hdlb : decide ((lb : Int) < 4096) = false := by simp; omega
              have hca := (HB.out.cell (p := ⟨Ba, oa + k, none⟩) HBLa.out).trans HCEa.out
              go_wp2_with fail
              refine (write1_any wr g NA Ra la ca fa (catB NA CA fa) (by omega) hlca (HSLa.out.keep HB.out) (fun j _ => by unfold catB; rw [if_neg (by omega), Nat.add_sub_cancel_left]) (HMg.out.congr fun j hj => by unfold catB; rw [if_pos hj]) (catB_lt HYA.out HYa.out) (HT.out.keep HB.out) HG.out HOFa.out).mono ?_
              rintro e wa1 ⟨rfl, h1, h2⟩
              have HMs1 := Lib.hid h1
              have HMo1 := Lib.hid (HMh.out.chg h2 HNE.out.symm)
              have HBa1 := Lib.hid (HB.out.trans (h2.below HB.out.size HWG.out))
              have HOs1 := Lib.hid (HOA.out.chg h2 HGL.out)
              have HOo1 := Lib.hid (HOB.out.chg h2 HGL.out)
              have HSa1 := Lib.hid (Nat.le_trans HS.out h2.size)
              have hNA1 := show NA + la ≤ 4096 * (k + 1) by omega
              clear h1 h2 hca
              have hca := (HBa1.out.cell (p := ⟨Ba, oa + k, none⟩) HBLa.out).trans HCEa.out
              go_wp2_with (at_builtin; go_must (refine wpList_appW rfl (.tmp 47) (.tmp 51) rfl w3.heap.size _ NA CA rfl HOs1.out Ra la ca fa rfl (HSLa.out.keep HBa1.out) HNLa.out (by omega) HSa1.out _ _ _ HOo1.out (HAP.out) ?_); intro v1 wb1 h1 h2 h3 h4; have HOt1 := Lib.hid h1; have HOu1 := Lib.hid h2; have HAP1 := Lib.hid h3; have HBb1 := Lib.hid (HBa1.out.trans (h4.mono HB3.out.size)); have HMs1b := Lib.hid (HMs1.out.of_block (h4.block _ HGL.out)); have HMo1b := Lib.hid (HMo1.out.of_block (h4.block _ HHL.out)); have HSb1 := Lib.hid (Nat.le_trans HSa1.out h4.size); have HYA1 := Lib.hid (catB_lt HYA.out HYa.out); clear h1 h2 h3 h4 hca; have hcb := (HBb1.out.cell (p := ⟨Bb, ob + k, none⟩) HBLb.out).trans HCEb.out)
              go_roundw
              case rel => exact ⟨k + 1, (NA + la), NB, (catB NA CA fa), CB, by omega, by omega, by omega, by go_num, HOt1.out, HOu1.out, HAP1.out, HMs1b.out, HMo1b.out, HYA1.out, HYB.out, HSb1.out, HBb1.out⟩
              case measure => simp [intOf]; omega
          · have hkib : ¬ (k : Int) < (nb : Nat) := by omega
            have hki2b : decide ((k : Int) < (nb : Nat)) = false := decide_eq_false hkib
            have hca := (HB.out.cell (p := ⟨Ba, oa + k, none⟩) HBLa.out).trans HCEa.out
            go_wp2_with fail
            refine (write1_any wr g NA Ra la ca fa (catB NA CA fa) (by omega) hlca (HSLa.out.keep HB.out) (fun j _ => by unfold catB; rw [if_neg (by omega), Nat.add_sub_cancel_left]) (HMg.out.congr fun j hj => by unfold catB; rw [if_pos hj]) (catB_lt HYA.out HYa.out) (HT.out.keep HB.out) HG.out HOFa.out).mono ?_
            rintro e wa1 ⟨rfl, h1, h2⟩
            have HMs1 := Lib.hid h1
            have HMo1 := Lib.hid (HMh.out.chg h2 HNE.out.symm)
            have HBa1 := Lib.hid (HB.out.trans (h2.below HB.out.size HWG.out))
            have HOs1 := Lib.hid (HOA.out.chg h2 HGL.out)
            have HOo1 := Lib.hid (HOB.out.chg h2 HGL.out)
            have HSa1 := Lib.hid (Nat.le_trans HS.out h2.size)
            have hNA1 := show NA + la ≤ 4096 * (k + 1) by omega
            clear h1 h2 hca
            have hca := (HBa1.out.cell (p := ⟨Ba, oa + k, none⟩) HBLa.out).trans HCEa.out
            go_wp2_with (at_builtin; go_must (refine wpList_appW rfl (.tmp 47) (.tmp 51) rfl w3.heap.size _ NA CA rfl HOs1.out Ra la ca fa rfl (HSLa.out.keep HBa1.out) HNLa.out (by omega) HSa1.out _ _ _ HOo1.out (HAP.out) ?_); intro v1 wb1 h1 h2 h3 h4; have HOt1 := Lib.hid h1; have HOu1 := Lib.hid h2; have HAP1 := Lib.hid h3; have HBb1 := Lib.hid (HBa1.out.trans (h4.mono HB3.out.size)); have HMs1b := Lib.hid (HMs1.out.of_block (h4.block _ HGL.out)); have HMo1b := Lib.hid (HMo1.out.of_block (h4.block _ HHL.out)); have HSb1 := Lib.hid (Nat.le_trans HSa1.out h4.size); have HYA1 := Lib.hid (catB_lt HYA.out HYa.out); clear h1 h2 h3 h4 hca)
            go_roundw
            case rel => exact ⟨k + 1, (NA + la), NB, (catB NA CA fa), CB, by omega, by omega, by omega, by go_num, HOt1.out, HOu1.out, HAP1.out, HMs1b.out, HMo1b.out, HYA1.out, HYB.out, HSb1.out, HBb1.out⟩
            case measure => simp [intOf]; omega
        · have hdla : decide ((la : Int) < 4096) = false := by simp; omega
          by_cases hb : k < nb
          · obtain ⟨Bb, ob, rfl, hB, hrows⟩ := HABb.out (by omega)
            obtain ⟨Rb, lb, cb, fb, hcell, hsl, hlcb, hnil⟩ := hrows k hb
            have HBLb := Lib.hid hB
            have HCEb := Lib.hid hcell
            have HSLb := Lib.hid hsl
            have HNLb := Lib.hid hnil
            have HYb := Lib.hid (show By lb fb from fun j hj => hsl.byte hj)
            have HOFb := Lib.hid (show Off Rb lb hh from hsl.off HWH.out)
            have hkib : (k : Int) < (nb : Nat) := by omega
            clear hrows hcell hsl hB hnil
            by_cases hlb : lb < 4096
            · have hdlb : decide ((lb : Int) < 4096) = true := by simp; omega
              have hca := (HB.out.cell (p := ⟨Ba, oa + k, none⟩) HBLa.out).trans HCEa.out
              have hcb := (HB.out.cell (p := ⟨Bb, ob + k, none⟩) HBLb.out).trans HCEb.out
              go_wp2_with fail
              refine (write1_any wr hh NB Rb lb cb fb (catB NB CB fb) (by omega) hlcb (HSLb.out.keep HB.out) (fun j _ => by unfold catB; rw [if_neg (by omega), Nat.add_sub_cancel_left]) (HMh.out.congr fun j hj => by unfold catB; rw [if_pos hj]) (catB_lt HYB.out HYb.out) (HT.out.keep HB.out) HH.out HOFb.out).mono ?_
              rintro e wa1 ⟨rfl, h1, h2⟩
              have HMs1 := Lib.hid h1
              have HMo1 := Lib.hid (HMg.out.chg h2 HNE.out)
              have HBa1 := Lib.hid (HB.out.trans (h2.below HB.out.size HWH.out))
              have HOs1 := Lib.hid (HOB.out.chg h2 HHL.out)
              have HOo1 := Lib.hid (HOA.out.chg h2 HHL.out)
              have HSa1 := Lib.hid (Nat.le_trans HS.out h2.size)
              have hNB1 := show NB + lb ≤ 4096 * (k + 1) by omega
              clear h1 h2 hcb
              have hcb := (HBa1.out.cell (p := ⟨Bb, ob + k, none⟩) HBLb.out).trans HCEb.out
              go_wp2_with (at_builtin; go_must (refine wpList_appW rfl (.tmp 72) (.tmp 76) rfl w3.heap.size _ NB CB rfl HOs1.out Rb lb cb fb rfl (HSLb.out.keep HBa1.out) HNLb.out (by omega) HSa1.out _ _ _ HOo1.out (HAP.out.symm) ?_); intro v1 wb1 h1 h2 h3 h4; have HOt1 := Lib.hid h1; have HOu1 := Lib.hid h2; have HAP1 := Lib.hid h3.symm; have HBb1 := Lib.hid (HBa1.out.trans (h4.mono HB3.out.size)); have HMs1b := Lib.hid (HMs1.out.of_block (h4.block _ HHL.out)); have HMo1b := Lib.hid (HMo1.out.of_block (h4.block _ HGL.out)); have HSb1 := Lib.hid (Nat.le_trans HSa1.out h4.size); have HYB1 := Lib.hid (catB_lt HYB.out HYb.out); clear h1 h2 h3 h4 hcb)
              go_roundw
              case rel => exact ⟨k + 1, NA, (NB + lb), CA, (catB NB CB fb), by omega, by omega, by omega, by go_num, HOu1.out, HOt1.out, HAP1.out, HMo1b.out, HMs1b.out, HYA.out, HYB1.out, HSb1.out, HBb1.out⟩
              case measure => simp [intOf]; omega
            · have hdlb : decide ((lb : Int) < 4096) = false := by simp; omega
              have hca := (HB.out.cell (p := ⟨Ba, oa + k, none⟩) HBLa.out).trans HCEa.out
              have hcb := (HB.out.cell (p := ⟨Bb, ob + k, none⟩) HBLb.out).trans HCEb.out
              go_wp2_with fail
              go_roundw
              case rel => exact ⟨k + 1, NA, NB, CA, CB, by omega, by omega, by omega, by go_num, HOA.out, HOB.out, HAP.out, HMg.out, HMh.out, HYA.out, HYB.out, HS.out, HB.out⟩
              case measure => simp [intOf]; omega
          · have hkib : ¬ (k : Int) < (nb : Nat) := by omega
            have hki2b : decide ((k : Int) < (nb : Nat)) = false := decide_eq_false hkib
            have hca := (HB.out.cell (p := ⟨Ba, oa + k, none⟩) HBLa.out).trans HCEa.out
            go_wp2_with fail
            go_roundw
            case rel => exact ⟨k + 1, NA, NB, CA, CB, by omega, by omega, by omega, by go_num, HOA.out, HOB.out, HAP.out, HMg.out, HMh.out, HYA.out, HYB.out, HS.out, HB.out⟩
            case measure => simp [intOf]; omega
      · have hkia : ¬ (k : Int) < (na : Nat) := by omega
        have hki2a : decide ((k : Int) < (na : Nat)) = false := decide_eq_false hkia
        by_cases hb : k < nb
        · obtain ⟨Bb, ob, rfl, hB, hrows⟩ := HABb.out (by omega)
          obtain ⟨Rb, lb, cb, fb, hcell, hsl, hlcb, hnil⟩ := hrows k hb
          have HBLb := Lib.hid hB
          have HCEb := Lib.hid hcell
          have HSLb := Lib.hid hsl
          have HNLb := Lib.hid hnil
          have HYb := Lib.hid (show By lb fb from fun j hj => hsl.byte hj)
          have HOFb := Lib.hid (show Off Rb lb hh from hsl.off HWH.out)
          have hkib : (k : Int) < (nb : Nat) := by omega
          clear hrows hcell hsl hB hnil
          by_cases hlb : lb < 4096
          · have hdlb : decide ((lb : Int) < 4096) = true := by simp; omega
            have hcb := (HB.out.cell (p := ⟨Bb, ob + k, none⟩) HBLb.out).trans HCEb.out
            go_wp2_with fail
            refine (write1_any wr hh NB Rb lb cb fb (catB NB CB fb) (by omega) hlcb (HSLb.out.keep HB.out) (fun j _ => by unfold catB; rw [if_neg (by omega), Nat.add_sub_cancel_left]) (HMh.out.congr fun j hj => by unfold catB; rw [if_pos hj]) (catB_lt HYB.out HYb.out) (HT.out.keep HB.out) HH.out HOFb.out).mono ?_
            rintro e wa1 ⟨rfl, h1, h2⟩
            have HMs1 := Lib.hid h1
            have HMo1 := Lib.hid (HMg.out.chg h2 HNE.out)
            have HBa1 := Lib.hid (HB.out.trans (h2.below HB.out.size HWH.out))
            have HOs1 := Lib.hid (HOB.out.chg h2 HHL.out)
            have HOo1 := Lib.hid (HOA.out.chg h2 HHL.out)
            have HSa1 := Lib.hid (Nat.le_trans HS.out h2.size)
            have hNB1 := show NB + lb ≤ 4096 * (k + 1) by omega
            clear h1 h2 hcb
            have hcb := (HBa1.out.cell (p := ⟨Bb, ob + k, none⟩) HBLb.out).trans HCEb.out
            go_wp2_with (at_builtin; go_must (refine wpList_appW rfl (.tmp 72) (.tmp 76) rfl w3.heap.size _ NB CB rfl HOs1.out Rb lb cb fb rfl (HSLb.out.keep HBa1.out) HNLb.out (by omega) HSa1.out _ _ _ HOo1.out (HAP.out.symm) ?_); intro v1 wb1 h1 h2 h3 h4; have HOt1 := Lib.hid h1; have HOu1 := Lib.hid h2; have HAP1 := Lib.hid h3.symm; have HBb1 := Lib.hid (HBa1.out.trans (h4.mono HB3.out.size)); have HMs1b := Lib.hid (HMs1.out.of_block (h4.block _ HHL.out)); have HMo1b := Lib.hid (HMo1.out.of_block (h4.block _ HGL.out)); have HSb1 := Lib.hid (Nat.le_trans HSa1.out h4.size); have HYB1 := Lib.hid (catB_lt HYB.out HYb.out); clear h1 h2 h3 h4 hcb)
            go_roundw
            case rel => exact ⟨k + 1, NA, (NB + lb), CA, (catB NB CB fb), by omega, by omega, by omega, by go_num, HOu1.out, HOt1.out, HAP1.out, HMo1b.out, HMs1b.out, HYA.out, HYB1.out, HSb1.out, HBb1.out⟩
            case measure => simp [intOf]; omega
          · have hdlb : decide ((lb : Int) < 4096) = false := by simp; omega
            have hcb := (HB.out.cell (p := ⟨Bb, ob + k, none⟩) HBLb.out).trans HCEb.out
            go_wp2_with fail
            go_roundw
            case rel => exact ⟨k + 1, NA, NB, CA, CB, by omega, by omega, by omega, by go_num, HOA.out, HOB.out, HAP.out, HMg.out, HMh.out, HYA.out, HYB.out, HS.out, HB.out⟩
            case measure => simp [intOf]; omega
        · have hkib : ¬ (k : Int) < (nb : Nat) := by omega
          have hki2b : decide ((k : Int) < (nb : Nat)) = false := decide_eq_false hkib
          go_wp2_with fail
          go_roundw
          case rel => exact ⟨k + 1, NA, NB, CA, CB, by omega, by omega, by omega, by go_num, HOA.out, HOB.out, HAP.out, HMg.out, HMh.out, HYA.out, HYB.out, HS.out, HB.out⟩
          case measure => simp [intOf]; omega
    · obtain rfl : k = 8 := by omega
      obtain ⟨Va, da, rfl, hda, _, hna5⟩ := OwnB.cap_le HOA.out
      obtain ⟨Vb, db, rfl, hdb, _, hnb5⟩ := OwnB.cap_le HOB.out
      have HLA := Lib.hid (show ∀ w', Below wr.heap.size wr w' → SlB w' Va NA CA from fun w' hb => by
        obtain ⟨A6, c6, h1, h2⟩ := OwnB.slice HOA.out HYA.out
        cases h1
        exact h2.keep hb)
      have HLB := Lib.hid (show ∀ w', Below wr.heap.size wr w' → SlB w' Vb NB CB from fun w' hb => by
        obtain ⟨A6, c6, h1, h2⟩ := OwnB.slice HOB.out HYB.out
        cases h1
        exact h2.keep hb)
      have HTW := Lib.hid (show ∀ w', Below wr.heap.size wr w' → GT w' from fun w' hb => HT.out.keep (HB.out.trans (hb.mono HB.out.size)))
      have HSA := Lib.hid (show ∀ w', Below wr.heap.size wr w' → Calls Tryd.prog 22 #[.pointer (some ⟨g, 0, none⟩)] w' (Dig w' NA CA) from fun w' hb => hsum_any g NA CA w' (by omega) (HMg.out.keep hb) HYA.out (HTW.out w' hb))
      have HSB := Lib.hid (show ∀ w', Below wr.heap.size wr w' → Calls Tryd.prog 22 #[.pointer (some ⟨hh, 0, none⟩)] w' (Dig w' NB CB) from fun w' hb => hsum_any hh NB CB w' (by omega) (HMh.out.keep hb) HYB.out (HTW.out w' hb))
      have HCA := Lib.hid (show ∀ w', Below wr.heap.size wr w' → Calls Tryd.prog 23 #[.pointer (some ⟨g, 0, none⟩)] w' (fun e w'' => e = .returned (.int .i64 (NA : Nat)) ∧ w' = w'') from fun w' hb => count_any g NA CA w' (HMg.out.keep hb))
      have HCB := Lib.hid (show ∀ w', Below wr.heap.size wr w' → Calls Tryd.prog 23 #[.pointer (some ⟨hh, 0, none⟩)] w' (fun e w'' => e = .returned (.int .i64 (NB : Nat)) ∧ w' = w'') from fun w' hb => count_any hh NB CB w' (HMh.out.keep hb))
      have HPA := Lib.hid (show ∀ w', Below wr.heap.size wr w' → ∀ gp, Parts w' gp 1 (fun _ => Va) (fun _ => NA) (fun _ => da) (fun _ => CA) → Calls Tryd.prog 12 #[.slice (some ⟨gp, 0, none⟩) 1 1] w' (Dig w' NA CA) from fun w' hb gp hp => sum1_parts w' gp 1 Va NA da CA (by omega) hda hp (HTW.out w' hb))
      have HPB := Lib.hid (show ∀ w', Below wr.heap.size wr w' → ∀ gp, Parts w' gp 1 (fun _ => Vb) (fun _ => NB) (fun _ => db) (fun _ => CB) → Calls Tryd.prog 12 #[.slice (some ⟨gp, 0, none⟩) 1 1] w' (Dig w' NB CB) from fun w' hb gp hp => sum1_parts w' gp 1 Vb NB db CB (by omega) hdb hp (HTW.out w' hb))
      go_wp2_with fail
      refine wp_region_any (by kernel_rfl) ?_
      change wpAny _ _ _ _ _ _ _ wr.drew
      refine ord.wpAny_ord [[], [0], [1], [], [3], [4], [5], [2, 6], [7], [8], [9, 8], [10, 8], [8], [12, 8], [13, 8], [14, 8], [11, 15, 8], [8, 16], [17], [18], [19, 18], [18], [21, 18], [20, 22, 18], [18, 23], [24], [25], [26, 25], [25], [28, 25], [27, 29, 25], [25, 30], [31]] [(0, 78), (1, 79), (2, 80), (3, 81), (4, 82), (5, 83), (6, 84), (7, 85), (8, 86), (9, 87), (10, 88), (11, 89), (12, 90), (13, 91), (14, 92), (15, 93), (16, 94), (17, 95), (18, 96), (19, 97), (20, 98), (21, 99), (22, 100), (23, 101), (24, 102), (25, 103), (26, 104), (27, 105), (28, 106), (29, 107), (30, 108), (31, 109), (32, 4)] (pasG Va Vb g hh NA NB da db CA CB) (by kernel_rfl) (by kernel_rfl) (pasG_stays _ _ _ _ _ _ _ _ _ _) (ord.steps_cons ?_ (ord.steps_cons ?_ (ord.steps_cons ?_ (ord.steps_cons ?_ (ord.steps_cons ?_ (ord.steps_cons ?_ (ord.steps_cons ?_ (ord.steps_cons ?_ (ord.steps_cons ?_ (ord.steps_cons ?_ (ord.steps_cons ?_ (ord.steps_cons ?_ (ord.steps_cons ?_ (ord.steps_cons ?_ (ord.steps_cons ?_ (ord.steps_cons ?_ (ord.steps_cons ?_ (ord.steps_cons ?_ (ord.steps_cons ?_ (ord.steps_cons ?_ (ord.steps_cons ?_ (ord.steps_cons ?_ (ord.steps_cons ?_ (ord.steps_cons ?_ (ord.steps_cons ?_ (ord.steps_cons ?_ (ord.steps_cons ?_ (ord.steps_cons ?_ (ord.steps_cons ?_ (ord.steps_cons ?_ (ord.steps_cons ?_ (ord.steps_cons ?_ (ord.steps_cons ?_ ord.steps_nil))))))))))))))))))))))))))))))))) ?_
      --STEPS pas
      · intro o ho x w hb hG
        obtain rfl := Option.some.inj ho
        clear ho
        refine Or.inl ⟨ord.want0 rfl, ?_⟩
        exact ord.makes_move rfl ⟨Below.refl _ _, rfl⟩
      · intro o ho x w hb hG
        obtain rfl := Option.some.inj ho
        clear ho
        have h78 : x 0 = .pointer (some ⟨g, 0, none⟩) := hG (0, 78) (List.mem_of_getElem? (i := 0) rfl) rfl
        refine Or.inl ⟨ord.want0 rfl, ?_⟩
        exact ord.makes_call1 Tryd.func22 (by kernel_rfl) (by kernel_rfl) rfl h78 (HSA.out w (of_drew hb)) (fun e w' h => by obtain ⟨d1, he, _, h2, h4⟩ := h; exact ⟨_, he, h4, d1, rfl, h2⟩)
      · intro o ho x w hb hG
        obtain rfl := Option.some.inj ho
        clear ho
        have h79 : pasG Va Vb g hh NA NB da db CA CB 1 (x 1) w := hG (1, 79) (List.mem_of_getElem? (i := 1) rfl) rfl
        refine Or.inl ⟨ord.want0 rfl, ?_⟩
        obtain ⟨d1, hv, hs⟩ := h79
        exact ord.makes_conv rfl hv (convSl (cap := 32) (hs.slB fun j _ => sha_lt _ _ j) (Nat.le_refl 32)) ⟨Below.refl _ _, rfl⟩
      · intro o ho x w hb hG
        obtain rfl := Option.some.inj ho
        clear ho
        refine Or.inl ⟨ord.want0 rfl, ?_⟩
        exact ord.makes_move rfl ⟨Below.refl _ _, rfl⟩
      · intro o ho x w hb hG
        obtain rfl := Option.some.inj ho
        clear ho
        have h81 : x 3 = .slice Va NA da := hG (3, 81) (List.mem_of_getElem? (i := 3) rfl) rfl
        refine Or.inl ⟨ord.want0 rfl, ?_⟩
        exact ord.makes_build1 rfl h81 (run_parts1 w _ _ _) ⟨(Below.refl _ _).alloc (Nat.le_refl _) _, _, rfl, parts1 _ _ _ _ (HLA.out w (of_drew hb))⟩
      · intro o ho x w hb hG
        obtain rfl := Option.some.inj ho
        clear ho
        have h82 : pasG Va Vb g hh NA NB da db CA CB 4 (x 4) w := hG (4, 82) (List.mem_of_getElem? (i := 4) rfl) rfl
        refine Or.inl ⟨ord.want0 rfl, ?_⟩
        obtain ⟨gp, hv, hp⟩ := h82
        exact ord.makes_call1 Tryd.func12 (by kernel_rfl) (by kernel_rfl) rfl hv (HPA.out w (of_drew hb) gp hp) (fun e w' h => by obtain ⟨d1, he, _, h2, h4⟩ := h; exact ⟨_, he, h4, d1, rfl, h2⟩)
      · intro o ho x w hb hG
        obtain rfl := Option.some.inj ho
        clear ho
        have h83 : pasG Va Vb g hh NA NB da db CA CB 5 (x 5) w := hG (5, 83) (List.mem_of_getElem? (i := 5) rfl) rfl
        refine Or.inl ⟨ord.want0 rfl, ?_⟩
        obtain ⟨d1, hv, hs⟩ := h83
        exact ord.makes_conv rfl hv (convSl (cap := 32) (hs.slB fun j _ => sha_lt _ _ j) (Nat.le_refl 32)) ⟨Below.refl _ _, rfl⟩
      · intro o ho x w hb hG
        obtain rfl := Option.some.inj ho
        clear ho
        have h80 : x 2 = .string (strOf 32 (sha NA CA)) := hG (2, 80) (List.mem_of_getElem? (i := 2) rfl) rfl
        have h84 : x 6 = .string (strOf 32 (sha NA CA)) := hG (6, 84) (List.mem_of_getElem? (i := 6) rfl) rfl
        refine Or.inl ⟨ord.want0 rfl, ?_⟩
        exact ord.makes_bin rfl h80 h84 (by exact str_same2 _ _ _ _) ⟨Below.refl _ _, rfl⟩
      · intro o ho x w hb hG
        obtain rfl := Option.some.inj ho
        clear ho
        have h85 : x 7 = .bool true := hG (7, 85) (List.mem_of_getElem? (i := 7) rfl) rfl
        refine Or.inl ⟨ord.want0 rfl, ?_⟩
        exact ord.makes_move rfl ⟨Below.refl _ _, h85⟩
      · intro o ho x w hb hG
        obtain rfl := Option.some.inj ho
        clear ho
        have h86 : x 8 = .bool true := hG (8, 86) (List.mem_of_getElem? (i := 8) rfl) rfl
        refine Or.inl ⟨ord.wantG rfl rfl h86, ?_⟩
        exact ord.makes_move rfl ⟨Below.refl _ _, rfl⟩
      · intro o ho x w hb hG
        obtain rfl := Option.some.inj ho
        clear ho
        have h87 : x 9 = .pointer (some ⟨hh, 0, none⟩) := hG (9, 87) (List.mem_of_getElem? (i := 9) rfl) rfl
        have h86 : x 8 = .bool true := hG (8, 86) (List.mem_of_getElem? (i := 8) rfl) rfl
        refine Or.inl ⟨ord.wantG rfl rfl h86, ?_⟩
        exact ord.makes_call1 Tryd.func22 (by kernel_rfl) (by kernel_rfl) rfl h87 (HSB.out w (of_drew hb)) (fun e w' h => by obtain ⟨d1, he, _, h2, h4⟩ := h; exact ⟨_, he, h4, d1, rfl, h2⟩)
      · intro o ho x w hb hG
        obtain rfl := Option.some.inj ho
        clear ho
        have h88 : pasG Va Vb g hh NA NB da db CA CB 10 (x 10) w := hG (10, 88) (List.mem_of_getElem? (i := 10) rfl) rfl
        have h86 : x 8 = .bool true := hG (8, 86) (List.mem_of_getElem? (i := 8) rfl) rfl
        refine Or.inl ⟨ord.wantG rfl rfl h86, ?_⟩
        obtain ⟨d1, hv, hs⟩ := h88
        exact ord.makes_conv rfl hv (convSl (cap := 32) (hs.slB fun j _ => sha_lt _ _ j) (Nat.le_refl 32)) ⟨Below.refl _ _, rfl⟩
      · intro o ho x w hb hG
        obtain rfl := Option.some.inj ho
        clear ho
        have h86 : x 8 = .bool true := hG (8, 86) (List.mem_of_getElem? (i := 8) rfl) rfl
        refine Or.inl ⟨ord.wantG rfl rfl h86, ?_⟩
        exact ord.makes_move rfl ⟨Below.refl _ _, rfl⟩
      · intro o ho x w hb hG
        obtain rfl := Option.some.inj ho
        clear ho
        have h90 : x 12 = .slice Vb NB db := hG (12, 90) (List.mem_of_getElem? (i := 12) rfl) rfl
        have h86 : x 8 = .bool true := hG (8, 86) (List.mem_of_getElem? (i := 8) rfl) rfl
        refine Or.inl ⟨ord.wantG rfl rfl h86, ?_⟩
        exact ord.makes_build1 rfl h90 (run_parts1 w _ _ _) ⟨(Below.refl _ _).alloc (Nat.le_refl _) _, _, rfl, parts1 _ _ _ _ (HLB.out w (of_drew hb))⟩
      · intro o ho x w hb hG
        obtain rfl := Option.some.inj ho
        clear ho
        have h91 : pasG Va Vb g hh NA NB da db CA CB 13 (x 13) w := hG (13, 91) (List.mem_of_getElem? (i := 13) rfl) rfl
        have h86 : x 8 = .bool true := hG (8, 86) (List.mem_of_getElem? (i := 8) rfl) rfl
        refine Or.inl ⟨ord.wantG rfl rfl h86, ?_⟩
        obtain ⟨gp, hv, hp⟩ := h91
        exact ord.makes_call1 Tryd.func12 (by kernel_rfl) (by kernel_rfl) rfl hv (HPB.out w (of_drew hb) gp hp) (fun e w' h => by obtain ⟨d1, he, _, h2, h4⟩ := h; exact ⟨_, he, h4, d1, rfl, h2⟩)
      · intro o ho x w hb hG
        obtain rfl := Option.some.inj ho
        clear ho
        have h92 : pasG Va Vb g hh NA NB da db CA CB 14 (x 14) w := hG (14, 92) (List.mem_of_getElem? (i := 14) rfl) rfl
        have h86 : x 8 = .bool true := hG (8, 86) (List.mem_of_getElem? (i := 8) rfl) rfl
        refine Or.inl ⟨ord.wantG rfl rfl h86, ?_⟩
        obtain ⟨d1, hv, hs⟩ := h92
        exact ord.makes_conv rfl hv (convSl (cap := 32) (hs.slB fun j _ => sha_lt _ _ j) (Nat.le_refl 32)) ⟨Below.refl _ _, rfl⟩
      · intro o ho x w hb hG
        obtain rfl := Option.some.inj ho
        clear ho
        have h89 : x 11 = .string (strOf 32 (sha NB CB)) := hG (11, 89) (List.mem_of_getElem? (i := 11) rfl) rfl
        have h93 : x 15 = .string (strOf 32 (sha NB CB)) := hG (15, 93) (List.mem_of_getElem? (i := 15) rfl) rfl
        have h86 : x 8 = .bool true := hG (8, 86) (List.mem_of_getElem? (i := 8) rfl) rfl
        refine Or.inl ⟨ord.wantG rfl rfl h86, ?_⟩
        exact ord.makes_bin rfl h89 h93 (by exact str_same2 _ _ _ _) ⟨Below.refl _ _, rfl⟩
      · intro o ho x w hb hG
        obtain rfl := Option.some.inj ho
        clear ho
        have h86 : x 8 = .bool true := hG (8, 86) (List.mem_of_getElem? (i := 8) rfl) rfl
        have h94 : x 16 = .bool true := hG (16, 94) (List.mem_of_getElem? (i := 16) rfl) rfl
        refine Or.inl ⟨ord.want0 rfl, ?_⟩
        exact ord.makes_pick rfl h86 ⟨Below.refl _ _, h94⟩
      · intro o ho x w hb hG
        obtain rfl := Option.some.inj ho
        clear ho
        have h95 : x 17 = .bool true := hG (17, 95) (List.mem_of_getElem? (i := 17) rfl) rfl
        refine Or.inl ⟨ord.want0 rfl, ?_⟩
        exact ord.makes_move rfl ⟨Below.refl _ _, h95⟩
      · intro o ho x w hb hG
        obtain rfl := Option.some.inj ho
        clear ho
        have h96 : x 18 = .bool true := hG (18, 96) (List.mem_of_getElem? (i := 18) rfl) rfl
        refine Or.inl ⟨ord.wantG rfl rfl h96, ?_⟩
        exact ord.makes_move rfl ⟨Below.refl _ _, rfl⟩
      · intro o ho x w hb hG
        obtain rfl := Option.some.inj ho
        clear ho
        have h97 : x 19 = .pointer (some ⟨g, 0, none⟩) := hG (19, 97) (List.mem_of_getElem? (i := 19) rfl) rfl
        have h96 : x 18 = .bool true := hG (18, 96) (List.mem_of_getElem? (i := 18) rfl) rfl
        refine Or.inl ⟨ord.wantG rfl rfl h96, ?_⟩
        exact ord.makes_call1 Tryd.func23 (by kernel_rfl) (by kernel_rfl) rfl h97 (HCA.out w (of_drew hb)) (fun e w' h => ⟨_, h.1, by rw [← h.2]; exact Below.refl _ _, rfl⟩)
      · intro o ho x w hb hG
        obtain rfl := Option.some.inj ho
        clear ho
        have h96 : x 18 = .bool true := hG (18, 96) (List.mem_of_getElem? (i := 18) rfl) rfl
        refine Or.inl ⟨ord.wantG rfl rfl h96, ?_⟩
        exact ord.makes_move rfl ⟨Below.refl _ _, rfl⟩
      · intro o ho x w hb hG
        obtain rfl := Option.some.inj ho
        clear ho
        have h99 : x 21 = .slice Va NA da := hG (21, 99) (List.mem_of_getElem? (i := 21) rfl) rfl
        have h96 : x 18 = .bool true := hG (18, 96) (List.mem_of_getElem? (i := 18) rfl) rfl
        refine Or.inl ⟨ord.wantG rfl rfl h96, ?_⟩
        exact ord.makes_len rfl rfl h99 (run_len8 _ _ _ _) ⟨Below.refl _ _, rfl⟩
      · intro o ho x w hb hG
        obtain rfl := Option.some.inj ho
        clear ho
        have h98 : x 20 = .int .i64 (NA : Nat) := hG (20, 98) (List.mem_of_getElem? (i := 20) rfl) rfl
        have h100 : x 22 = .int .i64 (NA : Nat) := hG (22, 100) (List.mem_of_getElem? (i := 22) rfl) rfl
        have h96 : x 18 = .bool true := hG (18, 96) (List.mem_of_getElem? (i := 18) rfl) rfl
        refine Or.inl ⟨ord.wantG rfl rfl h96, ?_⟩
        exact ord.makes_bin rfl h98 h100 (by go_simp) ⟨Below.refl _ _, rfl⟩
      · intro o ho x w hb hG
        obtain rfl := Option.some.inj ho
        clear ho
        have h96 : x 18 = .bool true := hG (18, 96) (List.mem_of_getElem? (i := 18) rfl) rfl
        have h101 : x 23 = .bool true := hG (23, 101) (List.mem_of_getElem? (i := 23) rfl) rfl
        refine Or.inl ⟨ord.want0 rfl, ?_⟩
        exact ord.makes_pick rfl h96 ⟨Below.refl _ _, h101⟩
      · intro o ho x w hb hG
        obtain rfl := Option.some.inj ho
        clear ho
        have h102 : x 24 = .bool true := hG (24, 102) (List.mem_of_getElem? (i := 24) rfl) rfl
        refine Or.inl ⟨ord.want0 rfl, ?_⟩
        exact ord.makes_move rfl ⟨Below.refl _ _, h102⟩
      · intro o ho x w hb hG
        obtain rfl := Option.some.inj ho
        clear ho
        have h103 : x 25 = .bool true := hG (25, 103) (List.mem_of_getElem? (i := 25) rfl) rfl
        refine Or.inl ⟨ord.wantG rfl rfl h103, ?_⟩
        exact ord.makes_move rfl ⟨Below.refl _ _, rfl⟩
      · intro o ho x w hb hG
        obtain rfl := Option.some.inj ho
        clear ho
        have h104 : x 26 = .pointer (some ⟨hh, 0, none⟩) := hG (26, 104) (List.mem_of_getElem? (i := 26) rfl) rfl
        have h103 : x 25 = .bool true := hG (25, 103) (List.mem_of_getElem? (i := 25) rfl) rfl
        refine Or.inl ⟨ord.wantG rfl rfl h103, ?_⟩
        exact ord.makes_call1 Tryd.func23 (by kernel_rfl) (by kernel_rfl) rfl h104 (HCB.out w (of_drew hb)) (fun e w' h => ⟨_, h.1, by rw [← h.2]; exact Below.refl _ _, rfl⟩)
      · intro o ho x w hb hG
        obtain rfl := Option.some.inj ho
        clear ho
        have h103 : x 25 = .bool true := hG (25, 103) (List.mem_of_getElem? (i := 25) rfl) rfl
        refine Or.inl ⟨ord.wantG rfl rfl h103, ?_⟩
        exact ord.makes_move rfl ⟨Below.refl _ _, rfl⟩
      · intro o ho x w hb hG
        obtain rfl := Option.some.inj ho
        clear ho
        have h106 : x 28 = .slice Vb NB db := hG (28, 106) (List.mem_of_getElem? (i := 28) rfl) rfl
        have h103 : x 25 = .bool true := hG (25, 103) (List.mem_of_getElem? (i := 25) rfl) rfl
        refine Or.inl ⟨ord.wantG rfl rfl h103, ?_⟩
        exact ord.makes_len rfl rfl h106 (run_len8 _ _ _ _) ⟨Below.refl _ _, rfl⟩
      · intro o ho x w hb hG
        obtain rfl := Option.some.inj ho
        clear ho
        have h105 : x 27 = .int .i64 (NB : Nat) := hG (27, 105) (List.mem_of_getElem? (i := 27) rfl) rfl
        have h107 : x 29 = .int .i64 (NB : Nat) := hG (29, 107) (List.mem_of_getElem? (i := 29) rfl) rfl
        have h103 : x 25 = .bool true := hG (25, 103) (List.mem_of_getElem? (i := 25) rfl) rfl
        refine Or.inl ⟨ord.wantG rfl rfl h103, ?_⟩
        exact ord.makes_bin rfl h105 h107 (by go_simp) ⟨Below.refl _ _, rfl⟩
      · intro o ho x w hb hG
        obtain rfl := Option.some.inj ho
        clear ho
        have h103 : x 25 = .bool true := hG (25, 103) (List.mem_of_getElem? (i := 25) rfl) rfl
        have h108 : x 30 = .bool true := hG (30, 108) (List.mem_of_getElem? (i := 30) rfl) rfl
        refine Or.inl ⟨ord.want0 rfl, ?_⟩
        exact ord.makes_pick rfl h103 ⟨Below.refl _ _, h108⟩
      · intro o ho x w hb hG
        obtain rfl := Option.some.inj ho
        clear ho
        have h109 : x 31 = .bool true := hG (31, 109) (List.mem_of_getElem? (i := 31) rfl) rfl
        refine Or.inl ⟨ord.want0 rfl, ?_⟩
        exact ord.makes_assign rfl ⟨Below.refl _ _, h109⟩
      --END STEPS pas
      · intro x w8 hb hG
        have e7 : x 32 = .bool true := hG (32, 4) (List.mem_of_getElem? (i := 32) rfl)
        clear hG
        simp only [ord.puts, ord.put', List.set_cons_zero, List.set_cons_succ, if_true]
        rw [e7]
        go_wp2_with fail
        go_ret
        exact ⟨rfl, HB.out.trans ((of_drew hb).mono HB.out.size)⟩
end Go.Proofs.YtcmhnelonainhaaDoor
