/- 10 texts in one, in their order. -/
import Derived.Test.YtengejmkpkacgaaDoorPk5
import Derived.Lib.AppendStr
import Derived.Laws.CopyOwn
/- The reference of layer 6: Eight, Mac. -/
namespace Go.Proofs.YtengejmkpkacgaaDoor
open Go.RowKit
/-- the two halves grow, and become the tag -/
theorem kf_at {n : Nat} (key : Nat → Nat) (h : n ≤ 64) {j : Nat} (hj : j < n) : kf n key j = key j := by unfold kf; rw [if_pos h, if_pos hj]
theorem kf_past {n : Nat} (key : Nat → Nat) (h : n ≤ 64) {j : Nat} (hj : n ≤ j) : kf n key j = 0 := by unfold kf; rw [if_pos h, if_neg (by omega)]
theorem kf_long {n : Nat} (key : Nat → Nat) (h : 64 < n) {j : Nat} (hj : j < 32) : kf n key j = sha n key j := by unfold kf; rw [if_neg (by omega), if_pos hj]
theorem kf_longpast {n : Nat} (key : Nat → Nat) (h : 64 < n) {j : Nat} (hj : 32 ≤ j) : kf n key j = 0 := by unfold kf; rw [if_neg (by omega), if_neg (by omega)]
set_option maxRecDepth 100000 in
set_option maxHeartbeats 1600000 in
theorem rmac_any (A B : Option Addr) (n c m c2 : Nat) (key b : Nat → Nat) (w : World) (hn : n ≤ 1000000000000) (hm : m ≤ 1000000000000) (hA : SlB w A n key) (hnA : A = none → n = 0 ∧ c = 0) (hB : SlB w B m b) (hnB : B = none → m = 0 ∧ c2 = 0) :
    Calls Tryd.prog 29 #[.slice A n c, .slice B m c2] w fun e w' => (∃ A' c', e = .returned (.slice A' 32 c') ∧ SlB w' A' 32 (tag n key m b) ∧ OwnB w' w.heap.size (.slice A' 32 c') 32 (tag n key m b)) ∧ Below w.heap.size w w' := by
  have HA := Lib.hid (hA.keep (alloc_below w (.cells #[] 5)))
  have HB := Lib.hid hB
  have HNA := Lib.hid hnA
  have HNB := Lib.hid hnB
  have HFA := Lib.hid (show By n key from fun j hj => hA.byte hj)
  have HFB := Lib.hid (show By m b from fun j hj => hB.byte hj)
  have HN := Lib.hid hn
  have HM := Lib.hid hm
  have HE := Lib.hid (OwnB.empty w w.heap.size key (Nat.le_refl _))
  have HB0 := Lib.hid (alloc_below w (.cells #[] 5))
  clear hA hB hnA hnB hn hm
  by_cases hl : 64 < n
  · have hd : decide (64 < (n : Int)) = true := by simp; omega
    have HL := Lib.hid hl
    clear hl
    go_enter Tryd.func29, Tryd.ntmps29
    go_wp2_with (refine wpList_appO rfl (.tmp 9) (.tmp 10) rfl w.heap.size _ 0 key rfl HE.out A n c key rfl HA.out HNA.out (by have := HN.out; omega) HB0.out.size (fun j hj => absurd hj (Nat.not_lt_zero j)) HFA.out ?_; intro A1 c1 w1 h1 h2 h3 h4; rw [Nat.zero_add] at h1 h2 h3 ⊢; have HO1 := Lib.hid (OwnB.congr (g := key) h1 fun j _ => rfl); have HS1 := Lib.hid (SlB.congr (f' := key) h2 fun j _ => rfl); have HN1 := Lib.hid h3.2.2; have HB1 := Lib.hid (HB0.out.trans h4); clear h1 h2 h3 h4)
    refine (rsum_own A1 n c1 key w1 (by have := HN.out; omega) HS1.out HN1.out).mono ?_
    rintro e w3 ⟨A3, c3, rfl, ⟨_, h2⟩, h3⟩
    have HO3 := Lib.hid (OwnB.congr (g := kf n key) (h2.less HB1.out.size) fun j hj => (kf_long key HL.out hj).symm)
    have HB3 := Lib.hid (HB1.out.trans (h3.mono HB1.out.size))
    have HZ := Lib.hid (fun j (hj : 32 ≤ j) => kf_longpast key HL.out hj)
    clear h2 h3 hd HO1 HS1 HN1 HB1
    go_wp2_with fail
    go_loopw [5] (fun v wr => ∃ (l : Nat) (A4 : Option Addr) (c4 : Nat), 32 ≤ l ∧ l ≤ 64 ∧ v = .slice A4 l c4 ∧ OwnB wr w.heap.size (.slice A4 l c4) l (kf n key) ∧ Below w.heap.size w wr) (fun v _ => 64 - lenOf v)
    case atStart => exact ⟨32, A3, c3, Nat.le_refl _, by omega, rfl, HO3.out, HB3.out⟩
    case round =>
      obtain ⟨l, A4, c4, hl1, hl2, rfl, h1, h2⟩ := hrel
      have G1 := Lib.hid h1
      have G2 := Lib.hid h2
      have HKB := Lib.hid (kf_by HFA.out)
      have HZ1 := Lib.hid fun W => one_sl W 0 (by decide)
      clear h1 h2
      by_cases hlt : l < 64
      · have hli : (l : Int) < 64 := by omega
        have HO4 := Lib.hid (G1.out.alloc (.cells #[.int .u8 ((0 : Nat) : Int)] 5))
        have HB4 := Lib.hid (G2.out.alloc G2.out.size (.cells #[.int .u8 ((0 : Nat) : Int)] 5))
        have HZL := Lib.hid (HZ.out l hl1)
        have HMS := Lib.hid (show 64 - (l + 1) < 64 - l by omega)
        go_wp2_with (refine wpList_appO rfl (.tmp 20) (.tmp 21) rfl w.heap.size _ l (kf n key) rfl HO4.out (some ⟨_, 0, none⟩) 1 1 (fun _ => 0) rfl (HZ1.out _) (fun h => by cases h) (by omega) HB4.out.size (fun j hj => HKB.out j (by omega)) (fun _ _ => by decide) ?_; intro A5 c5 w5 h1 h2 h3 h4; have HO5 := Lib.hid (OwnB.congr (g := kf n key) h1 fun j hj => by unfold catB; by_cases e : j < l; rw [if_pos e]; rw [if_neg e, show j = l by omega, HZL.out]); have HB5 := Lib.hid (HB4.out.trans h4); clear h1 h2 h3 h4)
        go_roundw
        case rel => exact ⟨l + 1, A5, c5, by omega, by omega, rfl, HO5.out, HB5.out⟩
        case measure => exact HMS.out
      · obtain rfl : l = 64 := by omega
        obtain ⟨A6, c6, e6, hsl6⟩ := OwnB.slice G1.out (fun j hj => HKB.out j hj)
        cases e6
        have HK6 := Lib.hid hsl6
        have hA6 : ∃ B6 o6, A4 = some ⟨B6, o6, none⟩ := by
          obtain ⟨B6, o6, e, _⟩ := hsl6 (by decide)
          exact ⟨B6, o6, e⟩
        obtain ⟨B6, o6, rfl⟩ := hA6
        clear hsl6 hl1 hl2 hlt HO3 HB3 HZ
        go_wp2_with fail
        obtain ⟨w4, hw4⟩ : ∃ w4, w4 = wr := ⟨_, rfl⟩
        subst hw4
        go_loopw [6, 7, 8] (fun v6 v7 t wx => ∃ k : Nat, k ≤ 64 ∧ t = .int .i64 k ∧ OwnB wx w4.heap.size v6 k (xf 54 n key) ∧ OwnB wx w4.heap.size v7 k (xf 92 n key) ∧ Apart v6 v7 ∧ Below w4.heap.size w4 wx) (fun _ _ t _ => 64 - (intOf t).toNat)
        case atStart => exact ⟨0, Nat.zero_le _, rfl, OwnB.nil _ _ _, OwnB.nil _ _ _, Apart.nil _, Below.refl _ _⟩
        case round =>
          obtain ⟨k, hk, rfl, h1, h2, h3, h4⟩ := hrel
          have K1 := Lib.hid h1
          have K2 := Lib.hid h2
          have K3 := Lib.hid h3
          have K4 := Lib.hid h4
          clear h1 h2 h3 h4
          by_cases hlt : k < 64
          · have hki : (k : Int) < 64 := by omega
            obtain ⟨B7, o7, e7, hB7, hc7⟩ := HK6.out (by decide)
            cases e7
            have hcell := (K4.out.cell (p := ⟨B6, o6 + k, none⟩) hB7).trans (hc7 k hlt).2
            have HC7 := Lib.hid (fun (W : World) (h : Below w4.heap.size w4 W) => (h.cell (p := ⟨B6, o6 + k, none⟩) hB7).trans (hc7 k hlt).2)
            obtain ⟨x, hx⟩ : ∃ x, kf n key k = x := ⟨_, rfl⟩
            have hxl : x < 256 := by rw [← hx]; exact HKB.out k hlt
            have b1 : bits BinOp.xor .u8 (x : Int) 54 = ((x ^^^ 54 : Nat) : Int) := u8_xor_nat x 54 hxl (by decide)
            have b2 : bits BinOp.xor .u8 (x : Int) 92 = ((x ^^^ 92 : Nat) : Int) := u8_xor_nat x 92 hxl (by decide)
            have HX1 := Lib.hid (show xf 54 n key k = x ^^^ 54 by unfold xf; rw [hx])
            have HX2 := Lib.hid (show xf 92 n key k = x ^^^ 92 by unfold xf; rw [hx])
            have HL1 := Lib.hid (xor_lt8 hxl (show 54 < 256 by decide))
            have HL2 := Lib.hid (xor_lt8 hxl (show 92 < 256 by decide))
            have HY1 := Lib.hid fun W => one_sl W (x ^^^ 54) HL1.out
            have HY2 := Lib.hid fun W => one_sl W (x ^^^ 92) HL2.out
            rw [hx] at hcell HC7
            clear hx hc7 hB7
            generalize x ^^^ 54 = y1 at *
            generalize x ^^^ 92 = y2 at *
            have HP1 := Lib.hid (K1.out.alloc (.cells #[.int .u8 (y1 : Nat)] 5))
            have HP2 := Lib.hid (K2.out.alloc (.cells #[.int .u8 (y1 : Nat)] 5))
            have HPB := Lib.hid (K4.out.alloc K4.out.size (.cells #[.int .u8 (y1 : Nat)] 5))
            have HXB := Lib.hid (fun (c : Nat) (hc : c < 256) => xf_by (c := c) hc HFA.out)
            go_wp2_with (first | (refine wpList_appW rfl (.tmp 27) (.tmp 33) rfl w4.heap.size _ k (xf 54 n key) rfl HP1.out (some ⟨_, 0, none⟩) 1 1 (fun _ => y1) rfl (HY1.out _) (fun h => by cases h) (by omega) HPB.out.size _ k (xf 92 n key) HP2.out K3.out ?_; intro v8 w8 h1 h2 h3 h4; have HQ1 := Lib.hid (OwnB.congr (g := xf 54 n key) h1 fun j hj => by unfold catB; by_cases e : j < k; rw [if_pos e]; rw [if_neg e, show j = k by omega, HX1.out]); have HQ2 := Lib.hid h2; have HQ3 := Lib.hid h3; have HQB := Lib.hid (HPB.out.trans h4); clear h1 h2 h3 h4 hcell; have hcell := HC7.out w8 HQB.out; have HR1 := Lib.hid (HQ1.out.alloc (.cells #[.int .u8 (y2 : Nat)] 5)); have HR2 := Lib.hid (HQ2.out.alloc (.cells #[.int .u8 (y2 : Nat)] 5)); have HRB := Lib.hid (HQB.out.alloc HQB.out.size (.cells #[.int .u8 (y2 : Nat)] 5))) | (refine wpList_appW rfl (.tmp 35) (.tmp 41) rfl w4.heap.size _ k (xf 92 n key) rfl HR2.out (some ⟨_, 0, none⟩) 1 1 (fun _ => y2) rfl (HY2.out _) (fun h => by cases h) (by omega) HRB.out.size _ (k + 1) (xf 54 n key) HR1.out HQ3.out.symm ?_; intro v9 w9 h1 h2 h3 h4; have HS1 := Lib.hid (OwnB.congr (g := xf 92 n key) h1 fun j hj => by unfold catB; by_cases e : j < k; rw [if_pos e]; rw [if_neg e, show j = k by omega, HX2.out]); have HS2 := Lib.hid h2; have HS3 := Lib.hid h3.symm; have HSB := Lib.hid (HRB.out.trans h4); clear h1 h2 h3 h4))
            go_roundw
            case rel => exact ⟨k + 1, by omega, by go_num, HS2.out, HS1.out, HS3.out, HSB.out⟩
            case measure => simp [intOf]; omega
          · obtain rfl : k = 64 := by omega
            have HXB := Lib.hid (fun (c : Nat) (hc : c < 256) => xf_by (c := c) hc HFA.out)
            have HBW := Lib.hid (HB.out.keep (G2.out.trans (K4.out.mono G2.out.size)))
            go_wp2_with (refine wpList_appW rfl (.tmp 44) (.tmp 45) rfl w4.heap.size _ 64 (xf 54 n key) rfl K1.out B m c2 b rfl HBW.out HNB.out (by have := HM.out; omega) K4.out.size _ 64 (xf 92 n key) K2.out K3.out ?_; intro v8 w8 h1 h2 _ h4; have HQ2 := Lib.hid h2; have HQB := Lib.hid (K4.out.trans h4); obtain ⟨A8, c8, e8, hs8⟩ := OwnB.slice h1 (catB_lt (HXB.out 54 (by decide)) HFB.out); obtain ⟨A8', c8', e8', _, _, hn8⟩ := OwnB.cap_le h1; rw [e8] at e8'; cases e8'; subst e8; have HS8 := Lib.hid hs8; have HN8 := Lib.hid hn8; clear h1 h2 h4 hs8 hn8)
            refine (rsum_any A8 (64 + m) c8 (catB 64 (xf 54 n key) b) w8 (by have := HM.out; omega) HS8.out HN8.out).mono ?_
            rintro e w9 ⟨A9, c9, rfl, h1, h2⟩
            have HS9 := Lib.hid h1
            have HY9 := Lib.hid (HQ2.out.keep h2)
            have HB9 := Lib.hid (HQB.out.trans (h2.mono HQB.out.size))
            have hA9 : ∃ B9 o9, A9 = some ⟨B9, o9, none⟩ := by
              obtain ⟨B9, o9, e, _⟩ := h1 (by decide)
              exact ⟨B9, o9, e⟩
            obtain ⟨B9, o9, rfl⟩ := hA9
            clear h1 h2 HQ2 HQB HS8 HN8
            go_wp2_with (refine wpList_appO rfl (.tmp 43) (.tmp 47) rfl w4.heap.size _ 64 (xf 92 n key) rfl HY9.out (some ⟨B9, o9, none⟩) 32 c9 (sha (64 + m) (catB 64 (xf 54 n key) b)) rfl HS9.out (fun h => by cases h) (by decide) HB9.out.size (HXB.out 92 (by decide)) (fun j _ => sha_lt _ _ j) ?_; intro A10 c10 w10 h1 h2 h3 h4; have HS10 := Lib.hid h2; have HN10 := Lib.hid h3.2.2; have HB10 := Lib.hid (HB9.out.trans h4); clear h1 h2 h3 h4)
            refine (rsum_own A10 (64 + 32) c10 (catB 64 (xf 92 n key) (sha (64 + m) (catB 64 (xf 54 n key) b))) w10 (by decide) HS10.out HN10.out).mono ?_
            rintro e w11 ⟨A11, c11, rfl, ⟨h1, h2⟩, h3⟩
            have HW10 := Lib.hid (G2.out.trans (HB10.out.mono G2.out.size))
            have HS11 := Lib.hid h1
            have HO11 := Lib.hid (h2.less HW10.out.size)
            have HB11 := Lib.hid (HW10.out.trans (h3.mono HW10.out.size))
            clear h1 h2 h3
            go_wp2_with fail
            go_ret
            exact ⟨⟨A11, c11, rfl, HS11.out, HO11.out⟩, HB11.out⟩
  · have hd : decide (64 < (n : Int)) = false := by simp; omega
    have HL := Lib.hid (show n ≤ 64 by omega)
    clear hl
    go_enter Tryd.func29, Tryd.ntmps29
    go_wp2_with (refine wpList_appO rfl (.tmp 9) (.tmp 10) rfl w.heap.size _ 0 key rfl HE.out A n c key rfl HA.out HNA.out (by have := HN.out; omega) HB0.out.size (fun j hj => absurd hj (Nat.not_lt_zero j)) HFA.out ?_; intro A1 c1 w1 h1 h2 h3 h4; rw [Nat.zero_add] at h1 h2 h3 ⊢; have HO1 := Lib.hid (OwnB.congr (g := key) h1 fun j _ => rfl); have HS1 := Lib.hid (SlB.congr (f' := key) h2 fun j _ => rfl); have HN1 := Lib.hid h3.2.2; have HB1 := Lib.hid (HB0.out.trans h4); clear h1 h2 h3 h4)
    obtain ⟨w3, hw3⟩ : ∃ w3, w3 = w1 := ⟨_, rfl⟩
    subst hw3
    have HO3 := Lib.hid (OwnB.congr (g := kf n key) HO1.out fun j hj => (kf_at key HL.out hj).symm)
    have HB3 := Lib.hid HB1.out
    have HZ := Lib.hid (fun j (hj : n ≤ j) => kf_past key HL.out hj)
    have hnl := HL.out
    clear hd HO1 HS1 HN1 HB1
    go_wp2_with fail
    go_loopw [5] (fun v wr => ∃ (l : Nat) (A4 : Option Addr) (c4 : Nat), n ≤ l ∧ l ≤ 64 ∧ v = .slice A4 l c4 ∧ OwnB wr w.heap.size (.slice A4 l c4) l (kf n key) ∧ Below w.heap.size w wr) (fun v _ => 64 - lenOf v)
    case atStart => exact ⟨n, A1, c1, Nat.le_refl _, by omega, rfl, HO3.out, HB3.out⟩
    case round =>
      obtain ⟨l, A4, c4, hl1, hl2, rfl, h1, h2⟩ := hrel
      have G1 := Lib.hid h1
      have G2 := Lib.hid h2
      have HKB := Lib.hid (kf_by HFA.out)
      have HZ1 := Lib.hid fun W => one_sl W 0 (by decide)
      clear h1 h2
      by_cases hlt : l < 64
      · have hli : (l : Int) < 64 := by omega
        have HO4 := Lib.hid (G1.out.alloc (.cells #[.int .u8 ((0 : Nat) : Int)] 5))
        have HB4 := Lib.hid (G2.out.alloc G2.out.size (.cells #[.int .u8 ((0 : Nat) : Int)] 5))
        have HZL := Lib.hid (HZ.out l hl1)
        have HMS := Lib.hid (show 64 - (l + 1) < 64 - l by omega)
        go_wp2_with (refine wpList_appO rfl (.tmp 20) (.tmp 21) rfl w.heap.size _ l (kf n key) rfl HO4.out (some ⟨_, 0, none⟩) 1 1 (fun _ => 0) rfl (HZ1.out _) (fun h => by cases h) (by omega) HB4.out.size (fun j hj => HKB.out j (by omega)) (fun _ _ => by decide) ?_; intro A5 c5 w5 h1 h2 h3 h4; have HO5 := Lib.hid (OwnB.congr (g := kf n key) h1 fun j hj => by unfold catB; by_cases e : j < l; rw [if_pos e]; rw [if_neg e, show j = l by omega, HZL.out]); have HB5 := Lib.hid (HB4.out.trans h4); clear h1 h2 h3 h4)
        go_roundw
        case rel => exact ⟨l + 1, A5, c5, by omega, by omega, rfl, HO5.out, HB5.out⟩
        case measure => exact HMS.out
      · obtain rfl : l = 64 := by omega
        obtain ⟨A6, c6, e6, hsl6⟩ := OwnB.slice G1.out (fun j hj => HKB.out j hj)
        cases e6
        have HK6 := Lib.hid hsl6
        have hA6 : ∃ B6 o6, A4 = some ⟨B6, o6, none⟩ := by
          obtain ⟨B6, o6, e, _⟩ := hsl6 (by decide)
          exact ⟨B6, o6, e⟩
        obtain ⟨B6, o6, rfl⟩ := hA6
        clear hsl6 hl1 hl2 hlt HO3 HB3 HZ
        go_wp2_with fail
        obtain ⟨w4, hw4⟩ : ∃ w4, w4 = wr := ⟨_, rfl⟩
        subst hw4
        go_loopw [6, 7, 8] (fun v6 v7 t wx => ∃ k : Nat, k ≤ 64 ∧ t = .int .i64 k ∧ OwnB wx w4.heap.size v6 k (xf 54 n key) ∧ OwnB wx w4.heap.size v7 k (xf 92 n key) ∧ Apart v6 v7 ∧ Below w4.heap.size w4 wx) (fun _ _ t _ => 64 - (intOf t).toNat)
        case atStart => exact ⟨0, Nat.zero_le _, rfl, OwnB.nil _ _ _, OwnB.nil _ _ _, Apart.nil _, Below.refl _ _⟩
        case round =>
          obtain ⟨k, hk, rfl, h1, h2, h3, h4⟩ := hrel
          have K1 := Lib.hid h1
          have K2 := Lib.hid h2
          have K3 := Lib.hid h3
          have K4 := Lib.hid h4
          clear h1 h2 h3 h4
          by_cases hlt : k < 64
          · have hki : (k : Int) < 64 := by omega
            obtain ⟨B7, o7, e7, hB7, hc7⟩ := HK6.out (by decide)
            cases e7
            have hcell := (K4.out.cell (p := ⟨B6, o6 + k, none⟩) hB7).trans (hc7 k hlt).2
            have HC7 := Lib.hid (fun (W : World) (h : Below w4.heap.size w4 W) => (h.cell (p := ⟨B6, o6 + k, none⟩) hB7).trans (hc7 k hlt).2)
            obtain ⟨x, hx⟩ : ∃ x, kf n key k = x := ⟨_, rfl⟩
            have hxl : x < 256 := by rw [← hx]; exact HKB.out k hlt
            have b1 : bits BinOp.xor .u8 (x : Int) 54 = ((x ^^^ 54 : Nat) : Int) := u8_xor_nat x 54 hxl (by decide)
            have b2 : bits BinOp.xor .u8 (x : Int) 92 = ((x ^^^ 92 : Nat) : Int) := u8_xor_nat x 92 hxl (by decide)
            have HX1 := Lib.hid (show xf 54 n key k = x ^^^ 54 by unfold xf; rw [hx])
            have HX2 := Lib.hid (show xf 92 n key k = x ^^^ 92 by unfold xf; rw [hx])
            have HL1 := Lib.hid (xor_lt8 hxl (show 54 < 256 by decide))
            have HL2 := Lib.hid (xor_lt8 hxl (show 92 < 256 by decide))
            have HY1 := Lib.hid fun W => one_sl W (x ^^^ 54) HL1.out
            have HY2 := Lib.hid fun W => one_sl W (x ^^^ 92) HL2.out
            rw [hx] at hcell HC7
            clear hx hc7 hB7
            generalize x ^^^ 54 = y1 at *
            generalize x ^^^ 92 = y2 at *
            have HP1 := Lib.hid (K1.out.alloc (.cells #[.int .u8 (y1 : Nat)] 5))
            have HP2 := Lib.hid (K2.out.alloc (.cells #[.int .u8 (y1 : Nat)] 5))
            have HPB := Lib.hid (K4.out.alloc K4.out.size (.cells #[.int .u8 (y1 : Nat)] 5))
            have HXB := Lib.hid (fun (c : Nat) (hc : c < 256) => xf_by (c := c) hc HFA.out)
            go_wp2_with (first | (refine wpList_appW rfl (.tmp 27) (.tmp 33) rfl w4.heap.size _ k (xf 54 n key) rfl HP1.out (some ⟨_, 0, none⟩) 1 1 (fun _ => y1) rfl (HY1.out _) (fun h => by cases h) (by omega) HPB.out.size _ k (xf 92 n key) HP2.out K3.out ?_; intro v8 w8 h1 h2 h3 h4; have HQ1 := Lib.hid (OwnB.congr (g := xf 54 n key) h1 fun j hj => by unfold catB; by_cases e : j < k; rw [if_pos e]; rw [if_neg e, show j = k by omega, HX1.out]); have HQ2 := Lib.hid h2; have HQ3 := Lib.hid h3; have HQB := Lib.hid (HPB.out.trans h4); clear h1 h2 h3 h4 hcell; have hcell := HC7.out w8 HQB.out; have HR1 := Lib.hid (HQ1.out.alloc (.cells #[.int .u8 (y2 : Nat)] 5)); have HR2 := Lib.hid (HQ2.out.alloc (.cells #[.int .u8 (y2 : Nat)] 5)); have HRB := Lib.hid (HQB.out.alloc HQB.out.size (.cells #[.int .u8 (y2 : Nat)] 5))) | (refine wpList_appW rfl (.tmp 35) (.tmp 41) rfl w4.heap.size _ k (xf 92 n key) rfl HR2.out (some ⟨_, 0, none⟩) 1 1 (fun _ => y2) rfl (HY2.out _) (fun h => by cases h) (by omega) HRB.out.size _ (k + 1) (xf 54 n key) HR1.out HQ3.out.symm ?_; intro v9 w9 h1 h2 h3 h4; have HS1 := Lib.hid (OwnB.congr (g := xf 92 n key) h1 fun j hj => by unfold catB; by_cases e : j < k; rw [if_pos e]; rw [if_neg e, show j = k by omega, HX2.out]); have HS2 := Lib.hid h2; have HS3 := Lib.hid h3.symm; have HSB := Lib.hid (HRB.out.trans h4); clear h1 h2 h3 h4))
            go_roundw
            case rel => exact ⟨k + 1, by omega, by go_num, HS2.out, HS1.out, HS3.out, HSB.out⟩
            case measure => simp [intOf]; omega
          · obtain rfl : k = 64 := by omega
            have HXB := Lib.hid (fun (c : Nat) (hc : c < 256) => xf_by (c := c) hc HFA.out)
            have HBW := Lib.hid (HB.out.keep (G2.out.trans (K4.out.mono G2.out.size)))
            go_wp2_with (refine wpList_appW rfl (.tmp 44) (.tmp 45) rfl w4.heap.size _ 64 (xf 54 n key) rfl K1.out B m c2 b rfl HBW.out HNB.out (by have := HM.out; omega) K4.out.size _ 64 (xf 92 n key) K2.out K3.out ?_; intro v8 w8 h1 h2 _ h4; have HQ2 := Lib.hid h2; have HQB := Lib.hid (K4.out.trans h4); obtain ⟨A8, c8, e8, hs8⟩ := OwnB.slice h1 (catB_lt (HXB.out 54 (by decide)) HFB.out); obtain ⟨A8', c8', e8', _, _, hn8⟩ := OwnB.cap_le h1; rw [e8] at e8'; cases e8'; subst e8; have HS8 := Lib.hid hs8; have HN8 := Lib.hid hn8; clear h1 h2 h4 hs8 hn8)
            refine (rsum_any A8 (64 + m) c8 (catB 64 (xf 54 n key) b) w8 (by have := HM.out; omega) HS8.out HN8.out).mono ?_
            rintro e w9 ⟨A9, c9, rfl, h1, h2⟩
            have HS9 := Lib.hid h1
            have HY9 := Lib.hid (HQ2.out.keep h2)
            have HB9 := Lib.hid (HQB.out.trans (h2.mono HQB.out.size))
            have hA9 : ∃ B9 o9, A9 = some ⟨B9, o9, none⟩ := by
              obtain ⟨B9, o9, e, _⟩ := h1 (by decide)
              exact ⟨B9, o9, e⟩
            obtain ⟨B9, o9, rfl⟩ := hA9
            clear h1 h2 HQ2 HQB HS8 HN8
            go_wp2_with (refine wpList_appO rfl (.tmp 43) (.tmp 47) rfl w4.heap.size _ 64 (xf 92 n key) rfl HY9.out (some ⟨B9, o9, none⟩) 32 c9 (sha (64 + m) (catB 64 (xf 54 n key) b)) rfl HS9.out (fun h => by cases h) (by decide) HB9.out.size (HXB.out 92 (by decide)) (fun j _ => sha_lt _ _ j) ?_; intro A10 c10 w10 h1 h2 h3 h4; have HS10 := Lib.hid h2; have HN10 := Lib.hid h3.2.2; have HB10 := Lib.hid (HB9.out.trans h4); clear h1 h2 h3 h4)
            refine (rsum_own A10 (64 + 32) c10 (catB 64 (xf 92 n key) (sha (64 + m) (catB 64 (xf 54 n key) b))) w10 (by decide) HS10.out HN10.out).mono ?_
            rintro e w11 ⟨A11, c11, rfl, ⟨h1, h2⟩, h3⟩
            have HW10 := Lib.hid (G2.out.trans (HB10.out.mono G2.out.size))
            have HS11 := Lib.hid h1
            have HO11 := Lib.hid (h2.less HW10.out.size)
            have HB11 := Lib.hid (HW10.out.trans (h3.mono HW10.out.size))
            clear h1 h2 h3
            go_wp2_with fail
            go_ret
            exact ⟨⟨A11, c11, rfl, HS11.out, HO11.out⟩, HB11.out⟩
end Go.Proofs.YtengejmkpkacgaaDoor
/- As OrdM, but the facts of some operations (kp) are kept to the region's end: those behind all that may write. Written by specs/mkordk.py out of OrdM. Nothing here hangs on the program. -/
namespace Go.Proofs.YtengejmkpkacgaaDoor.ord
open Go Go.RowKit

/-- nothing that is looked at later hangs on what p may write -/
def okMuK (ops : Array Oper) (D : List (List Nat)) (L : List (Nat × Nat)) (mu st kp : Nat → Bool) : Bool :=
  L.all fun p => !mu p.1 || L.all fun q => q.1 == p.1 || st q.1 || behind ops ops.size q.1 p.1 || (!kp q.1 && L.all fun r => !dep D r.1 q.1 || r.1 == p.1 || match ops[p.1]? with
    | none => false
    | some o => waits o r.1)

section
variable {P : Program} {ops : Array Oper} {Q : Exit → Act → World → Prop} {D : List (List Nat)} {L : List (Nat × Nat)} {G : Nat → Value → World → Prop} {a0 : Act} {w0 : World} {listed0 : Array Bool} {mu st kp : Nat → Bool}
/-- is it looked at again, or steady? -/
def liveK (D : List (List Nat)) (L : List (Nat × Nat)) (st kp : Nat → Bool) (listed : Array Bool) (q : Nat) : Prop := st q = true ∨ kp q = true ∨ ∃ r ∈ L, dep D r.1 q = true ∧ listed.getD r.1 false = false

structure InvK (N : Nat) (ops : Array Oper) (D : List (List Nat)) (st kp : Nat → Bool) (L : List (Nat × Nat)) (G : Nat → Value → World → Prop) (a0 : Act) (w0 : World) (listed0 listed : Array Bool) (a : Act) (w : World) : Prop where
  grow : Below w0.heap.size w0 w
  defers : a.defers = a0.defers
  size : a.tmps.size = a0.tmps.size
  lsize : listed.size = listed0.size
  old : ∀ s, (∀ q ∈ L, q.2 = s → listed.getD q.1 false = false) → a.tmps[s]? = a0.tmps[s]?
  new : ∀ q ∈ L, listed.getD q.1 false = true → ∃ v, a.tmps[q.2]? = some v ∧ (liveK D L st kp listed q.1 → G q.1 v w)
  closed : ∀ q ∈ L, listed.getD q.1 false = true → ∀ o, ops[q.1]? = some o → ∀ j, waits o j = true → listed.getD j false = true
  tail : ∀ t, N ≤ t → t < ops.size → listed.getD t true = false

theorem step_invK {N : Nat} (hok : okT N ops listed0 a0.tmps.size D L = true) (hmu : okMuK ops D L mu st kp = true) (hst : ∀ i v w w', G i v w → Below w.heap.size w w' → G i v w') (hst2 : ∀ i v w w', st i = true → G i v w → Below w0.heap.size w w' → G i v w') (hstep : ∀ p ∈ L, StepM P ops D L G mu a0 w0 p)
    {listed : Array Bool} {a : Act} {w : World} (I : InvK N ops D st kp L G a0 w0 listed0 listed a w) {i : Nat} (hi : i ∈ Region.ready .any ops listed) (hiN : i < N) :
    wpOp P ops Q i (fun a' w' => InvK N ops D st kp L G a0 w0 listed0 (listed.setIfInBounds i true) a' w') a w := by
  obtain ⟨hun, o, ho, hdeps⟩ := mem_ready.1 hi
  have hdeps' : ∀ j, waits o j = true → listed.getD j false = true := fun j hj => by
    obtain ⟨e, he, hb, rfl⟩ := waits_iff.1 hj; exact hdeps e he hb
  unfold okT at hok
  simp only [Bool.and_eq_true, decide_eq_true_eq, List.all_eq_true] at hok
  obtain ⟨p, hp, rfl⟩ : ∃ p ∈ L, p.1 = i := by
    obtain ⟨q, hq, e⟩ := List.any_eq_true.1 (hok.1.1.2 i (List.mem_range.2 hiN))
    exact ⟨q, hq, by simpa using e⟩
  have hls0 : listed0.size = ops.size := by simpa using hok.1.1.1
  have hany0 := hok.1.1.2
  obtain ⟨⟨⟨_, _⟩, hn1, hn2⟩, hall⟩ := hok
  have hp0 := hall p hp
  obtain ⟨hpN, ⟨⟨hsz, hls⟩, _⟩, hpo⟩ := hp0
  rw [ho] at hpo
  simp only [Bool.and_eq_true, List.all_eq_true, beq_iff_eq, Bool.or_eq_true, Bool.not_eq_true', beq_eq_false_iff_ne] at hpo
  obtain ⟨⟨⟨_, hDw, hdst⟩, hsel⟩, hlooks⟩ := hpo
  have hD : ∀ j, dep D p.1 j = true → waits o j = true := fun j hj => by
    unfold dep at hj
    obtain ⟨k, hk, e⟩ := List.any_eq_true.1 hj
    have := Nat.eq_of_beq_eq_true e
    subst this
    exact hDw _ hk
  have hsel' : ∀ cs b, o.op ≠ .select cs b := fun cs b e => by rw [e] at hsel; cases hsel
  have hli : p.1 < listed.size := by rw [I.lsize]; exact hls
  have hunF : listed.getD p.1 false = false := by
    simp only [Array.getD_eq_getD_getElem?, Array.getElem?_eq_getElem hli, Option.getD_some] at hun ⊢; exact hun
  have HCL : ∀ j oj, ops[j]? = some oj → listed.getD j false = true → ∀ e ∈ oj.after, Region.binds .any e = true → listed.getD e.on false = true := fun j oj hj hl e he hb => by
    have hlt : j < ops.size := (Array.getElem?_eq_some_iff.1 hj).1
    rcases Nat.lt_or_ge j N with h | h
    · obtain ⟨q, hq, eq⟩ := List.any_eq_true.1 (hany0 j (List.mem_range.2 h))
      have eq' : q.1 = j := by simpa using eq
      subst eq'
      exact I.closed q hq hl oj hj e.on (waits_iff.2 ⟨e, he, hb, rfl⟩)
    · have h1 := I.tail j h hlt
      have hlt2 : j < listed.size := by rw [I.lsize, hls0]; exact hlt
      simp only [Array.getD_eq_getD_getElem?, Array.getElem?_eq_getElem hlt2, Option.getD_some] at h1 hl
      rw [h1] at hl; cases hl
  have hx : ∃ x : Nat → Value, ∀ q ∈ L, listed.getD q.1 false = true → a.tmps[q.2]? = some (x q.1) ∧ (liveK D L st kp listed q.1 → G q.1 (x q.1) w) := by
    refine ⟨fun j => match L.find? (fun q => q.1 == j) with | some q => a.tmps.getD q.2 undef | none => undef, fun q hq hl => ?_⟩
    obtain ⟨v, hv, hg⟩ := I.new q hq hl
    have hf : L.find? (fun r => r.1 == q.1) = some q := by
      cases hfd : L.find? (fun r => r.1 == q.1) with
      | none => have := List.find?_eq_none.1 hfd q hq; simp at this
      | some r =>
        have h1 := List.find?_some hfd
        have h2 := List.mem_of_find?_eq_some hfd
        have e : r.1 = q.1 := by simpa using h1
        have : r = q := by
          exact nodup_inj (f := (·.1)) hn1 h2 hq e
        rw [this]
    simp only [hf, Array.getD_eq_getD_getElem?, hv, Option.getD_some]
    exact ⟨trivial, hg⟩
  obtain ⟨x, hx⟩ := hx
  have hsame : ∀ t ∈ o.looksAt ops, a.tmps[t]? = (puts x (dep D p.1) L a0).tmps[t]? := fun t ht => by
    rcases Classical.em (∃ q ∈ L, q.2 = t ∧ dep D p.1 q.1 = true) with ⟨q, hq, rfl, hw⟩ | hno
    · have hsq : q.2 < a0.tmps.size := (hall q hq).2.1.1.1
      rw [puts_at x (dep D p.1) L a0 q hn2 hq hw hsq]
      exact (hx q hq (hdeps' _ (hD _ hw))).1
    · rw [puts_not x (dep D p.1) L a0 t fun q hq e => by
        cases hw : dep D p.1 q.1
        · rfl
        · exact absurd ⟨q, hq, e, hw⟩ hno]
      refine I.old t fun q hq e => ?_
      rcases hlooks t ht q hq with (h | h) | h
      · exact absurd e h
      · exact absurd ⟨q, hq, e, h⟩ hno
      · cases hl : listed.getD q.1 false
        · rfl
        · cases hoq : ops[q.1]? with
          | none => rw [hoq] at h; cases h
          | some o' =>
            rw [hoq] at h
            have := I.closed q hq hl o' hoq p.1 h
            rw [hunF] at this; cases this
  have hS := hstep p hp o ho x w I.grow fun q hq hw => (hx q hq (hdeps' _ (hD _ hw))).2 (Or.inr (Or.inr ⟨p, hp, hw, hunF⟩))
  rw [← wanted_of hsame] at hS
  have keep : ∀ v w', Below (if mu p.1 then w0.heap.size else w.heap.size) w w' → G p.1 v w' → InvK N ops D st kp L G a0 w0 listed0 (listed.setIfInBounds p.1 true) (a.put o.dst v) w' := fun v w' hb hg => by
    have hput : ∀ s, s ≠ p.2 → (a.put o.dst v).tmps[s]? = a.tmps[s]? := fun s hs => by
      rw [hdst]; simp [Act.put, Array.getElem?_setIfInBounds_ne (Ne.symm hs)]
    have hputp : (a.put o.dst v).tmps[p.2]? = some v := by
      rw [hdst]; simp [Act.put, I.size, hsz]
    have hset : ∀ j, j ≠ p.1 → (listed.setIfInBounds p.1 true).getD j false = listed.getD j false := fun j hj => getD_set_ne false (Ne.symm hj)
    have hsetp : (listed.setIfInBounds p.1 true).getD p.1 false = true := by simp [hli]
    have uniq : ∀ q ∈ L, q.2 = p.2 → q = p := fun q hq e => by
      exact nodup_inj (f := (·.2)) hn2 hq hp e
    have uniq1 : ∀ q ∈ L, q.1 = p.1 → q = p := fun q hq e => by
      exact nodup_inj (f := (·.1)) hn1 hq hp e
    have hb0 : Below w0.heap.size w w' := hb.mono (by split; exact Nat.le_refl _; exact I.grow.size)
    refine ⟨I.grow.trans hb0, ?_, ?_, ?_, fun s hs => ?_, fun q hq hl => ?_, fun q hq hl o' ho' j hj => ?_, fun s hs ht => ?_⟩
    · rw [hdst]; exact I.defers
    · rw [hdst]; simp [Act.put, I.size]
    · simp [I.lsize]
    · have hsp : s ≠ p.2 := fun e => by
        have := hs p hp e.symm
        rw [hsetp] at this; cases this
      rw [hput s hsp]
      refine I.old s fun q hq e => ?_
      have := hs q hq e
      have hqp : q.1 ≠ p.1 := fun e2 => hsp (by rw [← e, uniq1 q hq e2])
      rwa [hset _ hqp] at this
    · by_cases e : q.1 = p.1
      · obtain rfl := uniq1 q hq e
        exact ⟨v, hputp, fun _ => hg⟩
      · rw [hset _ e] at hl
        obtain ⟨u, hu, hgu⟩ := I.new q hq hl
        have : q.2 ≠ p.2 := fun e2 => e (by rw [uniq q hq e2])
        refine ⟨u, by rw [hput _ this]; exact hu, fun hlv => ?_⟩
        have hlv0 : liveK D L st kp listed q.1 := by
          rcases hlv with h | h | ⟨r, hr, h1, h2⟩
          · exact Or.inl h
          · exact Or.inr (Or.inl h)
          · refine Or.inr (Or.inr ⟨r, hr, h1, ?_⟩)
            by_cases e3 : r.1 = p.1
            · rw [e3]; exact hunF
            · rw [hset _ e3] at h2; exact h2
        by_cases hm : mu p.1 = true
        · unfold okMuK at hmu
          have h3 := List.all_eq_true.1 hmu p hp
          rw [hm] at h3
          have h4 := List.all_eq_true.1 (show (L.all fun q => q.1 == p.1 || st q.1 || behind ops ops.size q.1 p.1 || (!kp q.1 && L.all fun r => !dep D r.1 q.1 || r.1 == p.1 || match ops[p.1]? with | none => false | some o => waits o r.1)) = true by simpa using h3) q hq
          by_cases hsq : st q.1 = true
          · exact hst2 _ _ _ _ hsq (hgu hlv0) hb0
          by_cases hbe : behind ops ops.size q.1 p.1 = true
          · exfalso
            have := behind_listed HCL _ _ _ hbe hl
            rw [hunF] at this; cases this
          have h4' : (!kp q.1 && L.all fun r => !dep D r.1 q.1 || r.1 == p.1 || match ops[p.1]? with | none => false | some o => waits o r.1) = true := by simpa [e, hsq, hbe] using h4
          rw [Bool.and_eq_true] at h4'
          rcases hlv with h | h | ⟨r, hr, h1, h2⟩
          · exact absurd h hsq
          · rw [h] at h4'; cases h4'.1
          · · exfalso
              have h5 := List.all_eq_true.1 h4'.2 r hr
              rw [h1, ho] at h5
              by_cases e3 : r.1 = p.1
              · rw [e3, hsetp] at h2; cases h2
              · have h6 : waits o r.1 = true := by simpa [e3] using h5
                have h7 := hdeps' _ h6
                rw [hset _ e3, h7] at h2; cases h2
        · rw [if_neg hm] at hb
          exact hst _ _ _ _ (hgu hlv0) hb
    · by_cases e : q.1 = p.1
      · obtain rfl := uniq1 q hq e
        rw [ho] at ho'
        cases ho'
        have := hdeps' j hj
        exact getD_set_true this
      · rw [hset _ e] at hl
        exact getD_set_true (I.closed q hq hl o' ho' j hj)
    · rw [getD_set_ne true (show p.1 ≠ s by omega)]
      exact I.tail s hs ht
  unfold wpOp
  rw [ho]
  show if Region.wanted o (yielded ops a.tmps) = true then _ else _
  rcases hS with ⟨hw, hm⟩ | ⟨hw, hg⟩
  · rw [if_pos hw]
    refine Or.inl (wp_of_makes (N := fun v w' => Below (if mu p.1 then w0.heap.size else w.heap.size) w w' ∧ G p.1 v w') ?_ fun v w' h => keep v w' h.1 h.2)
    unfold makes at hm ⊢
    rw [exec_of hsel' hsame]
    exact hm
  · rw [hw, if_neg (by decide)]
    exact keep _ _ (Below.refl _ _) hg
theorem done_eqK {N : Nat} (hn2 : (L.map (·.2)).Nodup) (hsz : ∀ q ∈ L, q.2 < a0.tmps.size) {listed : Array Bool} {a : Act} {w : World} (I : InvK N ops D st kp L G a0 w0 listed0 listed a w) (hl : ∀ q ∈ L, listed.getD q.1 false = true) (hn1 : (L.map (·.1)).Nodup) :
    ∃ x : Nat → Value, (∀ q ∈ L, (st q.1 = true ∨ kp q.1 = true) → G q.1 (x q.1) w) ∧ a = puts x (fun _ => true) L a0 := by
  have hx : ∃ x : Nat → Value, ∀ q ∈ L, a.tmps[q.2]? = some (x q.1) ∧ ((st q.1 = true ∨ kp q.1 = true) → G q.1 (x q.1) w) := by
    refine ⟨fun j => match L.find? (fun q => q.1 == j) with | some q => a.tmps.getD q.2 undef | none => undef, fun q hq => ?_⟩
    obtain ⟨v, hv, hg⟩ := I.new q hq (hl q hq)
    have hf : L.find? (fun r => r.1 == q.1) = some q := by
      cases hfd : L.find? (fun r => r.1 == q.1) with
      | none => have := List.find?_eq_none.1 hfd q hq; simp at this
      | some r =>
        have h1 := List.find?_some hfd
        have h2 := List.mem_of_find?_eq_some hfd
        have e : r.1 = q.1 := by simpa using h1
        have : r = q := by
          exact nodup_inj (f := (·.1)) hn1 h2 hq e
        rw [this]
    simp only [hf, Array.getD_eq_getD_getElem?, hv, Option.getD_some]
    exact ⟨trivial, fun h => hg (h.elim Or.inl fun h => Or.inr (Or.inl h))⟩
  obtain ⟨x, hx⟩ := hx
  refine ⟨x, fun q hq => (hx q hq).2, ?_⟩
  have ht : a.tmps = (puts x (fun _ => true) L a0).tmps := by
    apply Array.ext_getElem?
    intro s
    rcases Classical.em (∃ q ∈ L, q.2 = s) with ⟨q, hq, rfl⟩ | hno
    · rw [puts_at x _ L a0 q hn2 hq rfl (hsz q hq), (hx q hq).1]
    · rw [puts_not x _ L a0 s fun q hq e => absurd ⟨q, hq, e⟩ hno]
      exact I.old s fun q hq e => absurd ⟨q, hq, e⟩ hno
  have hd : a.defers = (puts x (fun _ => true) L a0).defers := by rw [puts_defers, I.defers]
  cases a
  simp only at ht hd
  rw [ht, hd]
theorem head_ofK {N : Nat} {listed : Array Bool} {a : Act} {w : World} (hls : listed0.size = ops.size) (hany : ∀ i, i < N → ∃ q ∈ L, q.1 = i) (I : InvK N ops D st kp L G a0 w0 listed0 listed a w) : HeadInv .any ops N listed := by
  refine ⟨by rw [I.lsize, hls], fun j oj hj hl e he hb => ?_, I.tail⟩
  have hlt : j < ops.size := (Array.getElem?_eq_some_iff.1 hj).1
  rcases Nat.lt_or_ge j N with h | h
  · obtain ⟨q, hq, rfl⟩ := hany j h
    exact I.closed q hq hl oj hj e.on (waits_iff.2 ⟨e, he, hb, rfl⟩)
  · have h1 := I.tail j h hlt
    have hs : listed.size = ops.size := by rw [I.lsize, hls]
    have hlt2 : j < listed.size := by omega
    simp only [Array.getD_eq_getD_getElem?, Array.getElem?_eq_getElem hlt2, Option.getD_some] at h1 hl
    rw [h1] at hl; cases hl
theorem wpAny_K {N g : Nat} (hok : okT N ops listed0 a0.tmps.size D L = true) (hmu : okMuK ops D L mu st kp = true) (hN : N < ops.size) (hs : Region.sinkB .any ops N = true) (hc : Region.chainB .any ops N = true)
    (hst : ∀ i v w w', G i v w → Below w.heap.size w w' → G i v w') (hst2 : ∀ i v w w', st i = true → G i v w → Below w0.heap.size w w' → G i v w') (hstep : ∀ p ∈ L, StepM P ops D L G mu a0 w0 p)
    (hdone : ∀ (listed : Array Bool) (a : Act) (w : World), InvK N ops D st kp L G a0 w0 listed0 listed a w → (∀ i, i < N → listed.getD i true = true) → wpAny P .any ops Q g listed a w) :
    ∀ (m : Nat) (listed : Array Bool) (a : Act) (w : World), todo listed N = m → InvK N ops D st kp L G a0 w0 listed0 listed a w → wpAny P .any ops Q (m + g) listed a w
  | 0, listed, a, w, hm, I => by
    rw [Nat.zero_add]
    exact hdone _ _ _ I (todo_zero listed N hm)
  | m + 1, listed, a, w, hm, I => by
    have hok' := hok
    unfold okT at hok'
    simp only [Bool.and_eq_true, decide_eq_true_eq, List.all_eq_true, beq_iff_eq] at hok'
    obtain ⟨⟨⟨hls, hany⟩, _, _⟩, _⟩ := hok'
    have hany' : ∀ i, i < N → ∃ q ∈ L, q.1 = i := fun i hi => by
      obtain ⟨q, hq, e⟩ := List.any_eq_true.1 (hany i (List.mem_range.2 hi))
      exact ⟨q, hq, by simpa using e⟩
    have HI := head_ofK hls hany' I
    obtain ⟨i0, hi0, hu0⟩ := todo_pos listed N (by omega)
    rw [show m + 1 + g = (m + g) + 1 by omega]
    refine ⟨fun h0 => ?_, fun i hi => ?_⟩
    · exfalso
      obtain ⟨q, hq, rfl⟩ := hany' i0 hi0
      have := all_listedT hok I.lsize h0 q hq
      have hlt : q.1 < listed.size := by rw [I.lsize, hls]; omega
      simp only [Array.getD_eq_getD_getElem?, Array.getElem?_eq_getElem hlt, Option.getD_some] at this hu0
      rw [this] at hu0; cases hu0
    · have hiN : i < N := by
        rcases Nat.lt_or_ge i N with h | h
        · exact h
        · exact absurd hi (tail_waits hs hc hN HI _ i0 rfl hi0 hu0 i h)
      refine wpOp_mono (fun a' w' I' => wpAny_K hok hmu hN hs hc hst hst2 hstep hdone m _ a' w' ?_ I') (step_invK hok hmu hst hst2 hstep I hi hiN)
      have := todo_set listed i (mem_ready.1 hi).1 N
      rw [if_pos hiN] at this
      omega
end
/-- such a region, from its begin on -/
theorem wp_region_ordK {P : Program} {l : List Oper} {Q : Exit → Act → World → Prop} {a0 : Act} {w : World} {id : Nat} (N : Nat) (D : List (List Nat)) (L : List (Nat × Nat)) (G : Nat → Value → World → Prop) (mu st kp : Nat → Bool) (hm : P.follows .mixedOrders = true)
    (hok : okT N l.toArray (Array.replicate l.toArray.size false) a0.tmps.size D L = true) (hB : (decide (N < l.toArray.size) && Region.sinkB .any l.toArray N && Region.chainB .any l.toArray N && Region.seqB .any l.toArray (l.toArray.size - N) N (Array.replicate N true ++ Array.replicate (l.toArray.size - N) false)) = true)
    (hmu : okMuK l.toArray D L mu st kp = true)
    (hst : ∀ i v w w', G i v w → Below w.heap.size w w' → G i v w') (hst2 : ∀ i v w0 w', st i = true → G i v w0 → Below w.heap.size w0 w' → G i v w') (hstep : ∀ p ∈ L, StepM P l.toArray D L G mu a0 w.drew p)
    (hdone : ∀ (x : Nat → Value) (w' : World), Below w.heap.size w w' → (∀ q ∈ L, (st q.1 = true ∨ kp q.1 = true) → G q.1 (x q.1) w') → wpList P l.toArray Q (l.drop N) (puts x (fun _ => true) L a0) w') :
    (Code.region id l.toArray true).wp P Q a0 w := by
  simp only [Bool.and_eq_true, decide_eq_true_eq] at hB
  obtain ⟨⟨⟨hN, hs⟩, hc⟩, hseq⟩ := hB
  have hok' := hok
  unfold okT at hok'
  simp only [Bool.and_eq_true, decide_eq_true_eq, List.all_eq_true, beq_iff_eq] at hok'
  obtain ⟨⟨_, hn1, hn2⟩, hall⟩ := hok'
  refine wp_region_any hm ?_
  have hF : ∀ i, (Array.replicate l.toArray.size false).getD i false = false := fun i => getD_replicate_false _ _
  have key := wpAny_K (P := P) (Q := Q) (w0 := w.drew) (g := l.toArray.size - N) hok hmu hN hs hc hst hst2 hstep (fun listed a w1 I hl => by
    have hall' : ∀ q ∈ L, listed.getD q.1 false = true := fun q hq => by
      have h1 := hl q.1 (hall q hq).1
      have hlt : q.1 < listed.size := by rw [I.lsize]; simp; have := (hall q hq).1; simp at hN; omega
      simp only [Array.getD_eq_getD_getElem?, Array.getElem?_eq_getElem hlt, Option.getD_some] at h1 ⊢
      exact h1
    obtain ⟨x, hx, rfl⟩ := done_eqK hn2 (fun q hq => (hall q hq).2.1.1.1) I hall' hn1
    have hls : listed.size = l.toArray.size := by rw [I.lsize]; simp
    have hle : listed = Array.replicate N true ++ Array.replicate (l.toArray.size - N) false := by
      apply Array.ext
      · simp at hls hN ⊢; omega
      · intro i h1 h2
        rcases Nat.lt_or_ge i N with h | h
        · have h3 := hl i h
          simp only [Array.getD_eq_getD_getElem?, Array.getElem?_eq_getElem h1, Option.getD_some] at h3
          rw [h3, Array.getElem_append_left (by simpa using h)]; simp
        · have h3 := I.tail i h (by omega)
          simp only [Array.getD_eq_getD_getElem?, Array.getElem?_eq_getElem h1, Option.getD_some] at h3
          rw [h3, Array.getElem_append_right (by simpa using h)]; simp
    have hdl : (l.drop N).length = l.toArray.size - N := by simp
    have := wpAny_of_seq (P := P) (md := .any) (Q' := Q) (ops := l.toArray) (l.drop N) N listed (puts x (fun _ => true) L a0) w1 (fun j => by simp [List.getElem?_drop]) (by rw [hdl, hle]; exact hseq) (hdone x w1 ⟨I.grow.os, I.grow.tape, I.grow.output, I.grow.size, I.grow.block⟩ hx)
    rwa [hdl] at this) N (Array.replicate l.toArray.size false) a0 w.drew (todo_none _ _ (Nat.le_of_lt hN)) ⟨Below.refl _ _, rfl, rfl, rfl, fun _ _ => rfl, (fun q hq hl => absurd hl (by rw [hF]; decide)), (fun q hq hl => absurd hl (by rw [hF]; decide)), (fun t _ ht => getD_in (by simpa using ht) (hF t))⟩
  rw [show N + (l.toArray.size - N) = l.toArray.size by omega] at key
  exact key
end Go.Proofs.YtengejmkpkacgaaDoor.ord
/- The reference of layer 6: Fold. -/
namespace Go.Proofs.YtengejmkpkacgaaDoor
open Go.RowKit
theorem strCells_bytes (s : ByteArray) : Lib.strCells s = bytesL s.size (by_ s) := by
  unfold Lib.strCells bytesL
  apply List.ext_getElem?
  intro j
  by_cases hj : j < s.size
  · have hj' : j < s.data.toList.length := by rw [Array.length_toList]; exact hj
    rw [List.getElem?_map, List.getElem?_map, List.getElem?_range hj, List.getElem?_eq_getElem hj']
    show some (Value.int .u8 ((s.data.toList[j]).toNat : Nat)) = some (Value.int .u8 ((by_ s j : Nat) : Int))
    unfold by_
    rw [List.getD_eq_getElem?_getD, List.getElem?_eq_getElem hj']
    rfl
  · rw [List.getElem?_eq_none (by rw [List.length_map, Array.length_toList]; exact Nat.le_of_not_lt hj), List.getElem?_eq_none (by rw [List.length_map, List.length_range]; exact Nat.le_of_not_lt hj)]
theorem run_appS (w : World) (base : Nat) (v : Value) (n : Nat) (f : Nat → Nat) (hown : OwnB w base v n f) (s : ByteArray) (hn : n + s.size ≤ 100000000000000) (hbase : base ≤ w.heap.size) (hf : ∀ j, j < n → f j < 256) :
    ∃ A' c' w', (Builtin.append_ #[22, 9] 22 #[v, .string s]).run Tryd.prog w = .ok (.slice A' (n + s.size) c') w' ∧ SlB w' A' (n + s.size) (catB n f (by_ s)) ∧ (A' = none → n + s.size = 0 ∧ c' = 0) ∧ Below base w w' := by
  obtain ⟨i, hi, hz, hsz, hb⟩ := info_parts info8
  obtain ⟨v', w', hr, h1, h2, _⟩ := Lib.run_append_own_string (P := Tryd.prog) w base 22 9 22 5 i Tryd.underlying22 Tryd.underlying9 hi hz hsz hb v n _ hown s (by unfold maxLen; omega) (by omega) hbase
  rw [strCells_bytes, bytesL_cat] at h1
  obtain ⟨A', c', rfl, hsl⟩ := OwnB.slice (f := catB n f (by_ s)) h1 (catB_lt hf fun j _ => by_lt s j)
  obtain ⟨A2, c2, e, _, _, h4⟩ := OwnB.cap_le (f := catB n f (by_ s)) h1
  cases e
  exact ⟨A', c', w', hr, hsl, h4, (Below.refl base w).grown h2 hbase fun k hk => (hown.lt k hk).1⟩
namespace ord
theorem makes_append2 {P : Program} {o : Oper} {a : Act} {w : World} {N : Value → World → Prop} {s x : Operand} {t u : TypeId} {vs vx v : Value} {w' : World} (ho : o.op = .call { callee := .builtin .append, args := #[s, x], argTypes := #[t, u] }) (ht : o.type = t) (hs : a.eval s = vs) (hx : a.eval x = vx)
    (hrun : (Builtin.append_ #[t, u] t #[vs, vx]).run P w = .ok v w') (hN : N v w') : makes P o a w N := by
  unfold makes
  have : (execOp a.eval o).run P w = .ok (.value v) w' := by
    simp [execOp, ho, ht, resolve, invoke, builtin, hs, hx, hrun, Result.andThen]
  rw [this]; exact hN
end ord
theorem run_idxS (B o n c q : Nat) (hq : q < n) (w : World) : (Instr.indexAt 65 (.slice (some ⟨B, o, none⟩) n c) (.int .i64 (q : Nat))).run Tryd.prog w = .ok (.pointer (some ⟨B, o + q, none⟩)) w := by
  have hq2 : (q : Int) < n := by omega
  go_simp
theorem run_loadS (p : Addr) (x : ByteArray) (w : World) (h : w.cell? p = some (.string x)) : (Instr.loadAt 9 (.pointer (some p))).run Tryd.prog w = .ok (.string x) w := by
  go_simp
theorem run_lenS (s : ByteArray) (w : World) : (Builtin.len_ #[9] 3 #[.string s]).run Tryd.prog w = .ok (.int .i64 (s.size : Int)) w := by go_simp
--DEFS rf
def rfG (B o L cL k m : Nat) (A2 : Option Addr) (c2 : Nat) (F : Nat → Nat) (s : ByteArray) (base : Nat) : Nat → Value → World → Prop
  | 0, v, _ => v = .slice A2 m c2
  | 1, v, _ => v = .slice (some ⟨B, o, none⟩) L cL
  | 2, v, _ => v = .int .i64 (k : Nat)
  | 3, v, _ => v = .pointer (some ⟨B, o + k, none⟩)
  | 4, v, _ => v = .string s
  | 5, v, _ => v = .int .i64 (s.size : Nat)
  | 6, v, w => (∃ A c, v = .slice A 8 c) ∧ OwnB w base v 8 (len8 s.size) ∧ base ≤ w.heap.size
  | 7, v, _ => v = .slice (some ⟨B, o, none⟩) L cL
  | 8, v, _ => v = .int .i64 (k : Nat)
  | 9, v, _ => v = .pointer (some ⟨B, o + k, none⟩)
  | 10, v, _ => v = .string s
  | 11, v, w => ∃ A c, v = .slice A (8 + s.size) c ∧ SlB w A (8 + s.size) (catB 8 (len8 s.size) (by_ s)) ∧ (A = none → 8 + s.size = 0 ∧ c = 0)
  | 12, v, w => ∃ A c, v = .slice A 32 c ∧ SlB w A 32 (tag m F (8 + s.size) (catB 8 (len8 s.size) (by_ s))) ∧ OwnB w base (.slice A 32 c) 32 (tag m F (8 + s.size) (catB 8 (len8 s.size) (by_ s)))
  | _, _, _ => True
theorem rfG_stays (B o L cL k m : Nat) (A2 : Option Addr) (c2 : Nat) (F : Nat → Nat) (s : ByteArray) (base : Nat) : ∀ i v w w', rfG B o L cL k m A2 c2 F s base i v w → Below w.heap.size w w' → rfG B o L cL k m A2 c2 F s base i v w'
  | 0, _, _, _, h, _ => h
  | 1, _, _, _, h, _ => h
  | 2, _, _, _, h, _ => h
  | 3, _, _, _, h, _ => h
  | 4, _, _, _, h, _ => h
  | 5, _, _, _, h, _ => h
  | 6, v, w, w', h_, hb => by
    exact ⟨h_.1, h_.2.1.keep hb, Nat.le_trans h_.2.2 hb.size⟩
  | 7, _, _, _, h, _ => h
  | 8, _, _, _, h, _ => h
  | 9, _, _, _, h, _ => h
  | 10, _, _, _, h, _ => h
  | 11, v, w, w', h_, hb => by
    obtain ⟨A, c, h1, h2, h3⟩ := h_; exact ⟨A, c, h1, h2.keep hb, h3⟩
  | 12, v, w, w', h_, hb => by
    obtain ⟨A, c, h1, h2, h3⟩ := h_; exact ⟨A, c, h1, h2.keep hb, h3.keep hb⟩
  | _ + 13, _, _, _, _, _ => trivial
def rfG_mu (i : Nat) : Bool := i == 11
def rfG_st (i : Nat) : Bool := !(i == 6 || i == 11 || i == 12)
theorem rfG_steady (B o L cL k m : Nat) (A2 : Option Addr) (c2 : Nat) (F : Nat → Nat) (s : ByteArray) (base : Nat) : ∀ i v w w', rfG_st i = true → rfG B o L cL k m A2 c2 F s base i v w → rfG B o L cL k m A2 c2 F s base i v w'
  | 0, _, _, _, _, h => h
  | 1, _, _, _, _, h => h
  | 2, _, _, _, _, h => h
  | 3, _, _, _, _, h => h
  | 4, _, _, _, _, h => h
  | 5, _, _, _, _, h => h
  | 6, _, _, _, h, _ => absurd h (by decide)
  | 7, _, _, _, _, h => h
  | 8, _, _, _, _, h => h
  | 9, _, _, _, _, h => h
  | 10, _, _, _, _, h => h
  | 11, _, _, _, h, _ => absurd h (by decide)
  | 12, _, _, _, h, _ => absurd h (by decide)
  | _ + 13, _, _, _, _, _ => trivial
--END DEFS rf
def rfG_kp (i : Nat) : Bool := i == 12
set_option maxRecDepth 100000 in
set_option maxHeartbeats 1600000 in
theorem rfold_own (A : Option Addr) (n c : Nat) (key : Nat → Nat) (AL : Option Addr) (L cL : Nat) (s : Nat → ByteArray) (w0 : World) (hn : n ≤ 1000000000000) (hA : SlB w0 A n key) (hnil : A = none → n = 0 ∧ c = 0) (hL : L ≤ 1000000) (hS : SlS w0 AL L s) (hsz : ∀ j, j < L → (s j).size ≤ 900000000000) :
    Calls Tryd.prog 22 #[.slice A n c, .slice AL L cL] w0 fun e w' => (∃ A' c', e = .returned (.slice A' (fkN n L) c') ∧ SlB w' A' (fkN n L) (fkF n key s L) ∧ OwnB w' w0.heap.size (.slice A' (fkN n L) c') (fkN n L) (fkF n key s L)) ∧ Below w0.heap.size w0 w' := by
  have HA := Lib.hid (hA.keep (alloc_below w0 (.cells #[] 5)))
  have HKB := Lib.hid (show By n key from fun j hj => hA.byte hj)
  have HNI := Lib.hid hnil
  have HN := Lib.hid hn
  have HS := Lib.hid hS
  have HSZ := Lib.hid hsz
  have HE := Lib.hid (OwnB.empty w0 w0.heap.size key (Nat.le_refl _))
  have HB0 := Lib.hid (alloc_below w0 (.cells #[] 5))
  clear hn hA hnil hS hsz
  go_enter Tryd.func22, Tryd.ntmps22
  go_wp2_with (refine wpList_appO rfl (.tmp 7) (.tmp 8) rfl w0.heap.size _ 0 key rfl HE.out A n c key rfl HA.out HNI.out (by have := HN.out; omega) HB0.out.size (fun j hj => absurd hj (Nat.not_lt_zero j)) HKB.out ?_; intro A1 c1 w1 h1 h2 h3 h4; rw [Nat.zero_add] at h1 h2 h3 ⊢; have HS1 := Lib.hid (SlB.congr (f' := key) h2 fun j _ => rfl); have HN1 := Lib.hid h3.2.2; have HB1 := Lib.hid (HB0.out.trans h4); have HO1 := Lib.hid (OwnB.congr (g := key) h1 fun j _ => rfl); clear h1 h2 h3 h4)
  go_loopw [5, 6] (fun v i wr => ∃ (k : Nat) (A2 : Option Addr) (c2 : Nat), k ≤ L ∧ i = .int .i64 k ∧ v = .slice A2 (fkN n k) c2 ∧ SlB wr A2 (fkN n k) (fkF n key s k) ∧ OwnB wr w0.heap.size (.slice A2 (fkN n k) c2) (fkN n k) (fkF n key s k) ∧ (A2 = none → fkN n k = 0 ∧ c2 = 0) ∧ Below w0.heap.size w0 wr) (fun _ i _ => L - (intOf i).toNat)
  case atStart => exact ⟨0, A1, c1, Nat.zero_le _, rfl, rfl, HS1.out, HO1.out, HN1.out, HB1.out⟩
  case round =>
    obtain ⟨k, A2, c2, hk, rfl, rfl, h1, h0, h2, h3⟩ := hrel
    have G1 := Lib.hid h1
    have GO := Lib.hid h0
    have HNA := Lib.hid h2
    have G3 := Lib.hid h3
    have HMM := Lib.hid (fkN_le (n := n) HN.out (by decide) k)
    clear h1 h0 h2 h3
    by_cases hlt : k < L
    · obtain ⟨B, o, rfl, hB, hsa⟩ := HS.out (by omega)
      have HCE := Lib.hid (show ∀ w', Below wr.heap.size wr w' → w'.cell? ⟨B, o + k, none⟩ = some (.string (s k)) from fun w' hb => (hsa.keep (G3.out.trans (hb.mono G3.out.size))) k hlt)
      have HAK := Lib.hid (show ∀ w', Below wr.heap.size wr w' → SlB w' A2 (fkN n k) (fkF n key s k) from fun w' hb => G1.out.keep hb)
      have HSS2 := Lib.hid (HSZ.out k hlt)
      have HSS := Lib.hid (Nat.le_trans HSS2.out (show 900000000000 ≤ 140737488351232 by decide))
      have HNX := Lib.hid (show fkF n key s (k + 1) = tag (fkN n k) (fkF n key s k) (8 + (s k).size) (catB 8 (len8 (s k).size) (by_ (s k))) from rfl)
      have HN1 := Lib.hid (show fkN n (k + 1) = 32 from rfl)
      have hlti : (k : Int) < L := by omega
      have hk5 : k < L := hlt
      clear hsa hB
      obtain ⟨x, hx⟩ : ∃ x, s k = x := ⟨_, rfl⟩
      obtain ⟨m, hm⟩ : ∃ m, fkN n k = m := ⟨_, rfl⟩
      obtain ⟨F, hF⟩ : ∃ F, fkF n key s k = F := ⟨_, rfl⟩
      rw [hx, hm, hF] at HNX
      rw [hx] at HCE HSS HSS2
      rw [hm] at HMM HNA
      rw [hm, hF] at HAK
      rw [hm]
      clear G1 GO hx hm hF
      go_wp2_with fail
      refine ord.wp_region_ordK 13 [[], [], [], [1, 2], [3], [4], [5], [], [], [7, 8], [9], [6, 10], [0, 11]] [(0, 16), (1, 17), (2, 18), (3, 19), (4, 20), (5, 21), (6, 22), (7, 23), (8, 24), (9, 25), (10, 26), (11, 27), (12, 28)] (rfG B o L cL k m A2 c2 F x wr.heap.size) rfG_mu rfG_st rfG_kp (by kernel_rfl) (by kernel_rfl) (by kernel_rfl) (by kernel_rfl) (rfG_stays _ _ _ _ _ _ _ _ _ _ _) (fun i v w0 w' h1 h2 _ => rfG_steady _ _ _ _ _ _ _ _ _ _ _ i v w0 w' h1 h2) ((ord.steps_cons ?_ (ord.steps_cons ?_ (ord.steps_cons ?_ (ord.steps_cons ?_ (ord.steps_cons ?_ (ord.steps_cons ?_ (ord.steps_cons ?_ (ord.steps_cons ?_ (ord.steps_cons ?_ (ord.steps_cons ?_ (ord.steps_cons ?_ (ord.steps_cons ?_ (ord.steps_cons ?_ ord.steps_nil)))))))))))))) ?_
      --STEPS rf
      · intro oo ho y w hb hG
        obtain rfl := Option.some.inj ho
        clear ho
        refine Or.inl ⟨ord.want0 rfl, ?_⟩
        exact ord.makes_move rfl ⟨Below.refl _ _, rfl⟩
      · intro oo ho y w hb hG
        obtain rfl := Option.some.inj ho
        clear ho
        refine Or.inl ⟨ord.want0 rfl, ?_⟩
        exact ord.makes_move rfl ⟨Below.refl _ _, rfl⟩
      · intro oo ho y w hb hG
        obtain rfl := Option.some.inj ho
        clear ho
        refine Or.inl ⟨ord.want0 rfl, ?_⟩
        exact ord.makes_move rfl ⟨Below.refl _ _, rfl⟩
      · intro oo ho y w hb hG
        obtain rfl := Option.some.inj ho
        clear ho
        have h17 : y 1 = .slice (some ⟨B, o, none⟩) L cL := hG (1, 17) (List.mem_of_getElem? (i := 1) rfl) rfl
        have h18 : y 2 = .int .i64 (k : Nat) := hG (2, 18) (List.mem_of_getElem? (i := 2) rfl) rfl
        refine Or.inl ⟨ord.want0 rfl, ?_⟩
        exact ord.makes_indexAddr rfl h17 h18 (run_idxS B o L cL k hk5 w) ⟨Below.refl _ _, rfl⟩
      · intro oo ho y w hb hG
        obtain rfl := Option.some.inj ho
        clear ho
        have h19 : y 3 = .pointer (some ⟨B, o + k, none⟩) := hG (3, 19) (List.mem_of_getElem? (i := 3) rfl) rfl
        refine Or.inl ⟨ord.want0 rfl, ?_⟩
        exact ord.makes_load rfl h19 (run_loadS _ _ w (HCE.out w (of_drew hb))) ⟨Below.refl _ _, rfl⟩
      · intro oo ho y w hb hG
        obtain rfl := Option.some.inj ho
        clear ho
        have h20 : y 4 = .string x := hG (4, 20) (List.mem_of_getElem? (i := 4) rfl) rfl
        refine Or.inl ⟨ord.want0 rfl, ?_⟩
        exact ord.makes_len rfl rfl h20 (run_lenS x w) ⟨Below.refl _ _, rfl⟩
      · intro oo ho y w hb hG
        obtain rfl := Option.some.inj ho
        clear ho
        have h21 : y 5 = .int .i64 (x.size : Nat) := hG (5, 21) (List.mem_of_getElem? (i := 5) rfl) rfl
        refine Or.inl ⟨ord.want0 rfl, ?_⟩
        exact ord.makes_call1 Tryd.func30 (by kernel_rfl) (by kernel_rfl) rfl h21 (eight_any x.size w (Nat.le_trans HSS.out (by decide))) (fun e w' h => by obtain ⟨A, c, he, h2, h4⟩ := h; exact ⟨_, he, h4, ⟨A, c, rfl⟩, h2.less (of_drew hb).size, Nat.le_trans (of_drew hb).size h4.size⟩)
      · intro oo ho y w hb hG
        obtain rfl := Option.some.inj ho
        clear ho
        refine Or.inl ⟨ord.want0 rfl, ?_⟩
        exact ord.makes_move rfl ⟨Below.refl _ _, rfl⟩
      · intro oo ho y w hb hG
        obtain rfl := Option.some.inj ho
        clear ho
        refine Or.inl ⟨ord.want0 rfl, ?_⟩
        exact ord.makes_move rfl ⟨Below.refl _ _, rfl⟩
      · intro oo ho y w hb hG
        obtain rfl := Option.some.inj ho
        clear ho
        have h23 : y 7 = .slice (some ⟨B, o, none⟩) L cL := hG (7, 23) (List.mem_of_getElem? (i := 7) rfl) rfl
        have h24 : y 8 = .int .i64 (k : Nat) := hG (8, 24) (List.mem_of_getElem? (i := 8) rfl) rfl
        refine Or.inl ⟨ord.want0 rfl, ?_⟩
        exact ord.makes_indexAddr rfl h23 h24 (run_idxS B o L cL k hk5 w) ⟨Below.refl _ _, rfl⟩
      · intro oo ho y w hb hG
        obtain rfl := Option.some.inj ho
        clear ho
        have h25 : y 9 = .pointer (some ⟨B, o + k, none⟩) := hG (9, 25) (List.mem_of_getElem? (i := 9) rfl) rfl
        refine Or.inl ⟨ord.want0 rfl, ?_⟩
        exact ord.makes_load rfl h25 (run_loadS _ _ w (HCE.out w (of_drew hb))) ⟨Below.refl _ _, rfl⟩
      · intro oo ho y w hb hG
        obtain rfl := Option.some.inj ho
        clear ho
        have h22 : rfG B o L cL k m A2 c2 F x wr.heap.size 6 (y 6) w := hG (6, 22) (List.mem_of_getElem? (i := 6) rfl) rfl
        have h26 : y 10 = .string x := hG (10, 26) (List.mem_of_getElem? (i := 10) rfl) rfl
        refine Or.inl ⟨ord.want0 rfl, ?_⟩
        obtain ⟨⟨A0, c0, hv⟩, ho, hbs⟩ := h22
        obtain ⟨A1, c1, w1, hr, h1, h2, h3⟩ := run_appS w wr.heap.size _ 8 (len8 x.size) ho x (by have := HSS2.out; omega) hbs (fun j _ => len8_lt _ j)
        exact ord.makes_append2 rfl rfl rfl h26 hr ⟨h3, A1, c1, rfl, h1, h2⟩
      · intro oo ho y w hb hG
        obtain rfl := Option.some.inj ho
        clear ho
        have h16 : y 0 = .slice A2 m c2 := hG (0, 16) (List.mem_of_getElem? (i := 0) rfl) rfl
        have h27 : rfG B o L cL k m A2 c2 F x wr.heap.size 11 (y 11) w := hG (11, 27) (List.mem_of_getElem? (i := 11) rfl) rfl
        refine Or.inl ⟨ord.want0 rfl, ?_⟩
        obtain ⟨A1, c1, hv, hs, hn1⟩ := h27
        exact ord.makes_call2 Tryd.func29 (by kernel_rfl) (by kernel_rfl) rfl h16 hv (rmac_any A2 A1 m c2 (8 + x.size) c1 F _ w HMM.out (by have := HSS2.out; omega) (HAK.out w (of_drew hb)) HNA.out hs hn1) (fun e w' h => by obtain ⟨⟨A3, c3, he, h2, h5⟩, h4⟩ := h; exact ⟨_, he, h4, A3, c3, rfl, h2, h5.less (of_drew hb).size⟩)
      --END STEPS rf
      · intro y w5 hb hG
        have e28 : rfG B o L cL k m A2 c2 F x wr.heap.size 12 (y 12) w5 := hG (12, 28) (List.mem_of_getElem? (i := 12) rfl) (Or.inr rfl)
        clear hG
        obtain ⟨A5, c5, hy, hs5, ho5⟩ := e28
        have HO5 := Lib.hid (ho5.less G3.out.size)
        have HS5 := Lib.hid hs5
        have HB5 := Lib.hid (G3.out.trans (hb.mono G3.out.size))
        have HNE := Lib.hid (show A5 = none → 32 = 0 ∧ c5 = 0 from fun e => by
          obtain ⟨B9, o9, e9, _⟩ := hs5 (by decide)
          rw [e] at e9; cases e9)
        clear hb hs5 ho5
        simp only [ord.puts, ord.put', List.set_cons_zero, List.set_cons_succ, if_true]
        rw [hy]
        simp only [List.drop_succ_cons, List.drop_zero]
        go_wp2_with fail
        go_roundw
        case rel => exact ⟨k + 1, A5, c5, by omega, by go_num, by rw [HN1.out], by rw [HN1.out, HNX.out]; exact HS5.out, by rw [HN1.out, HNX.out]; exact HO5.out, by rw [HN1.out]; exact HNE.out, HB5.out⟩
        case measure => simp [intOf]; omega
    · obtain rfl : k = L := by omega
      go_wp2_with fail
      go_ret
      exact ⟨⟨A2, c2, rfl, G1.out, GO.out⟩, G3.out⟩
theorem rfold_any (A : Option Addr) (n c : Nat) (key : Nat → Nat) (AL : Option Addr) (L cL : Nat) (s : Nat → ByteArray) (w0 : World) (hn : n ≤ 1000000000000) (hA : SlB w0 A n key) (hnil : A = none → n = 0 ∧ c = 0) (hL : L ≤ 1000000) (hS : SlS w0 AL L s) (hsz : ∀ j, j < L → (s j).size ≤ 900000000000) :
    Calls Tryd.prog 22 #[.slice A n c, .slice AL L cL] w0 fun e w' => (∃ A' c', e = .returned (.slice A' (fkN n L) c') ∧ SlB w' A' (fkN n L) (fkF n key s L)) ∧ Below w0.heap.size w0 w' :=
  (rfold_own A n c key AL L cL s w0 hn hA hnil hL hS hsz).mono fun _ _ ⟨⟨A', c', he, h, _⟩, hb⟩ => ⟨⟨A', c', he, h⟩, hb⟩
end Go.Proofs.YtengejmkpkacgaaDoor
/- The reference of layer 13: Key. -/
namespace Go.Proofs.YtengejmkpkacgaaDoor
set_option maxRecDepth 100000
open Go.RowKit
def lab5 (a b c d e : ByteArray) (j : Nat) : ByteArray := if j = 0 then a else if j = 1 then b else if j = 2 then c else if j = 3 then d else e
theorem lab5_key (n : Nat) (key : Nat → Nat) (t : Nat) (s : ByteArray) (v : Nat) : fkF n key (lab5 bTenant (itoaB t) s bVersion (itoaB v)) 5 = keyF n key t s v := by
  unfold keyF ownF
  simp only [fkF, fkN, lab5, lab2, lab3, if_true, if_neg (show ¬ (1 : Nat) = 0 by decide), if_neg (show ¬ (2 : Nat) = 0 by decide), if_neg (show ¬ (3 : Nat) = 0 by decide), if_neg (show ¬ (4 : Nat) = 0 by decide), if_neg (show ¬ (2 : Nat) = 1 by decide), if_neg (show ¬ (3 : Nat) = 1 by decide), if_neg (show ¬ (4 : Nat) = 1 by decide), if_neg (show ¬ (3 : Nat) = 2 by decide), if_neg (show ¬ (4 : Nat) = 2 by decide), if_neg (show ¬ (4 : Nat) = 3 by decide)]
theorem lab5_size {a b c d e : ByteArray} {K : Nat} (ha : a.size ≤ K) (hb : b.size ≤ K) (hc : c.size ≤ K) (hd : d.size ≤ K) (he : e.size ≤ K) (j : Nat) : (lab5 a b c d e j).size ≤ K := by
  unfold lab5
  split
  · exact ha
  · split
    · exact hb
    · split
      · exact hc
      · split
        · exact hd
        · exact he
/-- the labels that lie in a row of five -/
theorem sls5 (w : World) (a b c d e : ByteArray) : SlS (w.alloc (.cells #[.string a, .string b, .string c, .string d, .string e] 9)) (some ⟨w.heap.size, 0, none⟩) 5 (lab5 a b c d e) := fun _ =>
  ⟨w.heap.size, 0, rfl, by simp, fun j hj => by
    rcases (show j = 0 ∨ j = 1 ∨ j = 2 ∨ j = 3 ∨ j = 4 by omega) with rfl | rfl | rfl | rfl | rfl
    · exact (World.cell?_alloc_at _ _ _ _ rfl).trans rfl
    · exact (World.cell?_alloc_at _ _ _ _ rfl).trans rfl
    · exact (World.cell?_alloc_at _ _ _ _ rfl).trans rfl
    · exact (World.cell?_alloc_at _ _ _ _ rfl).trans rfl
    · exact (World.cell?_alloc_at _ _ _ _ rfl).trans rfl⟩
/-- what the document's Key leaves -/
def RKeyP (w : World) (n : Nat) (key : Nat → Nat) (t p v : Int) (e : Ending) (w' : World) : Prop :=
  (∃ A c2 g, e = .returned (.tuple #[.slice A (kN (kok t p v)) c2, .int .i64 (kE (kok t p v))]) ∧ Mine w' w.heap.size (.slice A (kN (kok t p v)) c2) (kN (kok t p v)) (keyF n key t.toNat (nmS p) v.toNat) A c2 g) ∧ Below w.heap.size w w'
set_option maxHeartbeats 1600000 in
theorem rkey_bad (A : Option Addr) (n c : Nat) (t p v : Int) (key : Nat → Nat) (w : World) (hk : kok t p v = false) :
    Calls Tryd.prog 16 #[.slice A n c, .int .i64 t, .int .i64 p, .int .i64 v] w (RKeyP w n key t p v) := by
  have H := Lib.hid (show RKeyP w n key t p v (.returned (.tuple #[.slice none 0 0, .int .i64 1])) w by
    unfold RKeyP
    rw [hk]
    exact ⟨⟨none, 0, 0, rfl, Mine.none0 _ _ _ _⟩, Below.refl _ _⟩)
  have HN := Lib.hid (rname13_any p w)
  by_cases h1 : t < 1
  · clear hk
    go_enter Tryd.func16, Tryd.ntmps16
    go_wp2_with (go_at_call 14; refine HN.out.mono ?_; rintro e w1 ⟨rfl, rfl⟩)
    go_ret2
    exact H.out
  by_cases h2 : 64 < t
  · clear hk
    go_enter Tryd.func16, Tryd.ntmps16
    go_wp2_with (go_at_call 14; refine HN.out.mono ?_; rintro e w1 ⟨rfl, rfl⟩)
    go_ret2
    exact H.out
  cases hb : nmB p with
  | false =>
    rw [hb] at HN
    clear hk hb
    go_enter Tryd.func16, Tryd.ntmps16
    go_wp2_with (go_at_call 14; refine HN.out.mono ?_; rintro e w1 ⟨rfl, rfl⟩)
    go_ret2
    exact H.out
  | true =>
    rw [hb] at HN
    have hp : 1 ≤ p ∧ p ≤ 4 := of_decide_eq_true hb
    clear hb
    by_cases h3 : v < 1
    · clear hk
      go_enter Tryd.func16, Tryd.ntmps16
      go_wp2_with (go_at_call 14; refine HN.out.mono ?_; rintro e w1 ⟨rfl, rfl⟩)
      go_ret2
      exact H.out
    · have h4 : 255 < v := by
        unfold kok at hk
        have := of_decide_eq_false hk
        omega
      clear hk hp
      go_enter Tryd.func16, Tryd.ntmps16
      go_wp2_with (go_at_call 14; refine HN.out.mono ?_; rintro e w1 ⟨rfl, rfl⟩)
      go_ret2
      exact H.out
set_option maxHeartbeats 1600000 in
theorem rkey_good (A : Option Addr) (n c : Nat) (t p v : Int) (key : Nat → Nat) (w : World) (hn : n ≤ 64) (hA : SlB w A n key) (hnil : A = none → n = 0 ∧ c = 0) (hk : kok t p v = true) :
    Calls Tryd.prog 16 #[.slice A n c, .int .i64 t, .int .i64 p, .int .i64 v] w (RKeyP w n key t p v) := by
  have hk' := hk
  unfold kok at hk'
  have ⟨⟨t1, t2⟩, ⟨p1, p2⟩, v1, v2⟩ := of_decide_eq_true hk'
  clear hk'
  obtain ⟨k, rfl⟩ : ∃ k : Nat, t = (k : Int) := ⟨t.toNat, by omega⟩
  obtain ⟨m, rfl⟩ : ∃ m : Nat, v = (m : Int) := ⟨v.toNat, by omega⟩
  have HN := Lib.hid (rname13_any p w)
  rw [show nmB p = true from decide_eq_true ⟨p1, p2⟩] at HN
  have hm : m < 256 := by omega
  have hkk : k < 256 := by omega
  have d1 : ¬ (k : Int) < 1 := by omega
  have d2 : ¬ 64 < (k : Int) := by omega
  have d3 : ¬ (m : Int) < 1 := by omega
  have d4 : ¬ 255 < (m : Int) := by omega
  have HT1 := Lib.hid (fun W => rtext13_any (v := (k : Int)) (by omega) (by omega) W)
  have HT2 := Lib.hid (fun W => rtext13_any (v := (m : Int)) (by omega) (by omega) W)
  have HI1 := Lib.hid (itoaB_small k hkk)
  have HI2 := Lib.hid (itoaB_small m hm)
  have HNS := Lib.hid (nmS_size p)
  have HA := Lib.hid hA
  have HNI := Lib.hid hnil
  have HNL := Lib.hid hn
  have HRET := Lib.hid (show ∀ A c2 g w', Mine w' w.heap.size (.slice A 32 c2) 32 (fkF n key (lab5 bTenant (itoaB (k : Int)) (nmS p) bVersion (itoaB (m : Int))) 5) A c2 g → Below w.heap.size w w' → RKeyP w n key (k : Int) p (m : Int) (.returned (.tuple #[.slice A 32 c2, .int .i64 0])) w' from fun A c2 g w' h1 h2 => by
    unfold RKeyP
    rw [hk]
    refine ⟨⟨A, c2, g, rfl, ?_⟩, h2⟩
    rw [lab5_key] at h1
    exact h1)
  clear hk t1 t2 p1 p2 v1 v2 hm hkk hA hnil hn
  generalize nmS p = sn at *
  go_enter Tryd.func16, Tryd.ntmps16
  go_wp2_with (go_at_call 14; refine HN.out.mono ?_; rintro e w1 ⟨rfl, rfl⟩)
  refine (HT1.out _).mono ?_
  rintro e w2 ⟨rfl, hb2⟩
  have HB2 := Lib.hid hb2
  clear hb2
  go_wp2_with fail
  refine (HT2.out _).mono ?_
  rintro e w3 ⟨rfl, hb3⟩
  have HB3 := Lib.hid (HB2.out.trans (hb3.mono HB2.out.size))
  clear hb3
  go_wp2_with fail
  have hsls := sls5 w3 bTenant (itoaB (k : Int)) sn bVersion (itoaB (m : Int))
  have HB4 := Lib.hid (HB3.out.trans ((alloc_below w3 (.cells #[.string bTenant, .string (itoaB (k : Int)), .string sn, .string bVersion, .string (itoaB (m : Int))] 9)).mono HB3.out.size))
  generalize hA3 : some (⟨w3.heap.size, 0, none⟩ : Addr) = A3 at *
  generalize w3.alloc (.cells #[.string bTenant, .string (itoaB (k : Int)), .string sn, .string bVersion, .string (itoaB (m : Int))] 9) = w4 at *
  refine (rfold_own A n c key A3 5 5 (lab5 bTenant (itoaB (k : Int)) sn bVersion (itoaB (m : Int))) w4 (by have := HNL.out; omega) (HA.out.keep HB4.out) HNI.out (by decide) hsls
    (fun j _ => Nat.le_trans (lab5_size (K := 7) (by decide) (Nat.le_trans HI1.out (by decide)) (Nat.le_trans HNS.out (by decide)) (by decide) (Nat.le_trans HI2.out (by decide)) j) (by decide))).mono ?_
  rintro e w5 ⟨⟨A5', c5', rfl, _, h5⟩, hb5⟩
  obtain ⟨A5, c5, g5, hm5⟩ := Mine.of_ownB h5 (fun j _ => tag_lt _ _ _ _ j)
  have hv5 := hm5.val
  injection hv5 with e1 _ e3
  subst e1 e3
  have H5 := Lib.hid (hm5.less HB4.out.size)
  have HB5 := Lib.hid (HB4.out.trans (hb5.mono HB4.out.size))
  clear h5 hm5 hb5 hsls
  go_wp2_with fail
  go_ret2
  exact HRET.out _ _ _ _ H5.out HB5.out
theorem rkey_any (A : Option Addr) (n c : Nat) (t p v : Int) (key : Nat → Nat) (w : World) (hn : n ≤ 64) (hA : SlB w A n key) (hnil : A = none → n = 0 ∧ c = 0) :
    Calls Tryd.prog 16 #[.slice A n c, .int .i64 t, .int .i64 p, .int .i64 v] w (RKeyP w n key t p v) := by
  cases hk : kok t p v with
  | false => exact rkey_bad A n c t p v key w hk
  | true => exact rkey_good A n c t p v key w hn hA hnil hk
end Go.Proofs.YtengejmkpkacgaaDoor
namespace Go.Proofs.YtengejmkpkacgaaDoor
open Go.RowKit

theorem splice_full (n : Nat) (bs : Nat → Nat) : splice (List.replicate (n + 1) (Value.int .u8 0)) 0 (bytesL n bs) = bytesL (n + 1) (fun j => if j < n then bs j else 0) := by
  unfold splice bytesL
  rw [List.take_zero, List.nil_append, List.range_succ, List.map_append]
  congr 1
  · apply List.map_congr_left
    intro j hj
    show _ = Value.int .u8 ((if j < n then bs j else 0 : Nat) : Int)
    rw [if_pos (List.mem_range.1 hj)]
  · rw [List.length_map, List.length_range, Nat.zero_add, List.drop_replicate, show n + 1 - n = 1 by omega]
    simp
theorem row_of_bytesL {w : World} {g n : Nat} {f : Nat → Nat} (h : w.heap[g]? = some (.cells (bytesL n f).toArray 5 (0, 0))) : w.rowIs g 5 n (fun j => .int .u8 (f j : Nat)) := by
  refine ⟨_, h, by simp [bytesL], fun i hi => ?_⟩
  rw [List.getElem?_toArray]
  unfold bytesL
  rw [List.getElem?_map, List.getElem?_range hi]; rfl

set_option maxHeartbeats 800000 in
theorem lent_any (A : Option Addr) (len cap : Nat) (bs : Nat → Nat) (w : World) (hl : len ≤ 140737488351232) (hA : SlB w A len bs) :
    Calls Tryd.prog 8 #[.slice A len cap] w fun e w' => ∃ g, e = .returned (.slice (some ⟨g, 0, none⟩) len (len + 1)) ∧ w.heap.size ≤ g ∧
      w'.rowIs g 5 (len + 1) (fun j => .int .u8 (if j < len then bs j else 77 : Nat)) ∧ Below w.heap.size w w' := by
  obtain ⟨i, hi, hz, hsz, hb⟩ := info_parts info8
  have hmk : ∀ W : World, (Instr.makeSlice 22 (.int .i64 (len : Int)) (.int .i64 ((len : Int) + 1))).run Tryd.prog W = .ok (.slice (some ⟨W.heap.size, 0, none⟩) len (len + 1)) (W.alloc (.cells (madeCells #[.int .u8 0] (len + 1)) 5)) := fun W => by
    have := run_make (P := Tryd.prog) W 22 5 i (.int .u8 0) Tryd.underlying22 hi hz .i64 .i64 (len : Int) ((len : Int) + 1) (by omega) (by omega) (by rw [hb]; omega) (by omega)
    rw [this, hsz, Int.toNat_natCast, show ((len : Int) + 1).toNat = len + 1 by omega, Nat.mul_one]
    rfl
  have HA := Lib.hid hA
  clear hA hi hz hsz hb
  have HX := Lib.hid (SlB.keep HA.out ((Below.refl _ _).alloc (Nat.le_refl _) (.cells (madeCells #[.int .u8 0] (len + 1)) 5)))
  have HB1 := Lib.hid ((Below.refl w.heap.size w).alloc (Nat.le_refl _) (.cells (madeCells #[.int .u8 0] (len + 1)) 5))
  have HG := Lib.hid (show (w.alloc (.cells (madeCells #[.int .u8 0] (len + 1)) 5)).heap[w.heap.size]? = some (.cells (List.replicate (len + 1) (Value.int .u8 0)).toArray 5 (0, 0)) by
    rw [heap_alloc_new]
    congr 2
    apply Array.ext'
    rw [toList_madeCells_one])
  have hlen : (bytesL len bs).length = Nat.min len len := by simp [bytesL]
  have hfit : 0 + (bytesL len bs).length ≤ (List.replicate (len + 1) (Value.int .u8 0)).length := by simp [bytesL]
  have hone : ∀ v ∈ bytesL len bs, v.oneCell' = true := by
    intro u hu
    obtain ⟨j, hj⟩ := List.getElem?_of_mem hu
    obtain ⟨_, rfl⟩ := bytesL_get _ _ j u hj
    rfl
  have HPOS := Lib.hid (show 0 < (bytesL len bs).length → (some (⟨w.heap.size, 0, none⟩ : Addr)) = some ⟨w.heap.size, 0, none⟩ ∧ ∃ ad, A = some ad ∧ ∀ j v, (bytesL len bs)[j]? = some v → (w.alloc (.cells (madeCells #[.int .u8 0] (len + 1)) 5)).cell? (ad.add j) = some v from fun h => by
    have h0 : 0 < len := by simpa [bytesL] using h
    obtain ⟨B, o, hA, _, hc⟩ := HX.out h0
    refine ⟨rfl, _, hA, fun j v hj => ?_⟩
    obtain ⟨hjl, rfl⟩ := bytesL_get _ _ j v hj
    rw [Go.WideShapes.add_plain]
    exact (hc j hjl).2)
  have hsz1 : (Tryd.prog.info? 5).map (·.size) = some 1 := by kernel_rfl
  have HL := Lib.hid hlen
  have HF := Lib.hid hfit
  have HO := Lib.hid hone
  have HS := Lib.hid hsz1
  clear hlen hfit hone hsz1
  go_enter Tryd.func8, Tryd.ntmps8
  go_wp2_with (((refine wpList_copy_splice rfl (.tmp 10) (.tmp 11) 22 22 rfl 5 Tryd.underlying22 HS.out (some ⟨w.heap.size, 0, none⟩) A len (len + 1) len cap rfl rfl w.heap.size 0 _ 5 HG.out (bytesL len bs) HL.out HPOS.out HF.out HO.out w.heap.size w HB1.out (Nat.le_refl _) ?_); intro w2 HR hb2; rw [splice_full] at HR; have HR2 := Lib.hid (row_of_bytesL HR.out); have HB2 := Lib.hid hb2; have hc := HR2.out.cell (i := len) (Nat.lt_succ_self len); rw [if_neg (Nat.lt_irrefl len)] at hc; have hf := HR2.out.frozen len; clear HR hb2))
  go_ret
  exact ⟨w.heap.size, rfl, Nat.le_refl _, (HR2.out.set len (.int .u8 77)).congr fun j hj => by
    by_cases e : j = len
    · rw [if_pos e, if_neg (by omega)]; rfl
    · rw [if_neg e, if_pos (by omega), if_pos (by omega)], HB2.out.setCell (Nat.le_refl _) _⟩

set_option maxHeartbeats 800000 in
theorem kept_any (g : Nat) (A : Option Addr) (len cap : Nat) (bs : Nat → Nat) (w : World) (hl : len ≤ 140737488351232) (hA : SlB w A len bs)
    (hr : w.rowIs g 5 (len + 1) (fun j => .int .u8 (if j < len then bs j else 77 : Nat))) :
    Calls Tryd.prog 10 #[.slice (some ⟨g, 0, none⟩) len (len + 1), .slice A len cap] w fun e w' => e = .returned (.bool true) ∧ w = w' := by
  have hcv1 := convRowX (cap := len + 1) ((RowX.of_rowIs hr).less (Nat.le_succ len)) bs (Nat.le_refl _) (fun i hi => by rw [if_pos hi])
  have hcv2 := convSl (cap := cap) hA (Nat.le_refl len)
  have hc := hr.cell (i := len) (Nat.lt_succ_self len)
  rw [if_neg (Nat.lt_irrefl len)] at hc
  clear hr hA
  generalize strOf len bs = y at *
  go_enter Tryd.func10, Tryd.ntmps10
  go_wp2_with fail
  go_ret
  exact ⟨rfl, rfl⟩
end Go.Proofs.YtengejmkpkacgaaDoor
/- What Lent leaves, as bytes. -/
namespace Go.Proofs.YtengejmkpkacgaaDoor
open Go.RowKit
/-- what Lent leaves, as bytes -/
theorem lent_slB {w : World} {g n : Nat} {f : Nat → Nat} (h : w.rowIs g 5 (n + 1) (fun j => .int .u8 (if j < n then f j else 77 : Nat))) (hf : By n f) : SlB w (some ⟨g, 0, none⟩) n f :=
  SlB.of_rowX ((RowX.of_rowIs h).less (Nat.le_succ n)) fun j hj => ⟨hf j hj, by rw [if_pos hj]⟩
theorem lent_arr {w : World} {g len : Nat} {b : Nat → Nat} (h : w.rowIs g 5 (len + 1) (fun j => .int .u8 (if j < len then b j else 77 : Nat))) : Arr w g 0 (len + 1) (fun j => if j < len then b j else 77) :=
  RowX.arr (RowX.of_rowIs h)
end Go.Proofs.YtengejmkpkacgaaDoor
/- Slices of a call's own, kept over changes elsewhere. -/
namespace Go.Proofs.YtengejmkpkacgaaDoor
open Go.RowKit
theorem Mine.chg {w w' : World} {base n K : Nat} {v : Value} {f : Nat → Nat} {A : Option Addr} {c g : Nat} (h : Mine w base v n f A c g) (hc : Chg K w w') (hK : K < base) : Mine w' base v n f A c g :=
  ⟨h.val, fun hn => by
    have hc0 : 0 < c := Nat.lt_of_lt_of_le hn h.le
    obtain ⟨B, o, e, hB, hh⟩ := h.row hn
    have e2 := (h.own hc0).1
    rw [e] at e2
    injection e2 with e2
    injection e2 with e3 _ _
    have := h.from_ hc0
    exact ⟨B, o, e, Nat.lt_of_lt_of_le hB hc.size, fun j hj => ⟨(hh j hj).1, (hc.cell hB (by omega)).trans (hh j hj).2⟩⟩,
    fun hc0 => (h.own.chg hc (by have := h.from_ hc0; omega)) hc0, h.from_, h.le, h.max, h.nil⟩
theorem Mine.chgS {w w' : World} {base n : Nat} {v : Value} {f : Nat → Nat} {A : Option Addr} {c g : Nat} {S : Nat → Prop} (h : Mine w base v n f A c g) (hc : ChgS S w w') (hK : 0 < c → ¬ S g) : Mine w' base v n f A c g :=
  ⟨h.val, fun hn => by
    have hc0 : 0 < c := Nat.lt_of_lt_of_le hn h.le
    obtain ⟨B, o, e, hB, hh⟩ := h.row hn
    have e2 := (h.own hc0).1
    rw [e] at e2
    injection e2 with e2
    injection e2 with e3 _ _
    subst e3
    exact ⟨B, o, e, Nat.lt_of_lt_of_le hB hc.size, fun j hj => ⟨(hh j hj).1, (World.cell?_of_block (hc.block B hB (hK hc0))).trans (hh j hj).2⟩⟩,
    fun hc0 => (h.own.of_block (hc.block g (h.own.lt hc0) (hK hc0))) hc0, h.from_, h.le, h.max, h.nil⟩
end Go.Proofs.YtengejmkpkacgaaDoor
/- Law KeysMakes (layer 13). -/
namespace Go.Proofs.YtengejmkpkacgaaDoor
set_option maxRecDepth 100000
open Go.RowKit
set_option maxHeartbeats 1600000 in
theorem makes_bad (A : Option Addr) (n c : Nat) (t p v : Int) (key : Nat → Nat) (w0 : World) (hn : ¬ (16 ≤ n ∧ n ≤ 64)) (hl : n ≤ 140737488351232) (hA : SlB w0 A n key) (ht : GT w0) (hp : P10 w0) :
    Calls Tryd.prog 3 #[.slice A n c, .int .i64 t, .int .i64 p, .int .i64 v] w0 fun e w' => e = .returned (.bool true) ∧ Below w0.heap.size w0 w' := by
  have HS := Lib.hid (small13_any w0 ht hp)
  have HA := Lib.hid hA
  have HF := Lib.hid (show By n key from fun j hj => hA.byte hj)
  have HN := Lib.hid hn
  have HL := Lib.hid hl
  have HNM := Lib.hid (fun W => name_any p W)
  have HRN := Lib.hid (fun W => rname13_any p W)
  clear hA ht hp hn hl
  generalize nmS p = s at *
  generalize nmB p = is at *
  go_enter Tryd.func3, Tryd.ntmps3
  go_wp2_with fail
  refine HS.out.mono ?_
  rintro e w1 ⟨rfl, hb⟩
  have HB1 := Lib.hid hb
  clear hb
  go_wp2_with fail
  refine (lent_any A n c key w1 HL.out (HA.out.keep HB1.out)).mono ?_
  rintro e w2 ⟨gL, rfl, hgL, hrow, hb2⟩
  have HR2 := Lib.hid hrow
  have HGL := Lib.hid (Nat.le_trans HB1.out.size hgL)
  have HB2 := Lib.hid (HB1.out.trans (hb2.mono HB1.out.size))
  clear hrow hgL hb2
  go_wp2_with fail
  refine (knew_bad _ n _ w2 HN.out).mono ?_
  rintro e w3 ⟨rfl, rfl⟩
  go_wp2_with fail
  refine (kept_any gL A n c key w3 HL.out (HA.out.keep HB2.out) HR2.out).mono ?_
  rintro e w4 ⟨rfl, rfl⟩
  go_wp2_with fail
  refine (owned_one w3 gL n (n + 1) _ (lent_arr HR2.out) (by have := HL.out; omega)).mono ?_
  rintro e w5 ⟨rfl, h5⟩
  have HB5 := Lib.hid (HB2.out.trans (h5.below HB2.out.size HGL.out))
  clear h5
  go_wp2_with fail
  refine (rmay_any A n c w5).mono ?_
  rintro e w6 ⟨rfl, rfl⟩
  rw [show decide (16 ≤ n ∧ n ≤ 64) = false from decide_eq_false HN.out]
  go_wp2_with fail
  refine (HNM.out _).mono ?_
  rintro e w7 ⟨rfl, rfl⟩
  go_wp2_with fail
  refine (HRN.out _).mono ?_
  rintro e w8 ⟨rfl, rfl⟩
  go_wp2_with fail
  go_ret
  exact ⟨rfl, HB5.out⟩
set_option maxHeartbeats 3200000 in
theorem makes_good (A : Option Addr) (n c : Nat) (t p v : Int) (key : Nat → Nat) (w0 : World) (hn : 16 ≤ n ∧ n ≤ 64) (hA : SlB w0 A n key) (hnil : A = none → n = 0 ∧ c = 0) (ht : GT w0) (hp : P10 w0) :
    Calls Tryd.prog 3 #[.slice A n c, .int .i64 t, .int .i64 p, .int .i64 v] w0 fun e w' => e = .returned (.bool true) ∧ Below w0.heap.size w0 w' := by
  have HS := Lib.hid (small13_any w0 ht hp)
  have HA := Lib.hid hA
  have HNI := Lib.hid hnil
  have HF := Lib.hid (show By n key from fun j hj => hA.byte hj)
  have HN := Lib.hid hn
  have HG := Lib.hid ht
  have HP := Lib.hid hp
  have HNM := Lib.hid (fun W => name_any p W)
  have HRN := Lib.hid (fun W => rname13_any p W)
  have HKF := Lib.hid (fun j => keyF_lt n key t.toNat (nmS p) v.toNat j)
  have HKEY := Lib.hid (show ∀ G M cc W, RingAt w0 W G M cc n key → Calls Tryd.prog 15 #[.pointer (some ⟨G, 0, none⟩), .int .i64 t, .int .i64 p, .int .i64 v] W (KeyP w0 W G M cc n key t p v) from fun G M cc W h => key_any G M cc n t p v key w0 W h)
  have HRK := Lib.hid (show ∀ W, Below w0.heap.size w0 W → Calls Tryd.prog 16 #[.slice A n c, .int .i64 t, .int .i64 p, .int .i64 v] W (RKeyP W n key t p v) from fun W h => rkey_any A n c t p v key W (by omega) (hA.keep h) hnil)
  unfold KeyP at HKEY
  unfold RKeyP at HRK
  clear hA ht hp hn hnil
  generalize keyF n key t.toNat (nmS p) v.toNat = F at *
  generalize kok t p v = ok at *
  generalize nmS p = s at *
  generalize nmB p = is at *
  generalize kN ok = N at *
  generalize kE ok = E at *
  go_enter Tryd.func3, Tryd.ntmps3
  go_wp2_with fail
  refine HS.out.mono ?_
  rintro e w1 ⟨rfl, hb⟩
  have HB1 := Lib.hid hb
  clear hb
  go_wp2_with fail
  refine (lent_any A n c key w1 (by have := HN.out; omega) (HA.out.keep HB1.out)).mono ?_
  rintro e w2 ⟨gL, rfl, hgL, hrow, hb2⟩
  have HR2 := Lib.hid hrow
  have HGL := Lib.hid (Nat.le_trans HB1.out.size hgL)
  have HB2 := Lib.hid (HB1.out.trans (hb2.mono HB1.out.size))
  clear hrow hgL hb2
  go_wp2_with fail
  refine (knew_good _ n _ key w0 w2 HN.out (lent_slB HR2.out HF.out) (fun h => by cases h) HG.out HP.out HB2.out).mono ?_
  rintro e w3 ⟨G, M, cc, rfl, hG, hM, h3, hb3⟩
  have HGG := Lib.hid (show gL < G from Nat.lt_of_lt_of_le HR2.out.lt hG)
  have HGM := Lib.hid (show gL < M from Nat.lt_of_lt_of_le HR2.out.lt hM)
  have HRG := Lib.hid h3
  have HR3 := Lib.hid (HR2.out.of_block (hb3.block gL HR2.out.lt))
  have HB3 := Lib.hid h3.bel
  clear hG hM h3 hb3 HR2
  go_wp2_with fail
  refine (kept_any gL A n c key w3 (by have := HN.out; omega) (HA.out.keep HB3.out) HR3.out).mono ?_
  rintro e w4 ⟨rfl, rfl⟩
  go_wp2_with fail
  refine (owned_one w3 gL n (n + 1) _ (lent_arr HR3.out) (by have := HN.out; omega)).mono ?_
  rintro e w5 ⟨rfl, h5⟩
  have HRG5 := Lib.hid (HRG.out.chg h5 HGL.out (Nat.ne_of_gt HGG.out) (Nat.ne_of_gt HGM.out))
  clear h5 HRG HR3
  go_wp2_with fail
  refine (rmay_any A n c w5).mono ?_
  rintro e w6 ⟨rfl, rfl⟩
  rw [show decide (16 ≤ n ∧ n ≤ 64) = true from decide_eq_true HN.out]
  go_wp2_with fail
  refine (HNM.out _).mono ?_
  rintro e w7 ⟨rfl, rfl⟩
  go_wp2_with fail
  refine (HRN.out _).mono ?_
  rintro e w8 ⟨rfl, rfl⟩
  go_wp2_with fail
  refine (HKEY.out G M cc _ HRG5.out).mono ?_
  rintro e w9 ⟨⟨A9, c9, g9, rfl, hm9⟩, hr9, hc9⟩
  have HM9 := Lib.hid hm9
  have HRG9 := Lib.hid hr9
  have HGB9 := Lib.hid (show G < w8.heap.size from HRG5.out.lt)
  have HMB9 := Lib.hid (show M < w8.heap.size from HRG5.out.ltM)
  have HUB := Lib.hid (show w0.heap.size ≤ w8.heap.size from HRG5.out.bel.size)
  have HSZ := Lib.hid (show w8.heap.size ≤ w9.heap.size from hc9.size)
  clear hm9 hr9 hc9 HRG5
  go_wp2_with fail
  refine (HRK.out _ HRG9.out.bel).mono ?_
  rintro e w10 ⟨⟨A10, c10, g10, rfl, h10⟩, hb10⟩
  have hcv1 := convSl (cap := c9) (HM9.out.keep hb10).row (Nat.le_refl N)
  have hcv2 := convSl (cap := c10) h10.row (Nat.le_refl N)
  have HM10 := Lib.hid (HM9.out.keep hb10)
  have HRG10 := Lib.hid (HRG9.out.keep hb10)
  have H10 := Lib.hid h10
  have HS10 := Lib.hid hb10.size
  have HS9 := Lib.hid (show 0 < c9 → g9 < w9.heap.size from fun h => HM9.out.own.lt h)
  clear h10 hb10 HM9
  go_wp2_with fail
  refine (HKEY.out G M cc _ HRG10.out).mono ?_
  rintro e w11 ⟨⟨A11, c11, g11, rfl, hm11⟩, hr11, hc11⟩
  have HGB10 := Lib.hid (show G < w9.heap.size from HRG9.out.lt)
  have HM11 := Lib.hid hm11
  have HRG11 := Lib.hid hr11
  have HC11 := Lib.hid hc11
  have HK9 := Lib.hid (HM10.out.chg hc11 HGB9.out)
  have HK10 := Lib.hid (H10.out.chg hc11 HGB10.out)
  have HS11 := Lib.hid (show 0 < c10 → g10 < w10.heap.size from fun h => H10.out.own.lt h)
  clear hm11 hr11 hc11 hcv1 hcv2 HM10 H10
  go_wp2_with fail
  refine (owned_rows 2 w11 #[.slice A9 N c9, .slice A11 N c11] (t2 A9 A11) (t2 N N) (t2 c9 c11) (t2 g9 g11) (by decide) (fun j hj => by rcases two_of hj with rfl | rfl <;> rfl) (fun j hj => ?_) (fun i j hij hj ci cj => ?_) (fun j hj => ?_)).mono ?_
  · rcases two_of hj with rfl | rfl
    · exact HK9.out.own
    · exact HM11.out.own
  · obtain rfl : j = 1 := by omega
    obtain rfl : i = 0 := by omega
    have h1 := HS9.out ci
    have h2 := HM11.out.from_ cj
    have h3 := HS10.out
    show g9 ≠ g11
    omega
  · rcases two_of hj with rfl | rfl
    · exact Nat.le_trans HK9.out.max (by unfold maxLen; decide)
    · exact Nat.le_trans HM11.out.max (by unfold maxLen; decide)
  rintro e w12 ⟨rfl, h12⟩
  have hin : ∀ q, InR 2 (t2 c9 c11) (t2 g9 g11) q → w8.heap.size ≤ q ∧ (0 < c10 → q ≠ g10) := fun q hq => by
    obtain ⟨j, hj, hc, rfl⟩ := hq
    rcases two_of hj with rfl | rfl
    · refine ⟨HK9.out.from_ hc, fun hc2 => ?_⟩
      have h1 := HS9.out hc
      have h2 := HK10.out.from_ hc2
      show g9 ≠ g10
      omega
    · have h1 := HM11.out.from_ hc
      have h3 := HS10.out
      have h4 := HRG9.out.bel.size
      have h5 : w8.heap.size ≤ w9.heap.size := HSZ.out
      refine ⟨by show w8.heap.size ≤ g11; omega, fun hc2 => ?_⟩
      have h2 := HS11.out hc2
      show g11 ≠ g10
      omega
  have HRG12 := Lib.hid (HRG11.out.chgS h12 (fun q hq => Nat.le_trans HUB.out (hin q hq).1) (fun hq => by have := (hin _ hq).1; have := HGB9.out; omega) (fun hq => by have := (hin _ hq).1; have := HMB9.out; omega))
  have HK12 := Lib.hid (HK10.out.chgS h12 (fun hc hq => (hin _ hq).2 hc rfl))
  clear h12 hin HK9 HM11 HK10
  go_wp2_with fail
  refine (HKEY.out G M cc _ HRG12.out).mono ?_
  rintro e w13 ⟨⟨A13, c13, g13, rfl, hm13⟩, hr13, hc13⟩
  have hcv3 := convSl (cap := c13) hm13.row (Nat.le_refl N)
  have hcv4 := convSl (cap := c10) (HK12.out.chg hc13 HGB10.out).row (Nat.le_refl N)
  have HB13 := Lib.hid hr13.bel
  clear hm13 hr13 hc13
  go_wp2_with fail
  go_ret
  exact ⟨rfl, HB13.out⟩
theorem makes_any (A : Option Addr) (n c : Nat) (t p v : Int) (key : Nat → Nat) (w0 : World) (hl : n ≤ 140737488351232) (hA : SlB w0 A n key) (hnil : A = none → n = 0 ∧ c = 0) (ht : GT w0) (hp : P10 w0) :
    Calls Tryd.prog 3 #[.slice A n c, .int .i64 t, .int .i64 p, .int .i64 v] w0 fun e w' => e = .returned (.bool true) ∧ Below w0.heap.size w0 w' := by
  by_cases h : 16 ≤ n ∧ n ≤ 64
  · exact makes_good A n c t p v key w0 h hA hnil ht hp
  · exact makes_bad A n c t p v key w0 h hl hA ht hp
end Go.Proofs.YtengejmkpkacgaaDoor
/- A []int parameter, opened. -/
namespace Go.Proofs.YtengejmkpkacgaaDoor
set_option maxRecDepth 100000
open Go.RowKit
/-- the integers of a slice that came in -/
def SlI (w : World) (A : Option Addr) (L : Nat) (x : Nat → Int) : Prop := 0 < L → ∃ B o, A = some ⟨B, o, none⟩ ∧ B < w.heap.size ∧ ∀ j, j < L → w.cell? ⟨B, o + j, none⟩ = some (.int .i64 (x j))
theorem SlI.keep {w w' : World} {A : Option Addr} {L : Nat} {x : Nat → Int} {base : Nat} (h : SlI w A L x) (hb : Below base w w') (hw : w.heap.size ≤ base) : SlI w' A L x := fun hL => by
  obtain ⟨B, o, hA, hB, hs⟩ := h hL
  exact ⟨B, o, hA, Nat.lt_of_lt_of_le hB hb.size, fun j hj => (hb.cell (p := ⟨B, o + j, none⟩) (by show B < base; omega)).trans (hs j hj)⟩
open Go.ChangeShapes Go.WideShapes Go.ChangeAt in
theorem open_slI {H : Type} {enc : TypeId × Value → H} {W : World} {base : Nat} {v : Value} {d : DataW H} {p : List MemPlace}
    (hval : Value.okWide Tryd.prog W .any base 40 v) (h : DataW.Trod enc Tryd.prog W 0 (fun _ => true) true 40 v d p) :
    ∃ A n c x, v = .slice A n c ∧ SlI W A n x ∧ (n ≤ c ∧ (A = none → n = 0 ∧ c = 0) ∧ ∃ els sp, (d = .slice els sp ∧ els.length + sp.length = c) ∨ (d = .nil ∧ c = 0)) := by
  obtain ⟨a0, len, cap, rfl⟩ := okWide_slice Tryd.underlying40 hval
  obtain ⟨fuel, hf⟩ := h
  rcases open_ints Tryd.underlying40 Tryd.underlying3 (show Tryd.prog.cellsOf 3 = 1 by kernel_rfl) hf with ⟨hcs, hx⟩ | ⟨a, len', cap', zs, hcs, _, hl, hm, hz, hx, hcell, hwz⟩
  · simp only [Value.cells] at hcs
    injection hcs with hcs
    injection hcs with h1 h2 h3
    subst h1 h2 h3
    injection hx with hd _
    exact ⟨none, 0, 0, fun _ => 0, rfl, fun h => absurd h (Nat.lt_irrefl 0), Nat.le_refl _, fun _ => ⟨rfl, rfl⟩, [], [], Or.inr ⟨hd, rfl⟩⟩
  · simp only [Value.cells] at hcs
    injection hcs with hcs
    injection hcs with h1 h2 h3
    subst h1 h2 h3
    injection hx with hd _
    have hz' : zs.length = cap := by simpa using hz
    have hsl : SlI W (some a) len (fun j => zs.getD j 0) := by
      intro hn
      obtain ⟨b, off, rfl, hc⟩ := ints_at hcell (by omega)
      exact ⟨b, off, rfl, block_lt (hc 0 (by omega)), fun j hj => hc j (by omega)⟩
    exact ⟨some a, len, cap, _, rfl, hsl, hl, (fun h => by cases h), lits .i64 (zs.take len), lits .i64 (zs.drop len), Or.inl ⟨hd, by simp [lits]; omega⟩⟩
/-- how long a []int parameter is at most -/
theorem slI_len {H : Type} {ts : List TypeId} {ds : List (DataW H)} (h : (DataW.weightsEach Tryd.prog ts ds).all (· ≤ reachBytes) = true) {j : Nat} {d : DataW H} (ht : ts[j]? = some 40) (hd : ds[j]? = some d)
    {n c : Nat} {X : Prop} (z : n ≤ c ∧ X ∧ ∃ els sp, (d = .slice els sp ∧ els.length + sp.length = c) ∨ (d = .nil ∧ c = 0)) : n ≤ 140737488351232 := by
  obtain ⟨h1, _, els, sp, h2⟩ := z
  rcases h2 with ⟨rfl, h2⟩ | ⟨_, h2⟩
  · have h3 := sized_slice h ht hd Tryd.underlying40
    rw [show Tryd.prog.bytesOf 3 = 8 by kernel_rfl] at h3
    have : reachBytes = 140737488351232 := rfl
    omega
  · omega
end Go.Proofs.YtengejmkpkacgaaDoor
/- Law KeysAgain (layer 13). -/
namespace Go.Proofs.YtengejmkpkacgaaDoor
set_option maxRecDepth 100000
open Go.RowKit
set_option maxHeartbeats 1600000 in
theorem again_bad (A AL : Option Addr) (n c L cL : Nat) (t p v : Int) (w0 : World) (hn : ¬ (16 ≤ n ∧ n ≤ 64)) (ht : GT w0) (hp : P10 w0) :
    Calls Tryd.prog 5 #[.slice A n c, .int .i64 t, .int .i64 p, .int .i64 v, .slice AL L cL] w0 fun e w' => e = .returned (.bool true) ∧ Below w0.heap.size w0 w' := by
  have HS := Lib.hid (small13_any w0 ht hp)
  have HN := Lib.hid (fun W => knew_bad A n c W hn)
  clear ht hp hn
  go_enter Tryd.func5, Tryd.ntmps5
  go_wp2_with fail
  refine HS.out.mono ?_
  rintro e w1 ⟨rfl, hb⟩
  have HB1 := Lib.hid hb
  clear hb
  go_wp2_with fail
  refine (HN.out _).mono ?_
  rintro e w2 ⟨rfl, rfl⟩
  go_wp2_with fail
  refine (HN.out _).mono ?_
  rintro e w3 ⟨rfl, rfl⟩
  go_wp2_with fail
  go_ret
  exact ⟨rfl, HB1.out⟩
set_option maxHeartbeats 3200000 in
theorem again_good (A AL : Option Addr) (n c L cL : Nat) (t p v : Int) (key : Nat → Nat) (x : Nat → Int) (w0 : World) (hn : 16 ≤ n ∧ n ≤ 64) (hL : L ≤ 140737488351232) (hA : SlB w0 A n key) (hnil : A = none → n = 0 ∧ c = 0) (hx : SlI w0 AL L x) (ht : GT w0) (hp : P10 w0) :
    Calls Tryd.prog 5 #[.slice A n c, .int .i64 t, .int .i64 p, .int .i64 v, .slice AL L cL] w0 fun e w' => e = .returned (.bool true) ∧ Below w0.heap.size w0 w' := by
  have HS := Lib.hid (small13_any w0 ht hp)
  have HN := Lib.hid (show ∀ W, Below w0.heap.size w0 W → Calls Tryd.prog 9 #[.slice A n c] W fun e w' => ∃ G M cc, e = .returned (.tuple #[.pointer (some ⟨G, 0, none⟩), .int .i64 0]) ∧ W.heap.size ≤ G ∧ W.heap.size ≤ M ∧ RingAt w0 w' G M cc n key ∧ Below W.heap.size W w' from fun W h =>
    knew_good A n c key w0 W hn (hA.keep h) hnil ht hp h)
  have HX := Lib.hid hx
  have HKEY := Lib.hid (show ∀ G M cc W, RingAt w0 W G M cc n key → Calls Tryd.prog 15 #[.pointer (some ⟨G, 0, none⟩), .int .i64 t, .int .i64 p, .int .i64 v] W (KeyP w0 W G M cc n key t p v) from fun G M cc W h => key_any G M cc n t p v key w0 W h)
  unfold KeyP at HKEY
  have HLL := Lib.hid hL
  clear ht hp hn hA hnil hx
  generalize keyF n key t.toNat (nmS p) v.toNat = F at *
  generalize kN (kok t p v) = N at *
  generalize kE (kok t p v) = E at *
  go_enter Tryd.func5, Tryd.ntmps5
  go_wp2_with fail
  refine HS.out.mono ?_
  rintro e w1 ⟨rfl, hb⟩
  have HB1 := Lib.hid hb
  clear hb
  go_wp2_with fail
  refine (HN.out _ HB1.out).mono ?_
  rintro e w2 ⟨G, M, cc, rfl, hG, hM, h2, hb2⟩
  have HRG := Lib.hid h2
  clear h2 hb2 hG hM
  go_wp2_with fail
  refine (HN.out _ HRG.out.bel).mono ?_
  rintro e w3 ⟨G', M', cc', rfl, hG, hM, h3, hb3⟩
  have HR := Lib.hid (HRG.out.keep hb3)
  have HR' := Lib.hid h3
  have HNE := Lib.hid (show G < G' ∧ M < G' ∧ G < M' ∧ M < M' from ⟨Nat.lt_of_lt_of_le HRG.out.lt hG, Nat.lt_of_lt_of_le HRG.out.ltM hG, Nat.lt_of_lt_of_le HRG.out.lt hM, Nat.lt_of_lt_of_le HRG.out.ltM hM⟩)
  clear h3 hb3 hG hM HRG
  go_wp2_with fail
  go_loopw [16] (fun i wr => ∃ k : Nat, k ≤ L ∧ k ≤ 6 ∧ i = .int .i64 k ∧ RingAt w0 wr G M cc n key ∧ RingAt w0 wr G' M' cc' n key) (fun i _ => L - (intOf i).toNat)
  case atStart => exact ⟨0, Nat.zero_le _, Nat.zero_le _, rfl, HR.out, HR'.out⟩
  case round =>
    obtain ⟨k, hk, hk6, rfl, h1, h2⟩ := hrel
    have H1 := Lib.hid h1
    have H2 := Lib.hid h2
    clear h1 h2 HR HR'
    by_cases hlt : k < L ∧ k < 6
    · obtain ⟨hl1, hl2⟩ := hlt
      have d1 : decide ((k : Int) < L) = true := decide_eq_true (by omega)
      have d2 : decide ((k : Int) < 6) = true := decide_eq_true (by omega)
      have hki : (k : Int) < L := by omega
      have hk6i : (k : Int) < 6 := by omega
      have hk0 : (0 : Int) ≤ k := by omega
      obtain ⟨B, o, rfl, hB, hc⟩ := (HX.out.keep H1.out.bel (Nat.le_refl _)) (by omega)
      have hcell := hc k hl1
      clear hc hB
      generalize x k = xk at *
      go_wp2_with fail
      refine (key_any G M cc n _ _ _ key w0 wr H1.out).mono ?_
      rintro e w4 ⟨⟨A4, c4, g4, rfl, _⟩, h4, hc4⟩
      have H4 := Lib.hid h4
      have H5 := Lib.hid (H2.out.chg hc4 H1.out.uG (Nat.ne_of_gt HNE.out.1) (Nat.ne_of_gt HNE.out.2.2.1))
      clear h4 hc4
      go_wp2_with fail
      go_roundw
      case rel => exact ⟨k + 1, by omega, by omega, by go_num, H4.out, H5.out⟩
      case measure => simp [intOf]; omega
    · have hlt2 : ¬ k < L ∨ (k < L ∧ ¬ k < 6) := by omega
      clear hlt
      have tail : True := trivial
      rcases hlt2 with hl1 | ⟨hl1, hl2⟩
      · have d1 : decide ((k : Int) < L) = false := decide_eq_false (by omega)
        go_wp2_with fail
        refine (HKEY.out G M cc _ H1.out).mono ?_
        rintro e w4 ⟨⟨A4, c4, g4, rfl, hm4⟩, h4, hc4⟩
        have HM4 := Lib.hid hm4
        have H5 := Lib.hid (H2.out.chg hc4 H1.out.uG (Nat.ne_of_gt HNE.out.1) (Nat.ne_of_gt HNE.out.2.2.1))
        have HLT := Lib.hid (show G' < wr.heap.size from H2.out.lt)
        clear hm4 h4 hc4
        go_wp2_with fail
        refine (HKEY.out G' M' cc' _ H5.out).mono ?_
        rintro e w5 ⟨⟨A5, c5, g5, rfl, hm5⟩, h5, hc5⟩
        have hcv1 := convSl (cap := c4) (HM4.out.chg hc5 HLT.out).row (Nat.le_refl N)
        have hcv2 := convSl (cap := c5) hm5.row (Nat.le_refl N)
        have HB5 := Lib.hid h5.bel
        clear hm5 h5 hc5
        go_wp2_with fail
        go_ret
        exact ⟨rfl, HB5.out⟩
      · have d1 : decide ((k : Int) < L) = true := decide_eq_true (by omega)
        have d2 : decide ((k : Int) < 6) = false := decide_eq_false (by omega)
        go_wp2_with fail
        refine (HKEY.out G M cc _ H1.out).mono ?_
        rintro e w4 ⟨⟨A4, c4, g4, rfl, hm4⟩, h4, hc4⟩
        have HM4 := Lib.hid hm4
        have H5 := Lib.hid (H2.out.chg hc4 H1.out.uG (Nat.ne_of_gt HNE.out.1) (Nat.ne_of_gt HNE.out.2.2.1))
        have HLT := Lib.hid (show G' < wr.heap.size from H2.out.lt)
        clear hm4 h4 hc4
        go_wp2_with fail
        refine (HKEY.out G' M' cc' _ H5.out).mono ?_
        rintro e w5 ⟨⟨A5, c5, g5, rfl, hm5⟩, h5, hc5⟩
        have hcv1 := convSl (cap := c4) (HM4.out.chg hc5 HLT.out).row (Nat.le_refl N)
        have hcv2 := convSl (cap := c5) hm5.row (Nat.le_refl N)
        have HB5 := Lib.hid h5.bel
        clear hm5 h5 hc5
        go_wp2_with fail
        go_ret
        exact ⟨rfl, HB5.out⟩
theorem again_any (A AL : Option Addr) (n c L cL : Nat) (t p v : Int) (key : Nat → Nat) (x : Nat → Int) (w0 : World) (hL : L ≤ 140737488351232) (hA : SlB w0 A n key) (hnil : A = none → n = 0 ∧ c = 0) (hx : SlI w0 AL L x) (ht : GT w0) (hp : P10 w0) :
    Calls Tryd.prog 5 #[.slice A n c, .int .i64 t, .int .i64 p, .int .i64 v, .slice AL L cL] w0 fun e w' => e = .returned (.bool true) ∧ Below w0.heap.size w0 w' := by
  by_cases h : 16 ≤ n ∧ n ≤ 64
  · exact again_good A AL n c L cL t p v key x w0 h hL hA hnil hx ht hp
  · exact again_bad A AL n c L cL t p v w0 h ht hp
end Go.Proofs.YtengejmkpkacgaaDoor
