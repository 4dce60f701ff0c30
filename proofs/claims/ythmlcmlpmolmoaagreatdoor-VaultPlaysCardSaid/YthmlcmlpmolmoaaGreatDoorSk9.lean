/- 8 texts in one, in their order: what the cards need of them. -/
import Derived.Test.YthmlcmlpmolmoaaGreatDoorSk8
import Derived.Maps.AppendAt
import Derived.Deep.Matrix
import Derived.Lib.AppendStr
namespace Go.Proofs.YthmlcmlpmolmoaaGreatDoor
open Go.RowKit
theorem padL_eq (n : Nat) : padL n = 64 * ((n + 72) / 64) := rfl
theorem padf_lo (n : Nat) (f : Nat → Nat) (j : Nat) (h : j < n) : padf n f j = f j := if_pos h
theorem padf_at (n : Nat) (f : Nat → Nat) : padf n f n = 128 := by unfold padf; rw [if_neg (Nat.lt_irrefl _), if_pos rfl]
theorem padf_zero (n : Nat) (f : Nat → Nat) (j : Nat) (h1 : n < j) (h2 : j < padL n - 8) : padf n f j = 0 := by unfold padf; rw [if_neg (by omega), if_neg (by omega), if_pos h2]
theorem padf_len (n : Nat) (f : Nat → Nat) (q j : Nat) (h1 : j = padL n - 8 + (7 - q)) (hq : q ≤ 7) : padf n f j = 8 * n / 2 ^ (8 * q) % 256 := by
  have hp : n + 9 ≤ padL n := by unfold padL; omega
  unfold padf
  rw [if_neg (by omega), if_neg (by omega), if_neg (by omega), show padL n - 1 - j = q by omega, Nat.pow_mul]
def outG (sv : Value) (g c k xx y1 y2 y3 : Nat) (D : Nat → Nat) : Nat → Value → World → Prop
  | 0, v, _ => v = sv
  | 1, v, _ => v = .slice (some ⟨g, 0, none⟩) 8 c
  | 2, v, _ => v = .int .i64 (k : Nat)
  | 3, v, _ => v = .pointer (some ⟨g, k, none⟩)
  | 4, v, _ => v = .int .i64 (xx : Nat)
  | 5, v, _ => v = .int .i64 (y1 : Nat)
  | 6, v, _ => v = .int .u8 (D 0 : Nat)
  | 7, v, _ => v = .slice (some ⟨g, 0, none⟩) 8 c
  | 8, v, _ => v = .int .i64 (k : Nat)
  | 9, v, _ => v = .pointer (some ⟨g, k, none⟩)
  | 10, v, _ => v = .int .i64 (xx : Nat)
  | 11, v, _ => v = .int .i64 (y2 : Nat)
  | 12, v, _ => v = .int .u8 (D 1 : Nat)
  | 13, v, _ => v = .slice (some ⟨g, 0, none⟩) 8 c
  | 14, v, _ => v = .int .i64 (k : Nat)
  | 15, v, _ => v = .pointer (some ⟨g, k, none⟩)
  | 16, v, _ => v = .int .i64 (xx : Nat)
  | 17, v, _ => v = .int .i64 (y3 : Nat)
  | 18, v, _ => v = .int .u8 (D 2 : Nat)
  | 19, v, _ => v = .slice (some ⟨g, 0, none⟩) 8 c
  | 20, v, _ => v = .int .i64 (k : Nat)
  | 21, v, _ => v = .pointer (some ⟨g, k, none⟩)
  | 22, v, _ => v = .int .i64 (xx : Nat)
  | 23, v, _ => v = .int .u8 (D 3 : Nat)
  | 24, v, w => ∃ gg, v = .slice (some ⟨gg, 0, none⟩) 4 4 ∧ SlB w (some ⟨gg, 0, none⟩) 4 D
  | _, _, _ => True
theorem outG_stays (sv : Value) (g c k xx y1 y2 y3 : Nat) (D : Nat → Nat) : ∀ i v w w', outG sv g c k xx y1 y2 y3 D i v w → Below w.heap.size w w' → outG sv g c k xx y1 y2 y3 D i v w'
  | 0, _, _, _, h, _ => h
  | 1, _, _, _, h, _ => h
  | 2, _, _, _, h, _ => h
  | 3, _, _, _, h, _ => h
  | 4, _, _, _, h, _ => h
  | 5, _, _, _, h, _ => h
  | 6, _, _, _, h, _ => h
  | 7, _, _, _, h, _ => h
  | 8, _, _, _, h, _ => h
  | 9, _, _, _, h, _ => h
  | 10, _, _, _, h, _ => h
  | 11, _, _, _, h, _ => h
  | 12, _, _, _, h, _ => h
  | 13, _, _, _, h, _ => h
  | 14, _, _, _, h, _ => h
  | 15, _, _, _, h, _ => h
  | 16, _, _, _, h, _ => h
  | 17, _, _, _, h, _ => h
  | 18, _, _, _, h, _ => h
  | 19, _, _, _, h, _ => h
  | 20, _, _, _, h, _ => h
  | 21, _, _, _, h, _ => h
  | 22, _, _, _, h, _ => h
  | 23, _, _, _, h, _ => h
  | 24, v, w, w', h_, hb => by
    obtain ⟨gg, h1, h2⟩ := h_; exact ⟨gg, h1, h2.keep hb⟩
  | _ + 25, _, _, _, _, _ => trivial
set_option maxRecDepth 100000 in
set_option maxHeartbeats 3200000 in
theorem rsum_own (A : Option Addr) (n cap : Nat) (f : Nat → Nat) (w : World) (hn : n ≤ 140737488351232) (hA : SlB w A n f) (hnil : A = none → n = 0 ∧ cap = 0) :
    Calls Tryz.prog 148 #[.slice A n cap] w fun e w' => ∃ A' c', e = .returned (.slice A' 32 c') ∧ (SlB w' A' 32 (sha n f) ∧ OwnB w' w.heap.size (.slice A' 32 c') 32 (sha n f)) ∧ Below w.heap.size w w' := by
  have HA := Lib.hid hA
  have HNIL := Lib.hid hnil
  have HPB := Lib.hid fun m => padf_by n f m (fun j hj => hA.byte hj)
  have HFB := Lib.hid (show ∀ j, j < n → f j < 256 from fun j hj => hA.byte hj)
  have hni : (n : Int) ≤ 140737488351232 := by omega
  clear hA hnil
  have H0 := Lib.hid (show OwnB (w.alloc (.cells #[] 5)) w.heap.size (.slice (some ⟨w.heap.size, 0, none⟩) 0 0) 0 f from OwnB.empty w w.heap.size f (Nat.le_refl _))
  have HA0 := Lib.hid (HA.out.keep ((Below.refl _ _).alloc (Nat.le_refl _) (.cells #[] 5)))
  have HB0 := Lib.hid ((Below.refl w.heap.size w).alloc (Nat.le_refl _) (.cells #[] 5))
  go_enter Tryz.func148, Tryz.ntmps148
  have HW := Lib.hid fun W => one_sl W 128 (by decide)
  go_wp2_with (first | (refine wpList_appO rfl (.tmp 11) (.tmp 12) rfl w.heap.size _ 0 f rfl H0.out A n cap f rfl HA0.out HNIL.out (by omega) HB0.out.size (fun j hj => absurd hj (Nat.not_lt_zero j)) HFB.out ?_; intro A1 c1 w1 h1 h2 h3 h4; rw [Nat.zero_add] at h1 h2 h3 ⊢; have HO1 := Lib.hid (OwnB.congr (g := f) h1 fun j _ => rfl); have HB1 := Lib.hid (HB0.out.trans h4); clear h1 h2 h3 h4; have HO1' := Lib.hid (HO1.out.alloc (.cells #[.int .u8 ((128 : Nat) : Int)] 5)); have HB1' := Lib.hid (HB1.out.alloc HB1.out.size (.cells #[.int .u8 ((128 : Nat) : Int)] 5))) |
    (refine wpList_appO rfl (.tmp 13) (.tmp 14) rfl w.heap.size _ n f rfl HO1'.out (some ⟨_, 0, none⟩) 1 1 (fun _ => 128) rfl (HW.out _) (fun h => by cases h) (by omega) HB1'.out.size HFB.out (fun _ _ => by decide) ?_; intro A2 c2 w2 h1 h2 h3 h4; have HO2 := Lib.hid (OwnB.congr (g := padf n f) h1 fun j hj => by unfold catB; by_cases e : j < n; rw [if_pos e, padf_lo n f j e]; rw [if_neg e, show j = n by omega, padf_at]); have HB2 := Lib.hid (HB1'.out.trans h4); have HC2 := Lib.hid h3; clear h1 h2 h3 h4))
  clear H0 HA0 HB0 HW HO1 HB1 HO1' HB1' HC2
  have HPL := Lib.hid (padL_eq n)
  have HZ := Lib.hid fun W => one_sl W 0 (by decide)
  go_loopw [3] (fun v wr => ∃ (m : Nat) (A3 : Option Addr) (c3 : Nat), n + 1 ≤ m ∧ m ≤ padL n - 8 ∧ v = .slice A3 m c3 ∧ OwnB wr w.heap.size (.slice A3 m c3) m (padf n f) ∧ Below w.heap.size w wr) (fun v _ => padL n - 8 - lenOf v)
  case atStart => exact ⟨n + 1, A2, c2, Nat.le_refl _, by have := HPL.out; omega, rfl, HO2.out, HB2.out⟩
  case round =>
    obtain ⟨m, A3, c3, hm1, hm2, rfl, h1, h2⟩ := hrel
    have H1 := Lib.hid h1
    have H2 := Lib.hid h2
    clear h1 h2 HO2 HB2
    have hm3 : m ≤ 140737488355000 := by have := HPL.out; omega
    have hmi : (m : Int) ≤ 140737488355000 := by omega
    by_cases hr : m % 64 = 56
    · have hb : ((m : Int) % 64 != 56) = false := by simp; omega
      have HLm := Lib.hid (show m = padL n - 8 by have := HPL.out; omega)
      have HX8 := Lib.hid (show (8 : Int) * (n : Int) = ((8 * n : Nat) : Int) by omega)
      have hx1 : 8 * n < 9223372036854775808 := by omega
      clear hr
      go_wp2_with fail
      rw [HX8.out]
      generalize hx : 8 * n = x at *
      have HX := Lib.hid hx
      clear hx HX8
      go_loopw [3, 5] (fun v t wr => ∃ (j : Nat) (A3 : Option Addr) (c3 : Nat), j ≤ 8 ∧ t = .int .i64 (7 - (j : Int)) ∧ v = .slice A3 (m + j) c3 ∧ OwnB wr w.heap.size (.slice A3 (m + j) c3) (m + j) (padf n f) ∧ Below w.heap.size w wr) (fun _ t _ => (intOf t + 1).toNat)
      case atStart => exact ⟨0, A3, c3, Nat.zero_le _, rfl, rfl, H1.out, H2.out⟩
      case round =>
        obtain ⟨j, A5, c5, hj, rfl, rfl, h1, h2⟩ := hrel
        have G1 := Lib.hid h1
        have G2 := Lib.hid h2
        clear h1 h2 H1 H2
        by_cases hj8 : j < 8
        · obtain ⟨q, hq⟩ : ∃ q, q = 7 - j := ⟨_, rfl⟩
          obtain ⟨q8, hq8⟩ : ∃ q8, q8 = 8 * q := ⟨_, rfl⟩
          have eq : (7 : Int) - j = q := by omega
          have eq8 : (8 : Int) * q = q8 := by omega
          have hqi : (q : Int) ≤ 7 := by omega
          have hq8i : (q8 : Int) ≤ 56 := by omega
          have hxi : (x : Int) < 9223372036854775808 := by omega
          obtain ⟨y, hy⟩ : ∃ y, y = x / 2 ^ q8 := ⟨_, rfl⟩
          have hyx : y ≤ x := by rw [hy]; exact Nat.div_le_self _ _
          have ey : (x : Int) / 2 ^ q8 = y := by rw [hy]; simp
          obtain ⟨z, hz⟩ : ∃ z, z = y % 256 := ⟨_, rfl⟩
          have ez : (y : Int) % 256 = z := by omega
          have lz : z < 256 := by omega
          have HZP := Lib.hid (show z = padf n f (m + j) by
            rw [padf_len n f q (m + j) (by have := HLm.out; omega) (by omega), HX.out, ← hq8, ← hy, hz])
          have HZ1 := Lib.hid fun W => one_sl W z lz
          have hyi : (y : Int) < 9223372036854775808 := by omega
          have HEQ := Lib.hid eq
          clear hq hq8 hy hz
          rw [eq]
          have HO3 := Lib.hid (G1.out.alloc (.cells #[.int .u8 (z : Nat)] 5))
          have HB3 := Lib.hid (G2.out.alloc G2.out.size (.cells #[.int .u8 (z : Nat)] 5))
          go_wp2_with (refine wpList_appO rfl (.tmp 30) (.tmp 36) rfl w.heap.size _ (m + j) (padf n f) rfl HO3.out (some ⟨_, 0, none⟩) 1 1 (fun _ => z) rfl (HZ1.out _) (fun h => by cases h) (by omega) HB3.out.size (HPB.out _) (fun _ _ => lz) ?_; intro A4 c4 w4 h1 h2 h3 h4; have HO4 := Lib.hid (OwnB.congr (g := padf n f) h1 fun i hi => by unfold catB; by_cases e : i < m + j; rw [if_pos e]; rw [if_neg e, HZP.out, show i = m + j by omega]); have HB4 := Lib.hid (HB3.out.trans h4); clear h1 h2 h3 h4)
          exact ⟨⟨j + 1, A4, c4, by omega, congrArg _ (by have := HEQ.out; omega), rfl, HO4.out, HB4.out⟩, by simp [intOf]⟩
        · obtain rfl : j = 8 := by omega
          have HLm8 := Lib.hid (show m + 8 = padL n by have := HLm.out; have := HPL.out; omega)
          have et : (7 : Int) - ((8 : Nat) : Int) = -1 := by omega
          rw [et]
          rw [HLm8.out] at G1 ⊢
          clear et
          obtain ⟨A6, c6, e6, hsl6⟩ := OwnB.slice G1.out (HPB.out _)
          obtain ⟨A7, c7, e7, hc7, hc7m, _⟩ := OwnB.cap_le G1.out
          cases e6; cases e7
          have HP := Lib.hid hsl6
          have HCP := Lib.hid hc7
          clear hsl6 hc7
          go_wp2_with fail
          refine (words_any wr).mono ?_
          rintro e Wa ⟨rfl, h1, h2⟩
          have HKa := Lib.hid h1
          have HPa := Lib.hid (HP.out.keep h2)
          have HBa := Lib.hid (G2.out.trans (h2.mono G2.out.size))
          clear h1 h2 G1 G2 HP
          generalize wr.heap.size = gk at *
          go_wp2_with fail
          refine (first_any Wa).mono ?_
          rintro e Wb ⟨rfl, h1, h2⟩
          have HKb := Lib.hid (HKa.out.keep h2)
          have HPb := Lib.hid (HPa.out.keep h2)
          have HBb := Lib.hid (HBa.out.trans (h2.mono HBa.out.size))
          have HFb := Lib.hid h1
          clear h1 h2 HPa HKa HBa
          generalize Wa.heap.size = gf at *
          go_wp2_with fail
          have HPF := Lib.hid (HPB.out (padL n))
          have HST := Lib.hid fun b => hs_ok (padf n f) b
          have HWN := Lib.hid (show ∀ b, 64 * b + 64 ≤ padL n → ∀ j, j < 64 → padf n f (64 * b + j) < 256 from fun b hb j hj => HPF.out _ (by omega))
          have HHS := Lib.hid (show ∀ b, hs (padf n f) (b + 1) = add8 (hs (padf n f) b) (rs (wn (fun j => padf n f (64 * b + j)) 48) (hs (padf n f) b) 64) from fun _ => rfl)
          have HEND := Lib.hid (show ∀ j, sha n f j = dig (hs (padf n f) ((n + 72) / 64)) j from fun _ => rfl)
          obtain ⟨NB, hNB⟩ : ∃ NB, (n + 72) / 64 = NB := ⟨_, rfl⟩
          rw [hNB] at HEND
          have hPL : padL n = 64 * NB := by rw [HPL.out, hNB]
          have hNBs : NB ≤ 2199023255500 := by omega
          have hNBi : (NB : Int) ≤ 2199023255500 := by omega
          rw [hPL] at HPb HCP HWN ⊢
          clear hNB HPL hPL HLm8 HPF HLm HPB HX hx1 hb hm1 hm2
          generalize padf n f = P at *
          go_loopw [7, 8] (fun v t wr => ∃ (b g c : Nat), b ≤ NB ∧ t = .int .i64 ((64 * b : Nat) : Int) ∧ v = .slice (some ⟨g, 0, none⟩) 8 c ∧ ArrV wr g 0 8 (ints (at8 (hs P b))) ∧ SlB wr A5 (64 * NB) P ∧ ArrV wr gk 0 64 (ints kc) ∧ Below w.heap.size w wr) (fun _ t _ => 64 * NB - (intOf t).toNat)
          case atStart => exact ⟨0, gf, 8, Nat.zero_le _, rfl, rfl, HFb.out, HPb.out, HKb.out, HBb.out⟩
          case round =>
            obtain ⟨b, g, c, hb, rfl, rfl, h1, h2, h3, h4⟩ := hrel
            have K1 := Lib.hid h1
            have K2 := Lib.hid h2
            have K3 := Lib.hid h3
            have K4 := Lib.hid h4
            clear h1 h2 h3 h4 HFb HPb HKb HBb
            by_cases hlt : b < NB
            · obtain ⟨i, hi⟩ : ∃ i, i = 64 * b := ⟨_, rfl⟩
              obtain ⟨i6, hi6⟩ : ∃ i6, i6 = i + 64 := ⟨_, rfl⟩
              obtain ⟨NL, hNL⟩ : ∃ NL, NL = 64 * NB := ⟨_, rfl⟩
              have ei6 : (i : Int) + 64 = i6 := by omega
              have hi6n : (i : Int) < NL := by omega
              have hNLi : (NL : Int) ≤ 140737488355328 := by omega
              obtain ⟨A8, hA8⟩ : ∃ A8, hiA A5 c5 i = A8 := ⟨_, rfl⟩
              have hsl := fun W => run_mid W A5 NL c5 i i6 (by omega) (by have := HCP.out; omega)
              rw [hA8, show i6 - i = 64 by omega] at hsl
              have HSB := Lib.hid ((K2.out.mid (c := c5) (l := i) (m := 64) (by omega) HCP.out))
              rw [hA8] at HSB
              have HI := Lib.hid hi
              have HI6 := Lib.hid hi6
              have HNL := Lib.hid hNL
              rw [← hi, ← hNL]
              clear hi hi6 hNL hA8
              go_wp2_with fail
              refine (block_any A8 (c5 - i) _ wr HSB.out).mono ?_
              rintro e Wc ⟨vw, rfl, h1, h2⟩
              obtain ⟨Aw, cw, rfl, _, _, hr, _⟩ := h1.slice
              obtain ⟨gw, rfl, _, hr⟩ := hr (by decide)
              have HWc := Lib.hid hr
              have K1c := Lib.hid (K1.out.keep h2)
              have K2c := Lib.hid (K2.out.keep h2)
              have K3c := Lib.hid (K3.out.keep h2)
              have K4c := Lib.hid (K4.out.trans (h2.mono K4.out.size))
              clear hr h1 h2 K1 K2 K3 K4 hsl HSB
              go_wp2_with fail
              refine (step_any g c gw cw gk 64 (hs P b) _ Wc (HST.out b) (fun j hj => wn_lt (by
                have h := HWN.out b (by have := HI.out; have := HNL.out; omega)
                rw [← HI.out] at h
                exact h) 48 j) K1c.out HWc.out K3c.out).mono ?_
              rintro e Wd ⟨g2, c2', rfl, h1, h2⟩
              have L1 := Lib.hid (show ArrV Wd g2 0 8 (ints (at8 (hs P (b + 1)))) by
                rw [HHS.out b, ← HI.out]; exact h1)
              have L2 := Lib.hid (K2c.out.keep h2)
              have L3 := Lib.hid (K3c.out.keep h2)
              have L4 := Lib.hid (K4c.out.trans (h2.mono K4c.out.size))
              clear h1 h2 K1c K2c K3c K4c HWc
              go_wp2_with fail
              have hNL := HNL.out
              have hI := HI.out
              have hI6 := HI6.out
              subst hNL
              go_roundw
              case rel => exact ⟨b + 1, g2, c2', by omega, by rw [show 64 * (b + 1) = i6 by omega], rfl, L1.out, L2.out, L3.out, L4.out⟩
              case measure => simp [intOf]; omega
            · obtain rfl : b = NB := by omega
              have HSK := Lib.hid (HST.out b)
              generalize hs P b = s at *
              obtain ⟨NL, hNL⟩ : ∃ NL, NL = 64 * b := ⟨_, rfl⟩
              rw [← hNL]
              have HNL := Lib.hid hNL
              have hNLi : (NL : Int) ≤ 140737488355328 := by omega
              clear hNL HWN HHS HST hNBs hNBi
              go_wp2_with fail
              have HAG := Lib.hid (show ∀ w', Below wr.heap.size wr w' → ArrV w' g 0 8 (ints (at8 s)) from fun w' h => K1.out.keep h)
              have KB := Lib.hid K4.out
              clear K1 K2 K3 K4
              obtain ⟨W1, hW1⟩ : ∃ W1, W1 = wr := ⟨_, rfl⟩
              subst hW1
              go_loopw [9, 10] (fun v t wx => ∃ (k : Nat), k ≤ 8 ∧ t = .int .i64 k ∧ OwnB wx W1.heap.size v (4 * k) (dig s) ∧ Below W1.heap.size W1 wx) (fun _ t _ => 8 - (intOf t).toNat)
              case atStart => exact ⟨0, Nat.zero_le _, rfl, OwnB.nil _ _ _, Below.refl _ _⟩
              case round =>
                obtain ⟨k, hk, rfl, h1, h2⟩ := hrel
                have G1 := Lib.hid h1
                have G2 := Lib.hid h2
                clear h1 h2
                by_cases hk8n : k < 8
                · have hki : (k : Int) < 8 := by omega
                  have hl := at8_lt HSK.out k
                  have CE := Lib.hid (show ∀ w', Below wr.drew.heap.size wr.drew w' → w'.cell? ⟨g, k, none⟩ = some (.int .i64 (at8 s k : Nat)) from fun w' hb =>
                    (HAG.out w' (G2.out.trans ((of_drew hb).mono G2.out.size))).cell hk8n (Nat.zero_add _).symm)
                  have hd0 := Lib.hid (show dig s (4 * k + 0) = at8 s k / 16777216 % 256 by unfold dig; rw [show (4 * k + 0) / 4 = k by omega, show (4 * k + 0) % 4 = 0 by omega])
                  have hd1 := Lib.hid (show dig s (4 * k + 1) = at8 s k / 65536 % 256 by unfold dig; rw [show (4 * k + 1) / 4 = k by omega, show (4 * k + 1) % 4 = 1 by omega])
                  have hd2 := Lib.hid (show dig s (4 * k + 2) = at8 s k / 256 % 256 by unfold dig; rw [show (4 * k + 2) / 4 = k by omega, show (4 * k + 2) % 4 = 2 by omega])
                  have hd3 := Lib.hid (show dig s (4 * k + 3) = at8 s k % 256 by unfold dig; rw [show (4 * k + 3) / 4 = k by omega, show (4 * k + 3) % 4 = 3 by omega]; simp)
                  have HDL := Lib.hid (show ∀ j, (fun t => dig s (4 * k + t)) j < 256 from fun j => dig_lt s _)
                  have HDE := Lib.hid (show ∀ j, (fun t => dig s (4 * k + t)) j = dig s (4 * k + j) from fun _ => rfl)
                  generalize at8 s k = xx at *
                  obtain ⟨D, hD⟩ : ∃ D : Nat → Nat, D = fun t => dig s (4 * k + t) := ⟨_, rfl⟩
                  rw [← hD] at HDL HDE
                  rw [← HDE.out] at hd0 hd1 hd2 hd3
                  clear hD
                  obtain ⟨y1, e1⟩ : ∃ y, xx / 16777216 = y ∧ True := ⟨_, rfl, trivial⟩
                  obtain ⟨y2, e2⟩ : ∃ y, xx / 65536 = y ∧ True := ⟨_, rfl, trivial⟩
                  obtain ⟨y3, e3⟩ : ∃ y, xx / 256 = y ∧ True := ⟨_, rfl, trivial⟩
                  rw [e1.1] at hd0
                  rw [e2.1] at hd1
                  rw [e3.1] at hd2
                  go_wp2_with fail
                  refine ord.wp_region_ordT 25 [[], [], [], [1, 2], [3], [4], [5], [], [], [7, 8], [9], [10], [11], [], [], [13, 14], [15], [16], [17], [], [], [19, 20], [21], [22], [6, 12, 18, 23]] [(0, 59), (1, 60), (2, 61), (3, 62), (4, 63), (5, 64), (6, 65), (7, 66), (8, 67), (9, 68), (10, 69), (11, 70), (12, 71), (13, 72), (14, 73), (15, 74), (16, 75), (17, 76), (18, 77), (19, 78), (20, 79), (21, 80), (22, 81), (23, 82), (24, 83)] (outG u9 g c k xx y1 y2 y3 D) (by kernel_rfl) (by kernel_rfl) (by kernel_rfl) (outG_stays _ _ _ _ _ _ _ _ _) ((ord.steps_cons ?_ (ord.steps_cons ?_ (ord.steps_cons ?_ (ord.steps_cons ?_ (ord.steps_cons ?_ (ord.steps_cons ?_ (ord.steps_cons ?_ (ord.steps_cons ?_ (ord.steps_cons ?_ (ord.steps_cons ?_ (ord.steps_cons ?_ (ord.steps_cons ?_ (ord.steps_cons ?_ (ord.steps_cons ?_ (ord.steps_cons ?_ (ord.steps_cons ?_ (ord.steps_cons ?_ (ord.steps_cons ?_ (ord.steps_cons ?_ (ord.steps_cons ?_ (ord.steps_cons ?_ (ord.steps_cons ?_ (ord.steps_cons ?_ (ord.steps_cons ?_ (ord.steps_cons ?_ ord.steps_nil)))))))))))))))))))))))))) ?_
                  · intro o ho x w hb hG
                    obtain rfl := Option.some.inj ho
                    clear ho
                    refine Or.inl ⟨ord.want0 rfl, ?_⟩
                    exact ord.makes_move rfl ⟨Below.refl _ _, rfl⟩
                  · intro o ho x w hb hG
                    obtain rfl := Option.some.inj ho
                    clear ho
                    refine Or.inl ⟨ord.want0 rfl, ?_⟩
                    exact ord.makes_move rfl ⟨Below.refl _ _, rfl⟩
                  · intro o ho x w hb hG
                    obtain rfl := Option.some.inj ho
                    clear ho
                    refine Or.inl ⟨ord.want0 rfl, ?_⟩
                    exact ord.makes_move rfl ⟨Below.refl _ _, rfl⟩
                  · intro o ho x w hb hG
                    obtain rfl := Option.some.inj ho
                    clear ho
                    have h60 : x 1 = .slice (some ⟨g, 0, none⟩) 8 c := hG (1, 60) (List.mem_of_getElem? (i := 1) rfl) rfl
                    have h61 : x 2 = .int .i64 (k : Nat) := hG (2, 61) (List.mem_of_getElem? (i := 2) rfl) rfl
                    refine Or.inl ⟨ord.want0 rfl, ?_⟩
                    exact ord.makes_indexAddr rfl h60 h61 (by exact run_idxI g 8 c k hk8n w) ⟨Below.refl _ _, rfl⟩
                  · intro o ho x w hb hG
                    obtain rfl := Option.some.inj ho
                    clear ho
                    have h62 : x 3 = .pointer (some ⟨g, k, none⟩) := hG (3, 62) (List.mem_of_getElem? (i := 3) rfl) rfl
                    refine Or.inl ⟨ord.want0 rfl, ?_⟩
                    exact ord.makes_load rfl h62 (by exact run_loadI _ xx w (CE.out w hb)) ⟨Below.refl _ _, rfl⟩
                  · intro o ho x w hb hG
                    obtain rfl := Option.some.inj ho
                    clear ho
                    have h63 : x 4 = .int .i64 (xx : Nat) := hG (4, 63) (List.mem_of_getElem? (i := 4) rfl) rfl
                    refine Or.inl ⟨ord.want0 rfl, ?_⟩
                    exact ord.makes_bin rfl h63 rfl (by exact run_quoI _ _ xx 16777216 y1 e1.1 (by decide) (by omega) w) ⟨Below.refl _ _, rfl⟩
                  · intro o ho x w hb hG
                    obtain rfl := Option.some.inj ho
                    clear ho
                    have h64 : x 5 = .int .i64 (y1 : Nat) := hG (5, 64) (List.mem_of_getElem? (i := 5) rfl) rfl
                    refine Or.inl ⟨ord.want0 rfl, ?_⟩
                    exact ord.makes_conv rfl h64 (by exact run_convI8 y1 (D 0) hd0.out w) ⟨Below.refl _ _, rfl⟩
                  · intro o ho x w hb hG
                    obtain rfl := Option.some.inj ho
                    clear ho
                    refine Or.inl ⟨ord.want0 rfl, ?_⟩
                    exact ord.makes_move rfl ⟨Below.refl _ _, rfl⟩
                  · intro o ho x w hb hG
                    obtain rfl := Option.some.inj ho
                    clear ho
                    refine Or.inl ⟨ord.want0 rfl, ?_⟩
                    exact ord.makes_move rfl ⟨Below.refl _ _, rfl⟩
                  · intro o ho x w hb hG
                    obtain rfl := Option.some.inj ho
                    clear ho
                    have h66 : x 7 = .slice (some ⟨g, 0, none⟩) 8 c := hG (7, 66) (List.mem_of_getElem? (i := 7) rfl) rfl
                    have h67 : x 8 = .int .i64 (k : Nat) := hG (8, 67) (List.mem_of_getElem? (i := 8) rfl) rfl
                    refine Or.inl ⟨ord.want0 rfl, ?_⟩
                    exact ord.makes_indexAddr rfl h66 h67 (by exact run_idxI g 8 c k hk8n w) ⟨Below.refl _ _, rfl⟩
                  · intro o ho x w hb hG
                    obtain rfl := Option.some.inj ho
                    clear ho
                    have h68 : x 9 = .pointer (some ⟨g, k, none⟩) := hG (9, 68) (List.mem_of_getElem? (i := 9) rfl) rfl
                    refine Or.inl ⟨ord.want0 rfl, ?_⟩
                    exact ord.makes_load rfl h68 (by exact run_loadI _ xx w (CE.out w hb)) ⟨Below.refl _ _, rfl⟩
                  · intro o ho x w hb hG
                    obtain rfl := Option.some.inj ho
                    clear ho
                    have h69 : x 10 = .int .i64 (xx : Nat) := hG (10, 69) (List.mem_of_getElem? (i := 10) rfl) rfl
                    refine Or.inl ⟨ord.want0 rfl, ?_⟩
                    exact ord.makes_bin rfl h69 rfl (by exact run_quoI _ _ xx 65536 y2 e2.1 (by decide) (by omega) w) ⟨Below.refl _ _, rfl⟩
                  · intro o ho x w hb hG
                    obtain rfl := Option.some.inj ho
                    clear ho
                    have h70 : x 11 = .int .i64 (y2 : Nat) := hG (11, 70) (List.mem_of_getElem? (i := 11) rfl) rfl
                    refine Or.inl ⟨ord.want0 rfl, ?_⟩
                    exact ord.makes_conv rfl h70 (by exact run_convI8 y2 (D 1) hd1.out w) ⟨Below.refl _ _, rfl⟩
                  · intro o ho x w hb hG
                    obtain rfl := Option.some.inj ho
                    clear ho
                    refine Or.inl ⟨ord.want0 rfl, ?_⟩
                    exact ord.makes_move rfl ⟨Below.refl _ _, rfl⟩
                  · intro o ho x w hb hG
                    obtain rfl := Option.some.inj ho
                    clear ho
                    refine Or.inl ⟨ord.want0 rfl, ?_⟩
                    exact ord.makes_move rfl ⟨Below.refl _ _, rfl⟩
                  · intro o ho x w hb hG
                    obtain rfl := Option.some.inj ho
                    clear ho
                    have h72 : x 13 = .slice (some ⟨g, 0, none⟩) 8 c := hG (13, 72) (List.mem_of_getElem? (i := 13) rfl) rfl
                    have h73 : x 14 = .int .i64 (k : Nat) := hG (14, 73) (List.mem_of_getElem? (i := 14) rfl) rfl
                    refine Or.inl ⟨ord.want0 rfl, ?_⟩
                    exact ord.makes_indexAddr rfl h72 h73 (by exact run_idxI g 8 c k hk8n w) ⟨Below.refl _ _, rfl⟩
                  · intro o ho x w hb hG
                    obtain rfl := Option.some.inj ho
                    clear ho
                    have h74 : x 15 = .pointer (some ⟨g, k, none⟩) := hG (15, 74) (List.mem_of_getElem? (i := 15) rfl) rfl
                    refine Or.inl ⟨ord.want0 rfl, ?_⟩
                    exact ord.makes_load rfl h74 (by exact run_loadI _ xx w (CE.out w hb)) ⟨Below.refl _ _, rfl⟩
                  · intro o ho x w hb hG
                    obtain rfl := Option.some.inj ho
                    clear ho
                    have h75 : x 16 = .int .i64 (xx : Nat) := hG (16, 75) (List.mem_of_getElem? (i := 16) rfl) rfl
                    refine Or.inl ⟨ord.want0 rfl, ?_⟩
                    exact ord.makes_bin rfl h75 rfl (by exact run_quoI _ _ xx 256 y3 e3.1 (by decide) (by omega) w) ⟨Below.refl _ _, rfl⟩
                  · intro o ho x w hb hG
                    obtain rfl := Option.some.inj ho
                    clear ho
                    have h76 : x 17 = .int .i64 (y3 : Nat) := hG (17, 76) (List.mem_of_getElem? (i := 17) rfl) rfl
                    refine Or.inl ⟨ord.want0 rfl, ?_⟩
                    exact ord.makes_conv rfl h76 (by exact run_convI8 y3 (D 2) hd2.out w) ⟨Below.refl _ _, rfl⟩
                  · intro o ho x w hb hG
                    obtain rfl := Option.some.inj ho
                    clear ho
                    refine Or.inl ⟨ord.want0 rfl, ?_⟩
                    exact ord.makes_move rfl ⟨Below.refl _ _, rfl⟩
                  · intro o ho x w hb hG
                    obtain rfl := Option.some.inj ho
                    clear ho
                    refine Or.inl ⟨ord.want0 rfl, ?_⟩
                    exact ord.makes_move rfl ⟨Below.refl _ _, rfl⟩
                  · intro o ho x w hb hG
                    obtain rfl := Option.some.inj ho
                    clear ho
                    have h78 : x 19 = .slice (some ⟨g, 0, none⟩) 8 c := hG (19, 78) (List.mem_of_getElem? (i := 19) rfl) rfl
                    have h79 : x 20 = .int .i64 (k : Nat) := hG (20, 79) (List.mem_of_getElem? (i := 20) rfl) rfl
                    refine Or.inl ⟨ord.want0 rfl, ?_⟩
                    exact ord.makes_indexAddr rfl h78 h79 (by exact run_idxI g 8 c k hk8n w) ⟨Below.refl _ _, rfl⟩
                  · intro o ho x w hb hG
                    obtain rfl := Option.some.inj ho
                    clear ho
                    have h80 : x 21 = .pointer (some ⟨g, k, none⟩) := hG (21, 80) (List.mem_of_getElem? (i := 21) rfl) rfl
                    refine Or.inl ⟨ord.want0 rfl, ?_⟩
                    exact ord.makes_load rfl h80 (by exact run_loadI _ xx w (CE.out w hb)) ⟨Below.refl _ _, rfl⟩
                  · intro o ho x w hb hG
                    obtain rfl := Option.some.inj ho
                    clear ho
                    have h81 : x 22 = .int .i64 (xx : Nat) := hG (22, 81) (List.mem_of_getElem? (i := 22) rfl) rfl
                    refine Or.inl ⟨ord.want0 rfl, ?_⟩
                    exact ord.makes_conv rfl h81 (by exact run_convI8 xx (D 3) hd3.out w) ⟨Below.refl _ _, rfl⟩
                  · intro o ho x w hb hG
                    obtain rfl := Option.some.inj ho
                    clear ho
                    have h65 : x 6 = .int .u8 (D 0 : Nat) := hG (6, 65) (List.mem_of_getElem? (i := 6) rfl) rfl
                    have h71 : x 12 = .int .u8 (D 1 : Nat) := hG (12, 71) (List.mem_of_getElem? (i := 12) rfl) rfl
                    have h77 : x 18 = .int .u8 (D 2 : Nat) := hG (18, 77) (List.mem_of_getElem? (i := 18) rfl) rfl
                    have h82 : x 23 = .int .u8 (D 3 : Nat) := hG (23, 82) (List.mem_of_getElem? (i := 23) rfl) rfl
                    refine Or.inl ⟨ord.want0 rfl, ?_⟩
                    exact ord.makes_build4 rfl h65 h71 h77 h82 (run_bytes4 w (D 0) (D 1) (D 2) (D 3)) ⟨(Below.refl _ _).alloc (Nat.le_refl _) _, _, rfl, four_slB w 5 D HDL.out⟩
                  · intro x5 w5 hb hG
                    have e0 : x5 0 = u9 := hG (0, 59) (List.mem_of_getElem? (i := 0) rfl)
                    obtain ⟨gg, e24, hsl24⟩ : ∃ gg, x5 24 = .slice (some ⟨gg, 0, none⟩) 4 4 ∧ SlB w5 (some ⟨gg, 0, none⟩) 4 D := hG (24, 83) (List.mem_of_getElem? (i := 24) rfl)
                    clear hG
                    simp only [ord.puts, ord.put', List.set_cons_zero, List.set_cons_succ, if_true]
                    rw [e0, e24]
                    simp only [List.drop_succ_cons, List.drop_zero]
                    have HO := Lib.hid (G1.out.keep hb)
                    have HB5 := Lib.hid (G2.out.trans (hb.mono G2.out.size))
                    have HC5 := Lib.hid hsl24
                    clear hb hsl24
                    go_wp2_with (refine wpList_appO rfl (.tmp 59) (.tmp 83) rfl W1.heap.size _ (4 * k) (dig s) rfl HO.out (some ⟨gg, 0, none⟩) 4 4 D rfl HC5.out (fun h => by cases h) (by omega) HB5.out.size (fun j _ => dig_lt s j) (fun j _ => HDL.out j) ?_; intro A4 c4 w4 h1 h2 h3 h4; have HO6 := Lib.hid (OwnB.congr (g := dig s) h1 fun j hj => by unfold catB; by_cases e : j < 4 * k; rw [if_pos e]; rw [if_neg e, HDE.out, show 4 * k + (j - 4 * k) = j by omega]); have HB6 := Lib.hid (HB5.out.trans h4); clear h1 h2 h3 h4)
                    go_roundw
                    case rel => exact ⟨k + 1, by omega, by go_num, HO6.out, HB6.out⟩
                    case measure => simp [intOf]; omega
                · obtain rfl : k = 8 := by omega
                  obtain ⟨A9, c9, rfl, hsl9⟩ := OwnB.slice G1.out (fun j _ => dig_lt s j)
                  have HS9 := Lib.hid hsl9
                  clear hsl9
                  go_wp2_with fail
                  go_ret
                  exact ⟨A9, c9, rfl, ⟨HS9.out.congr fun j _ => (HEND.out j).symm, (G1.out.less KB.out.size).congr fun j _ => (HEND.out j).symm⟩, KB.out.trans (G2.out.mono KB.out.size)⟩
    · have hb : ((m : Int) % 64 != 56) = true := by simp; omega
      have HLm := Lib.hid (show m + 1 ≤ padL n - 8 by have := HPL.out; omega)
      have HMS := Lib.hid (show padL n - 8 - (m + 1) < padL n - 8 - m by have := HLm.out; omega)
      have HO3 := Lib.hid (H1.out.alloc (.cells #[.int .u8 ((0 : Nat) : Int)] 5))
      have HB3 := Lib.hid (H2.out.alloc H2.out.size (.cells #[.int .u8 ((0 : Nat) : Int)] 5))
      clear hr
      go_wp2_with (refine wpList_appO rfl (.tmp 20) (.tmp 21) rfl w.heap.size _ m (padf n f) rfl HO3.out (some ⟨_, 0, none⟩) 1 1 (fun _ => 0) rfl (HZ.out _) (fun h => by cases h) (by omega) HB3.out.size (HPB.out m) (fun _ _ => by decide) ?_; intro A4 c4 w4 h1 h2 h3 h4; have HO4 := Lib.hid (OwnB.congr (g := padf n f) h1 fun j hj => by unfold catB; by_cases e : j < m; rw [if_pos e]; rw [if_neg e, padf_zero n f j (by omega) (by have := HLm.out; omega)]); have HB4 := Lib.hid (HB3.out.trans h4); clear h1 h2 h3 h4)
      go_roundw
      case rel => exact ⟨m + 1, A4, c4, by omega, HLm.out, rfl, HO4.out, HB4.out⟩
      case measure => exact HMS.out
theorem rsum_any (A : Option Addr) (n cap : Nat) (f : Nat → Nat) (w : World) (hn : n ≤ 140737488351232) (hA : SlB w A n f) (hnil : A = none → n = 0 ∧ cap = 0) :
    Calls Tryz.prog 148 #[.slice A n cap] w fun e w' => ∃ A' c', e = .returned (.slice A' 32 c') ∧ SlB w' A' 32 (sha n f) ∧ Below w.heap.size w w' :=
  (rsum_own A n cap f w hn hA hnil).mono fun _ _ ⟨A', c', he, h, hb⟩ => ⟨A', c', he, h.1, hb⟩
end Go.Proofs.YthmlcmlpmolmoaaGreatDoor
namespace Go.Proofs.YthmlcmlpmolmoaaGreatDoor
open Go.RowKit
set_option maxRecDepth 100000 in
set_option maxHeartbeats 800000 in
theorem eight_any (x : Nat) (w : World) (hx : x ≤ 9223372036854775807) :
    Calls Tryz.prog 117 #[.int .i64 (x : Nat)] w fun e w' => ∃ A c, e = .returned (.slice A 8 c) ∧ OwnB w' w.heap.size (.slice A 8 c) 8 (len8 x) ∧ Below w.heap.size w w' := by
  have hxi : (x : Int) ≤ 9223372036854775807 := by omega
  go_enter Tryz.func117, Tryz.ntmps117
  go_wp2_with fail
  go_loopw [3, 4] (fun v t wr => ∃ (j : Nat) (A c : _), j ≤ 8 ∧ t = .int .i64 (7 - (j : Int)) ∧ v = .slice A j c ∧ OwnB wr w.heap.size (.slice A j c) j (len8 x) ∧ Below w.heap.size w wr) (fun _ t _ => (intOf t + 1).toNat)
  case atStart => exact ⟨0, none, 0, Nat.zero_le _, rfl, rfl, OwnB.nil _ _ _, Below.refl _ _⟩
  case round =>
    obtain ⟨j, A5, c5, hj, rfl, rfl, h1, h2⟩ := hrel
    have G1 := Lib.hid h1
    have G2 := Lib.hid h2
    clear h1 h2
    by_cases hj8 : j < 8
    · obtain ⟨q, hq⟩ : ∃ q, q = 7 - j := ⟨_, rfl⟩
      obtain ⟨q8, hq8⟩ : ∃ q8, q8 = 8 * q := ⟨_, rfl⟩
      have eq : (7 : Int) - j = q := by omega
      have eq8 : (8 : Int) * q = q8 := by omega
      have hqi : (q : Int) ≤ 7 := by omega
      have hq8i : (q8 : Int) ≤ 56 := by omega
      obtain ⟨y, hy⟩ : ∃ y, y = x / 2 ^ q8 := ⟨_, rfl⟩
      have hyx : y ≤ x := by rw [hy]; exact Nat.div_le_self _ _
      have ey : (x : Int) / 2 ^ q8 = y := by rw [hy]; simp
      obtain ⟨z, hz⟩ : ∃ z, z = y % 256 := ⟨_, rfl⟩
      have ez : (y : Int) % 256 = z := by omega
      have lz : z < 256 := by omega
      have HZP := Lib.hid (show z = len8 x j by unfold len8; rw [hz, hy, hq8, hq])
      have HZ1 := Lib.hid fun W => one_sl W z lz
      have hyi : (y : Int) ≤ 9223372036854775807 := by omega
      have HEQ := Lib.hid eq
      clear hq hq8 hy hz
      rw [eq]
      have HO3 := Lib.hid (G1.out.alloc (.cells #[.int .u8 (z : Nat)] 5))
      have HB3 := Lib.hid (G2.out.alloc G2.out.size (.cells #[.int .u8 (z : Nat)] 5))
      go_wp2_with (refine wpList_appO rfl (.tmp 9) (.tmp 15) rfl w.heap.size _ j (len8 x) rfl HO3.out (some ⟨_, 0, none⟩) 1 1 (fun _ => z) rfl (HZ1.out _) (fun h => by cases h) (by omega) HB3.out.size (fun i _ => len8_lt x i) (fun _ _ => lz) ?_; intro A4 c4 w4 h1 h2 h3 h4; have HO4 := Lib.hid (OwnB.congr (g := len8 x) h1 fun i hi => by unfold catB; by_cases e : i < j; rw [if_pos e]; rw [if_neg e, HZP.out, show i = j by omega]); have HB4 := Lib.hid (HB3.out.trans h4); clear h1 h2 h3 h4)
      exact ⟨⟨j + 1, A4, c4, by omega, congrArg _ (by have := HEQ.out; omega), rfl, HO4.out, HB4.out⟩, by simp [intOf]⟩
    · obtain rfl : j = 8 := by omega
      have et : (7 : Int) - ((8 : Nat) : Int) = -1 := by omega
      rw [et]
      clear et
      go_wp2_with fail
      go_ret
      exact ⟨A5, c5, rfl, G1.out, G2.out⟩
end Go.Proofs.YthmlcmlpmolmoaaGreatDoor
namespace Go.Proofs.YthmlcmlpmolmoaaGreatDoor
open Go.RowKit
def Apart (v1 v2 : Value) : Prop := ∀ g, v1.ownBlock = some g → v2.ownBlock ≠ some g
theorem Apart.symm {v1 v2 : Value} (h : Apart v1 v2) : Apart v2 v1 := fun g h2 h1 => h g h1 h2
theorem Apart.nil (v : Value) : Apart (.slice none 0 0) v := fun g h => by simp [Value.ownBlock] at h
theorem OwnB.grown {w w' : World} {base n : Nat} {v v1 : Value} {f : Nat → Nat} (h : OwnB w base v n f) (hg : w.grownBy w' v1.ownBlock) (ha : Apart v1 v) : OwnB w' base v n f := by
  refine World.ownsRow.kept h hg ?_
  cases e : v.ownBlock with
  | none => exact Or.inl rfl
  | some g => exact Or.inr fun e1 => ha g e1.symm e
theorem wpList_appW {ops : Array Oper} {rest : List Oper} {o : Oper} {a : Act} {Q : Exit → Act → World → Prop} {w : World} (hgd : o.guard = none) (s x : Operand)
    (ho : o.op = .call { callee := .builtin .append, args := #[s, x], argTypes := #[22, 22] })
    (base : Nat) (v : Value) (n : Nat) (f : Nat → Nat) (hs : a.eval s = v) (hown : OwnB w base v n f)
    (A : Option Addr) (m cap : Nat) (g : Nat → Nat) (hx : a.eval x = .slice A m cap) (hA : SlB w A m g) (hnil : A = none → m = 0 ∧ cap = 0) (hn : n + m ≤ 100000000000000) (hbase : base ≤ w.heap.size)
    (v2 : Value) (n2 : Nat) (f2 : Nat → Nat) (h2 : OwnB w base v2 n2 f2) (hap : Apart v v2)
    (h : ∀ v' w', OwnB w' base v' (n + m) (catB n f g) → OwnB w' base v2 n2 f2 → Apart v' v2 → Below base w w' → wpList Tryz.prog ops Q rest (a.put o.dst v') w') : wpList Tryz.prog ops Q (o :: rest) a w := by
  obtain ⟨i, hi, hz, hsz, hb⟩ := info_parts info8
  cases A with
  | none =>
    obtain ⟨rfl, rfl⟩ := hnil rfl
    refine wpList_append_own_none hgd s x 22 ho base 5 i 1 Tryz.underlying22 hi v n _ hs hown hx ?_
    refine h v w ?_ h2 hap (Below.refl _ _)
    exact OwnB.congr hown fun j hj => by unfold catB; rw [if_pos (show j < n from hj)]
  | some ad =>
    refine wpList_append_own_at w hgd s x 22 ho base 5 i (.int .u8 0) 1 1 Tryz.underlying22 hi hz hsz hb rfl (by decide) v n _ hs hown ad m cap (bytesL m g) hx (by simp [bytesL]) ?_ (bytes_one m g) (by unfold maxLen; omega) (by omega) hbase ?_
    · intro j u hj
      obtain ⟨hjm, rfl⟩ := bytesL_get m g j u hj
      obtain ⟨B, off, e, _, hc⟩ := hA (by omega)
      obtain rfl : ad = ⟨B, off, none⟩ := Option.some.inj e
      rw [Go.WideShapes.add_plain]
      exact (hc j hjm).2
    · intro v' w' h1 hg _ hat
      rw [bytesL_cat] at h1
      refine h v' w' h1 (h2.grown hg hap) ?_ ((Below.refl base w).grown hg hbase fun k hk => (hown.lt k hk).1)
      rcases hat with e | e
      · intro b hb'
        rw [e] at hb'
        exact hap b hb'
      · intro b hb' hb2
        rw [e] at hb'
        injection hb' with hb'
        have := (World.ownsRow.lt h2 b hb2).2
        omega
theorem RowB.own {w : World} {g n base : Nat} {f : Nat → Nat} (h : RowB w g n f) (hb : base ≤ g) (hn : n ≤ maxLen) : OwnB w base (.slice (some ⟨g, 0, none⟩) n n) n f :=
  ⟨by simp [bytesL], Or.inr ⟨g, n, (bytesL n f).toArray, rfl, hb, h, Nat.le_refl _, hn, by simp [bytesL], by rw [Nat.mul_one, List.toList_toArray]; exact List.take_of_length_le (by simp [bytesL])⟩⟩
end Go.Proofs.YthmlcmlpmolmoaaGreatDoor
namespace Go.Proofs.YthmlcmlpmolmoaaGreatDoor
set_option maxRecDepth 100000
open Go.RowKit
theorem OwnB.chg {w w' : World} {base n K : Nat} {v : Value} {f : Nat → Nat} (h : OwnB w base v n f) (hc : Chg K w w') (hK : K < base) : OwnB w' base v n f := by
  rcases h with ⟨h1, h2 | ⟨g, cap, cur, e, hg, hh, r⟩⟩
  · exact ⟨h1, Or.inl h2⟩
  · exact ⟨h1, Or.inr ⟨g, cap, cur, e, hg, (hc.block g (Array.getElem?_eq_some_iff.1 hh).1 (by omega)).trans hh, r⟩⟩
end Go.Proofs.YthmlcmlpmolmoaaGreatDoor
namespace Go.Proofs.YthmlcmlpmolmoaaGreatDoor
open Go.RowKit
theorem kf_at {n : Nat} (key : Nat → Nat) (h : n ≤ 64) {j : Nat} (hj : j < n) : kf n key j = key j := by unfold kf; rw [if_pos h, if_pos hj]
theorem kf_past {n : Nat} (key : Nat → Nat) (h : n ≤ 64) {j : Nat} (hj : n ≤ j) : kf n key j = 0 := by unfold kf; rw [if_pos h, if_neg (by omega)]
theorem kf_long {n : Nat} (key : Nat → Nat) (h : 64 < n) {j : Nat} (hj : j < 32) : kf n key j = sha n key j := by unfold kf; rw [if_neg (by omega), if_pos hj]
theorem kf_longpast {n : Nat} (key : Nat → Nat) (h : 64 < n) {j : Nat} (hj : 32 ≤ j) : kf n key j = 0 := by unfold kf; rw [if_neg (by omega), if_neg (by omega)]
set_option maxRecDepth 100000 in
set_option maxHeartbeats 1600000 in
theorem rmac_any (A B : Option Addr) (n c m c2 : Nat) (key b : Nat → Nat) (w : World) (hn : n ≤ 140737488351232) (hm : m ≤ 1000000000000) (hA : SlB w A n key) (hnA : A = none → n = 0 ∧ c = 0) (hB : SlB w B m b) (hnB : B = none → m = 0 ∧ c2 = 0) :
    Calls Tryz.prog 116 #[.slice A n c, .slice B m c2] w fun e w' => (∃ A' c', e = .returned (.slice A' 32 c') ∧ SlB w' A' 32 (tag n key m b) ∧ OwnB w' w.heap.size (.slice A' 32 c') 32 (tag n key m b)) ∧ Below w.heap.size w w' := by
  have HA := Lib.hid (hA.keep (alloc_below w (.cells #[] 5)))
  have HB := Lib.hid hB
  have HNA := Lib.hid hnA
  have HNB := Lib.hid hnB
  have HFA := Lib.hid (show By n key from fun j hj => hA.byte hj)
  have HFB := Lib.hid (show By m b from fun j hj => hB.byte hj)
  have HN := Lib.hid hn
  have HM := Lib.hid hm
  have HE := Lib.hid (OwnB.empty w w.heap.size key (Nat.le_refl _))
  have HB0 := Lib.hid (alloc_below w (.cells #[] 5))
  clear hA hB hnA hnB hn hm
  by_cases hl : 64 < n
  · have hd : decide (64 < (n : Int)) = true := by simp; omega
    have HL := Lib.hid hl
    clear hl
    go_enter Tryz.func116, Tryz.ntmps116
    go_wp2_with (refine wpList_appO rfl (.tmp 9) (.tmp 10) rfl w.heap.size _ 0 key rfl HE.out A n c key rfl HA.out HNA.out (by have := HN.out; omega) HB0.out.size (fun j hj => absurd hj (Nat.not_lt_zero j)) HFA.out ?_; intro A1 c1 w1 h1 h2 h3 h4; rw [Nat.zero_add] at h1 h2 h3 ⊢; have HO1 := Lib.hid (OwnB.congr (g := key) h1 fun j _ => rfl); have HS1 := Lib.hid (SlB.congr (f' := key) h2 fun j _ => rfl); have HN1 := Lib.hid h3.2.2; have HB1 := Lib.hid (HB0.out.trans h4); clear h1 h2 h3 h4)
    refine (rsum_own A1 n c1 key w1 (by have := HN.out; omega) HS1.out HN1.out).mono ?_
    rintro e w3 ⟨A3, c3, rfl, ⟨_, h2⟩, h3⟩
    have HO3 := Lib.hid (OwnB.congr (g := kf n key) (h2.less HB1.out.size) fun j hj => (kf_long key HL.out hj).symm)
    have HB3 := Lib.hid (HB1.out.trans (h3.mono HB1.out.size))
    have HZ := Lib.hid (fun j (hj : 32 ≤ j) => kf_longpast key HL.out hj)
    clear h2 h3 hd HO1 HS1 HN1 HB1
    go_wp2_with fail
    go_loopw [5] (fun v wr => ∃ (l : Nat) (A4 : Option Addr) (c4 : Nat), 32 ≤ l ∧ l ≤ 64 ∧ v = .slice A4 l c4 ∧ OwnB wr w.heap.size (.slice A4 l c4) l (kf n key) ∧ Below w.heap.size w wr) (fun v _ => 64 - lenOf v)
    case atStart => exact ⟨32, A3, c3, Nat.le_refl _, by omega, rfl, HO3.out, HB3.out⟩
    case round =>
      obtain ⟨l, A4, c4, hl1, hl2, rfl, h1, h2⟩ := hrel
      have G1 := Lib.hid h1
      have G2 := Lib.hid h2
      have HKB := Lib.hid (kf_by HFA.out)
      have HZ1 := Lib.hid fun W => one_sl W 0 (by decide)
      clear h1 h2
      by_cases hlt : l < 64
      · have hli : (l : Int) < 64 := by omega
        have HO4 := Lib.hid (G1.out.alloc (.cells #[.int .u8 ((0 : Nat) : Int)] 5))
        have HB4 := Lib.hid (G2.out.alloc G2.out.size (.cells #[.int .u8 ((0 : Nat) : Int)] 5))
        have HZL := Lib.hid (HZ.out l hl1)
        have HMS := Lib.hid (show 64 - (l + 1) < 64 - l by omega)
        go_wp2_with (refine wpList_appO rfl (.tmp 20) (.tmp 21) rfl w.heap.size _ l (kf n key) rfl HO4.out (some ⟨_, 0, none⟩) 1 1 (fun _ => 0) rfl (HZ1.out _) (fun h => by cases h) (by omega) HB4.out.size (fun j hj => HKB.out j (by omega)) (fun _ _ => by decide) ?_; intro A5 c5 w5 h1 h2 h3 h4; have HO5 := Lib.hid (OwnB.congr (g := kf n key) h1 fun j hj => by unfold catB; by_cases e : j < l; rw [if_pos e]; rw [if_neg e, show j = l by omega, HZL.out]); have HB5 := Lib.hid (HB4.out.trans h4); clear h1 h2 h3 h4)
        go_roundw
        case rel => exact ⟨l + 1, A5, c5, by omega, by omega, rfl, HO5.out, HB5.out⟩
        case measure => exact HMS.out
      · obtain rfl : l = 64 := by omega
        obtain ⟨A6, c6, e6, hsl6⟩ := OwnB.slice G1.out (fun j hj => HKB.out j hj)
        cases e6
        have HK6 := Lib.hid hsl6
        have hA6 : ∃ B6 o6, A4 = some ⟨B6, o6, none⟩ := by
          obtain ⟨B6, o6, e, _⟩ := hsl6 (by decide)
          exact ⟨B6, o6, e⟩
        obtain ⟨B6, o6, rfl⟩ := hA6
        clear hsl6 hl1 hl2 hlt HO3 HB3 HZ
        go_wp2_with fail
        obtain ⟨w4, hw4⟩ : ∃ w4, w4 = wr := ⟨_, rfl⟩
        subst hw4
        go_loopw [6, 7, 8] (fun v6 v7 t wx => ∃ k : Nat, k ≤ 64 ∧ t = .int .i64 k ∧ OwnB wx w4.heap.size v6 k (xf 54 n key) ∧ OwnB wx w4.heap.size v7 k (xf 92 n key) ∧ Apart v6 v7 ∧ Below w4.heap.size w4 wx) (fun _ _ t _ => 64 - (intOf t).toNat)
        case atStart => exact ⟨0, Nat.zero_le _, rfl, OwnB.nil _ _ _, OwnB.nil _ _ _, Apart.nil _, Below.refl _ _⟩
        case round =>
          obtain ⟨k, hk, rfl, h1, h2, h3, h4⟩ := hrel
          have K1 := Lib.hid h1
          have K2 := Lib.hid h2
          have K3 := Lib.hid h3
          have K4 := Lib.hid h4
          clear h1 h2 h3 h4
          by_cases hlt : k < 64
          · have hki : (k : Int) < 64 := by omega
            obtain ⟨B7, o7, e7, hB7, hc7⟩ := HK6.out (by decide)
            cases e7
            have hcell := (K4.out.cell (p := ⟨B6, o6 + k, none⟩) hB7).trans (hc7 k hlt).2
            have HC7 := Lib.hid (fun (W : World) (h : Below w4.heap.size w4 W) => (h.cell (p := ⟨B6, o6 + k, none⟩) hB7).trans (hc7 k hlt).2)
            obtain ⟨x, hx⟩ : ∃ x, kf n key k = x := ⟨_, rfl⟩
            have hxl : x < 256 := by rw [← hx]; exact HKB.out k hlt
            have b1 : bits BinOp.xor .u8 (x : Int) 54 = ((x ^^^ 54 : Nat) : Int) := u8_xor_nat x 54 hxl (by decide)
            have b2 : bits BinOp.xor .u8 (x : Int) 92 = ((x ^^^ 92 : Nat) : Int) := u8_xor_nat x 92 hxl (by decide)
            have HX1 := Lib.hid (show xf 54 n key k = x ^^^ 54 by unfold xf; rw [hx])
            have HX2 := Lib.hid (show xf 92 n key k = x ^^^ 92 by unfold xf; rw [hx])
            have HL1 := Lib.hid (xor_lt8 hxl (show 54 < 256 by decide))
            have HL2 := Lib.hid (xor_lt8 hxl (show 92 < 256 by decide))
            have HY1 := Lib.hid fun W => one_sl W (x ^^^ 54) HL1.out
            have HY2 := Lib.hid fun W => one_sl W (x ^^^ 92) HL2.out
            rw [hx] at hcell HC7
            clear hx hc7 hB7
            generalize x ^^^ 54 = y1 at *
            generalize x ^^^ 92 = y2 at *
            have HP1 := Lib.hid (K1.out.alloc (.cells #[.int .u8 (y1 : Nat)] 5))
            have HP2 := Lib.hid (K2.out.alloc (.cells #[.int .u8 (y1 : Nat)] 5))
            have HPB := Lib.hid (K4.out.alloc K4.out.size (.cells #[.int .u8 (y1 : Nat)] 5))
            have HXB := Lib.hid (fun (c : Nat) (hc : c < 256) => xf_by (c := c) hc HFA.out)
            go_wp2_with (first | (refine wpList_appW rfl (.tmp 27) (.tmp 33) rfl w4.heap.size _ k (xf 54 n key) rfl HP1.out (some ⟨_, 0, none⟩) 1 1 (fun _ => y1) rfl (HY1.out _) (fun h => by cases h) (by omega) HPB.out.size _ k (xf 92 n key) HP2.out K3.out ?_; intro v8 w8 h1 h2 h3 h4; have HQ1 := Lib.hid (OwnB.congr (g := xf 54 n key) h1 fun j hj => by unfold catB; by_cases e : j < k; rw [if_pos e]; rw [if_neg e, show j = k by omega, HX1.out]); have HQ2 := Lib.hid h2; have HQ3 := Lib.hid h3; have HQB := Lib.hid (HPB.out.trans h4); clear h1 h2 h3 h4 hcell; have hcell := HC7.out w8 HQB.out; have HR1 := Lib.hid (HQ1.out.alloc (.cells #[.int .u8 (y2 : Nat)] 5)); have HR2 := Lib.hid (HQ2.out.alloc (.cells #[.int .u8 (y2 : Nat)] 5)); have HRB := Lib.hid (HQB.out.alloc HQB.out.size (.cells #[.int .u8 (y2 : Nat)] 5))) | (refine wpList_appW rfl (.tmp 35) (.tmp 41) rfl w4.heap.size _ k (xf 92 n key) rfl HR2.out (some ⟨_, 0, none⟩) 1 1 (fun _ => y2) rfl (HY2.out _) (fun h => by cases h) (by omega) HRB.out.size _ (k + 1) (xf 54 n key) HR1.out HQ3.out.symm ?_; intro v9 w9 h1 h2 h3 h4; have HS1 := Lib.hid (OwnB.congr (g := xf 92 n key) h1 fun j hj => by unfold catB; by_cases e : j < k; rw [if_pos e]; rw [if_neg e, show j = k by omega, HX2.out]); have HS2 := Lib.hid h2; have HS3 := Lib.hid h3.symm; have HSB := Lib.hid (HRB.out.trans h4); clear h1 h2 h3 h4))
            go_roundw
            case rel => exact ⟨k + 1, by omega, by go_num, HS2.out, HS1.out, HS3.out, HSB.out⟩
            case measure => simp [intOf]; omega
          · obtain rfl : k = 64 := by omega
            have HXB := Lib.hid (fun (c : Nat) (hc : c < 256) => xf_by (c := c) hc HFA.out)
            have HBW := Lib.hid (HB.out.keep (G2.out.trans (K4.out.mono G2.out.size)))
            go_wp2_with (refine wpList_appW rfl (.tmp 44) (.tmp 45) rfl w4.heap.size _ 64 (xf 54 n key) rfl K1.out B m c2 b rfl HBW.out HNB.out (by have := HM.out; omega) K4.out.size _ 64 (xf 92 n key) K2.out K3.out ?_; intro v8 w8 h1 h2 _ h4; have HQ2 := Lib.hid h2; have HQB := Lib.hid (K4.out.trans h4); obtain ⟨A8, c8, e8, hs8⟩ := OwnB.slice h1 (catB_lt (HXB.out 54 (by decide)) HFB.out); obtain ⟨A8', c8', e8', _, _, hn8⟩ := OwnB.cap_le h1; rw [e8] at e8'; cases e8'; subst e8; have HS8 := Lib.hid hs8; have HN8 := Lib.hid hn8; clear h1 h2 h4 hs8 hn8)
            refine (rsum_any A8 (64 + m) c8 (catB 64 (xf 54 n key) b) w8 (by have := HM.out; omega) HS8.out HN8.out).mono ?_
            rintro e w9 ⟨A9, c9, rfl, h1, h2⟩
            have HS9 := Lib.hid h1
            have HY9 := Lib.hid (HQ2.out.keep h2)
            have HB9 := Lib.hid (HQB.out.trans (h2.mono HQB.out.size))
            have hA9 : ∃ B9 o9, A9 = some ⟨B9, o9, none⟩ := by
              obtain ⟨B9, o9, e, _⟩ := h1 (by decide)
              exact ⟨B9, o9, e⟩
            obtain ⟨B9, o9, rfl⟩ := hA9
            clear h1 h2 HQ2 HQB HS8 HN8
            go_wp2_with (refine wpList_appO rfl (.tmp 43) (.tmp 47) rfl w4.heap.size _ 64 (xf 92 n key) rfl HY9.out (some ⟨B9, o9, none⟩) 32 c9 (sha (64 + m) (catB 64 (xf 54 n key) b)) rfl HS9.out (fun h => by cases h) (by decide) HB9.out.size (HXB.out 92 (by decide)) (fun j _ => sha_lt _ _ j) ?_; intro A10 c10 w10 h1 h2 h3 h4; have HS10 := Lib.hid h2; have HN10 := Lib.hid h3.2.2; have HB10 := Lib.hid (HB9.out.trans h4); clear h1 h2 h3 h4)
            refine (rsum_own A10 (64 + 32) c10 (catB 64 (xf 92 n key) (sha (64 + m) (catB 64 (xf 54 n key) b))) w10 (by decide) HS10.out HN10.out).mono ?_
            rintro e w11 ⟨A11, c11, rfl, ⟨h1, h2⟩, h3⟩
            have HW10 := Lib.hid (G2.out.trans (HB10.out.mono G2.out.size))
            have HS11 := Lib.hid h1
            have HO11 := Lib.hid (h2.less HW10.out.size)
            have HB11 := Lib.hid (HW10.out.trans (h3.mono HW10.out.size))
            clear h1 h2 h3
            go_wp2_with fail
            go_ret
            exact ⟨⟨A11, c11, rfl, HS11.out, HO11.out⟩, HB11.out⟩
  · have hd : decide (64 < (n : Int)) = false := by simp; omega
    have HL := Lib.hid (show n ≤ 64 by omega)
    clear hl
    go_enter Tryz.func116, Tryz.ntmps116
    go_wp2_with (refine wpList_appO rfl (.tmp 9) (.tmp 10) rfl w.heap.size _ 0 key rfl HE.out A n c key rfl HA.out HNA.out (by have := HN.out; omega) HB0.out.size (fun j hj => absurd hj (Nat.not_lt_zero j)) HFA.out ?_; intro A1 c1 w1 h1 h2 h3 h4; rw [Nat.zero_add] at h1 h2 h3 ⊢; have HO1 := Lib.hid (OwnB.congr (g := key) h1 fun j _ => rfl); have HS1 := Lib.hid (SlB.congr (f' := key) h2 fun j _ => rfl); have HN1 := Lib.hid h3.2.2; have HB1 := Lib.hid (HB0.out.trans h4); clear h1 h2 h3 h4)
    obtain ⟨w3, hw3⟩ : ∃ w3, w3 = w1 := ⟨_, rfl⟩
    subst hw3
    have HO3 := Lib.hid (OwnB.congr (g := kf n key) HO1.out fun j hj => (kf_at key HL.out hj).symm)
    have HB3 := Lib.hid HB1.out
    have HZ := Lib.hid (fun j (hj : n ≤ j) => kf_past key HL.out hj)
    have hnl := HL.out
    clear hd HO1 HS1 HN1 HB1
    go_wp2_with fail
    go_loopw [5] (fun v wr => ∃ (l : Nat) (A4 : Option Addr) (c4 : Nat), n ≤ l ∧ l ≤ 64 ∧ v = .slice A4 l c4 ∧ OwnB wr w.heap.size (.slice A4 l c4) l (kf n key) ∧ Below w.heap.size w wr) (fun v _ => 64 - lenOf v)
    case atStart => exact ⟨n, A1, c1, Nat.le_refl _, by omega, rfl, HO3.out, HB3.out⟩
    case round =>
      obtain ⟨l, A4, c4, hl1, hl2, rfl, h1, h2⟩ := hrel
      have G1 := Lib.hid h1
      have G2 := Lib.hid h2
      have HKB := Lib.hid (kf_by HFA.out)
      have HZ1 := Lib.hid fun W => one_sl W 0 (by decide)
      clear h1 h2
      by_cases hlt : l < 64
      · have hli : (l : Int) < 64 := by omega
        have HO4 := Lib.hid (G1.out.alloc (.cells #[.int .u8 ((0 : Nat) : Int)] 5))
        have HB4 := Lib.hid (G2.out.alloc G2.out.size (.cells #[.int .u8 ((0 : Nat) : Int)] 5))
        have HZL := Lib.hid (HZ.out l hl1)
        have HMS := Lib.hid (show 64 - (l + 1) < 64 - l by omega)
        go_wp2_with (refine wpList_appO rfl (.tmp 20) (.tmp 21) rfl w.heap.size _ l (kf n key) rfl HO4.out (some ⟨_, 0, none⟩) 1 1 (fun _ => 0) rfl (HZ1.out _) (fun h => by cases h) (by omega) HB4.out.size (fun j hj => HKB.out j (by omega)) (fun _ _ => by decide) ?_; intro A5 c5 w5 h1 h2 h3 h4; have HO5 := Lib.hid (OwnB.congr (g := kf n key) h1 fun j hj => by unfold catB; by_cases e : j < l; rw [if_pos e]; rw [if_neg e, show j = l by omega, HZL.out]); have HB5 := Lib.hid (HB4.out.trans h4); clear h1 h2 h3 h4)
        go_roundw
        case rel => exact ⟨l + 1, A5, c5, by omega, by omega, rfl, HO5.out, HB5.out⟩
        case measure => exact HMS.out
      · obtain rfl : l = 64 := by omega
        obtain ⟨A6, c6, e6, hsl6⟩ := OwnB.slice G1.out (fun j hj => HKB.out j hj)
        cases e6
        have HK6 := Lib.hid hsl6
        have hA6 : ∃ B6 o6, A4 = some ⟨B6, o6, none⟩ := by
          obtain ⟨B6, o6, e, _⟩ := hsl6 (by decide)
          exact ⟨B6, o6, e⟩
        obtain ⟨B6, o6, rfl⟩ := hA6
        clear hsl6 hl1 hl2 hlt HO3 HB3 HZ
        go_wp2_with fail
        obtain ⟨w4, hw4⟩ : ∃ w4, w4 = wr := ⟨_, rfl⟩
        subst hw4
        go_loopw [6, 7, 8] (fun v6 v7 t wx => ∃ k : Nat, k ≤ 64 ∧ t = .int .i64 k ∧ OwnB wx w4.heap.size v6 k (xf 54 n key) ∧ OwnB wx w4.heap.size v7 k (xf 92 n key) ∧ Apart v6 v7 ∧ Below w4.heap.size w4 wx) (fun _ _ t _ => 64 - (intOf t).toNat)
        case atStart => exact ⟨0, Nat.zero_le _, rfl, OwnB.nil _ _ _, OwnB.nil _ _ _, Apart.nil _, Below.refl _ _⟩
        case round =>
          obtain ⟨k, hk, rfl, h1, h2, h3, h4⟩ := hrel
          have K1 := Lib.hid h1
          have K2 := Lib.hid h2
          have K3 := Lib.hid h3
          have K4 := Lib.hid h4
          clear h1 h2 h3 h4
          by_cases hlt : k < 64
          · have hki : (k : Int) < 64 := by omega
            obtain ⟨B7, o7, e7, hB7, hc7⟩ := HK6.out (by decide)
            cases e7
            have hcell := (K4.out.cell (p := ⟨B6, o6 + k, none⟩) hB7).trans (hc7 k hlt).2
            have HC7 := Lib.hid (fun (W : World) (h : Below w4.heap.size w4 W) => (h.cell (p := ⟨B6, o6 + k, none⟩) hB7).trans (hc7 k hlt).2)
            obtain ⟨x, hx⟩ : ∃ x, kf n key k = x := ⟨_, rfl⟩
            have hxl : x < 256 := by rw [← hx]; exact HKB.out k hlt
            have b1 : bits BinOp.xor .u8 (x : Int) 54 = ((x ^^^ 54 : Nat) : Int) := u8_xor_nat x 54 hxl (by decide)
            have b2 : bits BinOp.xor .u8 (x : Int) 92 = ((x ^^^ 92 : Nat) : Int) := u8_xor_nat x 92 hxl (by decide)
            have HX1 := Lib.hid (show xf 54 n key k = x ^^^ 54 by unfold xf; rw [hx])
            have HX2 := Lib.hid (show xf 92 n key k = x ^^^ 92 by unfold xf; rw [hx])
            have HL1 := Lib.hid (xor_lt8 hxl (show 54 < 256 by decide))
            have HL2 := Lib.hid (xor_lt8 hxl (show 92 < 256 by decide))
            have HY1 := Lib.hid fun W => one_sl W (x ^^^ 54) HL1.out
            have HY2 := Lib.hid fun W => one_sl W (x ^^^ 92) HL2.out
            rw [hx] at hcell HC7
            clear hx hc7 hB7
            generalize x ^^^ 54 = y1 at *
            generalize x ^^^ 92 = y2 at *
            have HP1 := Lib.hid (K1.out.alloc (.cells #[.int .u8 (y1 : Nat)] 5))
            have HP2 := Lib.hid (K2.out.alloc (.cells #[.int .u8 (y1 : Nat)] 5))
            have HPB := Lib.hid (K4.out.alloc K4.out.size (.cells #[.int .u8 (y1 : Nat)] 5))
            have HXB := Lib.hid (fun (c : Nat) (hc : c < 256) => xf_by (c := c) hc HFA.out)
            go_wp2_with (first | (refine wpList_appW rfl (.tmp 27) (.tmp 33) rfl w4.heap.size _ k (xf 54 n key) rfl HP1.out (some ⟨_, 0, none⟩) 1 1 (fun _ => y1) rfl (HY1.out _) (fun h => by cases h) (by omega) HPB.out.size _ k (xf 92 n key) HP2.out K3.out ?_; intro v8 w8 h1 h2 h3 h4; have HQ1 := Lib.hid (OwnB.congr (g := xf 54 n key) h1 fun j hj => by unfold catB; by_cases e : j < k; rw [if_pos e]; rw [if_neg e, show j = k by omega, HX1.out]); have HQ2 := Lib.hid h2; have HQ3 := Lib.hid h3; have HQB := Lib.hid (HPB.out.trans h4); clear h1 h2 h3 h4 hcell; have hcell := HC7.out w8 HQB.out; have HR1 := Lib.hid (HQ1.out.alloc (.cells #[.int .u8 (y2 : Nat)] 5)); have HR2 := Lib.hid (HQ2.out.alloc (.cells #[.int .u8 (y2 : Nat)] 5)); have HRB := Lib.hid (HQB.out.alloc HQB.out.size (.cells #[.int .u8 (y2 : Nat)] 5))) | (refine wpList_appW rfl (.tmp 35) (.tmp 41) rfl w4.heap.size _ k (xf 92 n key) rfl HR2.out (some ⟨_, 0, none⟩) 1 1 (fun _ => y2) rfl (HY2.out _) (fun h => by cases h) (by omega) HRB.out.size _ (k + 1) (xf 54 n key) HR1.out HQ3.out.symm ?_; intro v9 w9 h1 h2 h3 h4; have HS1 := Lib.hid (OwnB.congr (g := xf 92 n key) h1 fun j hj => by unfold catB; by_cases e : j < k; rw [if_pos e]; rw [if_neg e, show j = k by omega, HX2.out]); have HS2 := Lib.hid h2; have HS3 := Lib.hid h3.symm; have HSB := Lib.hid (HRB.out.trans h4); clear h1 h2 h3 h4))
            go_roundw
            case rel => exact ⟨k + 1, by omega, by go_num, HS2.out, HS1.out, HS3.out, HSB.out⟩
            case measure => simp [intOf]; omega
          · obtain rfl : k = 64 := by omega
            have HXB := Lib.hid (fun (c : Nat) (hc : c < 256) => xf_by (c := c) hc HFA.out)
            have HBW := Lib.hid (HB.out.keep (G2.out.trans (K4.out.mono G2.out.size)))
            go_wp2_with (refine wpList_appW rfl (.tmp 44) (.tmp 45) rfl w4.heap.size _ 64 (xf 54 n key) rfl K1.out B m c2 b rfl HBW.out HNB.out (by have := HM.out; omega) K4.out.size _ 64 (xf 92 n key) K2.out K3.out ?_; intro v8 w8 h1 h2 _ h4; have HQ2 := Lib.hid h2; have HQB := Lib.hid (K4.out.trans h4); obtain ⟨A8, c8, e8, hs8⟩ := OwnB.slice h1 (catB_lt (HXB.out 54 (by decide)) HFB.out); obtain ⟨A8', c8', e8', _, _, hn8⟩ := OwnB.cap_le h1; rw [e8] at e8'; cases e8'; subst e8; have HS8 := Lib.hid hs8; have HN8 := Lib.hid hn8; clear h1 h2 h4 hs8 hn8)
            refine (rsum_any A8 (64 + m) c8 (catB 64 (xf 54 n key) b) w8 (by have := HM.out; omega) HS8.out HN8.out).mono ?_
            rintro e w9 ⟨A9, c9, rfl, h1, h2⟩
            have HS9 := Lib.hid h1
            have HY9 := Lib.hid (HQ2.out.keep h2)
            have HB9 := Lib.hid (HQB.out.trans (h2.mono HQB.out.size))
            have hA9 : ∃ B9 o9, A9 = some ⟨B9, o9, none⟩ := by
              obtain ⟨B9, o9, e, _⟩ := h1 (by decide)
              exact ⟨B9, o9, e⟩
            obtain ⟨B9, o9, rfl⟩ := hA9
            clear h1 h2 HQ2 HQB HS8 HN8
            go_wp2_with (refine wpList_appO rfl (.tmp 43) (.tmp 47) rfl w4.heap.size _ 64 (xf 92 n key) rfl HY9.out (some ⟨B9, o9, none⟩) 32 c9 (sha (64 + m) (catB 64 (xf 54 n key) b)) rfl HS9.out (fun h => by cases h) (by decide) HB9.out.size (HXB.out 92 (by decide)) (fun j _ => sha_lt _ _ j) ?_; intro A10 c10 w10 h1 h2 h3 h4; have HS10 := Lib.hid h2; have HN10 := Lib.hid h3.2.2; have HB10 := Lib.hid (HB9.out.trans h4); clear h1 h2 h3 h4)
            refine (rsum_own A10 (64 + 32) c10 (catB 64 (xf 92 n key) (sha (64 + m) (catB 64 (xf 54 n key) b))) w10 (by decide) HS10.out HN10.out).mono ?_
            rintro e w11 ⟨A11, c11, rfl, ⟨h1, h2⟩, h3⟩
            have HW10 := Lib.hid (G2.out.trans (HB10.out.mono G2.out.size))
            have HS11 := Lib.hid h1
            have HO11 := Lib.hid (h2.less HW10.out.size)
            have HB11 := Lib.hid (HW10.out.trans (h3.mono HW10.out.size))
            clear h1 h2 h3
            go_wp2_with fail
            go_ret
            exact ⟨⟨A11, c11, rfl, HS11.out, HO11.out⟩, HB11.out⟩
end Go.Proofs.YthmlcmlpmolmoaaGreatDoor
namespace Go.Proofs.YthmlcmlpmolmoaaGreatDoor.ord
open Go Go.RowKit
def okMuK (ops : Array Oper) (D : List (List Nat)) (L : List (Nat × Nat)) (mu st kp : Nat → Bool) : Bool :=
  L.all fun p => !mu p.1 || L.all fun q => q.1 == p.1 || st q.1 || behind ops ops.size q.1 p.1 || (!kp q.1 && L.all fun r => !dep D r.1 q.1 || r.1 == p.1 || match ops[p.1]? with
    | none => false
    | some o => waits o r.1)
section
variable {P : Program} {ops : Array Oper} {Q : Exit → Act → World → Prop} {D : List (List Nat)} {L : List (Nat × Nat)} {G : Nat → Value → World → Prop} {a0 : Act} {w0 : World} {listed0 : Array Bool} {mu st kp : Nat → Bool}
def liveK (D : List (List Nat)) (L : List (Nat × Nat)) (st kp : Nat → Bool) (listed : Array Bool) (q : Nat) : Prop := st q = true ∨ kp q = true ∨ ∃ r ∈ L, dep D r.1 q = true ∧ listed.getD r.1 false = false
structure InvK (N : Nat) (ops : Array Oper) (D : List (List Nat)) (st kp : Nat → Bool) (L : List (Nat × Nat)) (G : Nat → Value → World → Prop) (a0 : Act) (w0 : World) (listed0 listed : Array Bool) (a : Act) (w : World) : Prop where
  grow : Below w0.heap.size w0 w
  defers : a.defers = a0.defers
  size : a.tmps.size = a0.tmps.size
  lsize : listed.size = listed0.size
  old : ∀ s, (∀ q ∈ L, q.2 = s → listed.getD q.1 false = false) → a.tmps[s]? = a0.tmps[s]?
  new : ∀ q ∈ L, listed.getD q.1 false = true → ∃ v, a.tmps[q.2]? = some v ∧ (liveK D L st kp listed q.1 → G q.1 v w)
  closed : ∀ q ∈ L, listed.getD q.1 false = true → ∀ o, ops[q.1]? = some o → ∀ j, waits o j = true → listed.getD j false = true
  tail : ∀ t, N ≤ t → t < ops.size → listed.getD t true = false
theorem step_invK {N : Nat} (hok : okT N ops listed0 a0.tmps.size D L = true) (hmu : okMuK ops D L mu st kp = true) (hst : ∀ i v w w', G i v w → Below w.heap.size w w' → G i v w') (hst2 : ∀ i v w w', st i = true → G i v w → Below w0.heap.size w w' → G i v w') (hstep : ∀ p ∈ L, StepM P ops D L G mu a0 w0 p)
    {listed : Array Bool} {a : Act} {w : World} (I : InvK N ops D st kp L G a0 w0 listed0 listed a w) {i : Nat} (hi : i ∈ Region.ready .any ops listed) (hiN : i < N) :
    wpOp P ops Q i (fun a' w' => InvK N ops D st kp L G a0 w0 listed0 (listed.setIfInBounds i true) a' w') a w := by
  obtain ⟨hun, o, ho, hdeps⟩ := mem_ready.1 hi
  have hdeps' : ∀ j, waits o j = true → listed.getD j false = true := fun j hj => by
    obtain ⟨e, he, hb, rfl⟩ := waits_iff.1 hj; exact hdeps e he hb
  unfold okT at hok
  simp only [Bool.and_eq_true, decide_eq_true_eq, List.all_eq_true] at hok
  obtain ⟨p, hp, rfl⟩ : ∃ p ∈ L, p.1 = i := by
    obtain ⟨q, hq, e⟩ := List.any_eq_true.1 (hok.1.1.2 i (List.mem_range.2 hiN))
    exact ⟨q, hq, by simpa using e⟩
  have hls0 : listed0.size = ops.size := by simpa using hok.1.1.1
  have hany0 := hok.1.1.2
  obtain ⟨⟨⟨_, _⟩, hn1, hn2⟩, hall⟩ := hok
  have hp0 := hall p hp
  obtain ⟨hpN, ⟨⟨hsz, hls⟩, _⟩, hpo⟩ := hp0
  rw [ho] at hpo
  simp only [Bool.and_eq_true, List.all_eq_true, beq_iff_eq, Bool.or_eq_true, Bool.not_eq_true', beq_eq_false_iff_ne] at hpo
  obtain ⟨⟨⟨_, hDw, hdst⟩, hsel⟩, hlooks⟩ := hpo
  have hD : ∀ j, dep D p.1 j = true → waits o j = true := fun j hj => by
    unfold dep at hj
    obtain ⟨k, hk, e⟩ := List.any_eq_true.1 hj
    have := Nat.eq_of_beq_eq_true e
    subst this
    exact hDw _ hk
  have hsel' : ∀ cs b, o.op ≠ .select cs b := fun cs b e => by rw [e] at hsel; cases hsel
  have hli : p.1 < listed.size := by rw [I.lsize]; exact hls
  have hunF : listed.getD p.1 false = false := by
    simp only [Array.getD_eq_getD_getElem?, Array.getElem?_eq_getElem hli, Option.getD_some] at hun ⊢; exact hun
  have HCL : ∀ j oj, ops[j]? = some oj → listed.getD j false = true → ∀ e ∈ oj.after, Region.binds .any e = true → listed.getD e.on false = true := fun j oj hj hl e he hb => by
    have hlt : j < ops.size := (Array.getElem?_eq_some_iff.1 hj).1
    rcases Nat.lt_or_ge j N with h | h
    · obtain ⟨q, hq, eq⟩ := List.any_eq_true.1 (hany0 j (List.mem_range.2 h))
      have eq' : q.1 = j := by simpa using eq
      subst eq'
      exact I.closed q hq hl oj hj e.on (waits_iff.2 ⟨e, he, hb, rfl⟩)
    · have h1 := I.tail j h hlt
      have hlt2 : j < listed.size := by rw [I.lsize, hls0]; exact hlt
      simp only [Array.getD_eq_getD_getElem?, Array.getElem?_eq_getElem hlt2, Option.getD_some] at h1 hl
      rw [h1] at hl; cases hl
  have hx : ∃ x : Nat → Value, ∀ q ∈ L, listed.getD q.1 false = true → a.tmps[q.2]? = some (x q.1) ∧ (liveK D L st kp listed q.1 → G q.1 (x q.1) w) := by
    refine ⟨fun j => match L.find? (fun q => q.1 == j) with | some q => a.tmps.getD q.2 undef | none => undef, fun q hq hl => ?_⟩
    obtain ⟨v, hv, hg⟩ := I.new q hq hl
    have hf : L.find? (fun r => r.1 == q.1) = some q := by
      cases hfd : L.find? (fun r => r.1 == q.1) with
      | none => have := List.find?_eq_none.1 hfd q hq; simp at this
      | some r =>
        have h1 := List.find?_some hfd
        have h2 := List.mem_of_find?_eq_some hfd
        have e : r.1 = q.1 := by simpa using h1
        have : r = q := by
          exact nodup_inj (f := (·.1)) hn1 h2 hq e
        rw [this]
    simp only [hf, Array.getD_eq_getD_getElem?, hv, Option.getD_some]
    exact ⟨trivial, hg⟩
  obtain ⟨x, hx⟩ := hx
  have hsame : ∀ t ∈ o.looksAt ops, a.tmps[t]? = (puts x (dep D p.1) L a0).tmps[t]? := fun t ht => by
    rcases Classical.em (∃ q ∈ L, q.2 = t ∧ dep D p.1 q.1 = true) with ⟨q, hq, rfl, hw⟩ | hno
    · have hsq : q.2 < a0.tmps.size := (hall q hq).2.1.1.1
      rw [puts_at x (dep D p.1) L a0 q hn2 hq hw hsq]
      exact (hx q hq (hdeps' _ (hD _ hw))).1
    · rw [puts_not x (dep D p.1) L a0 t fun q hq e => by
        cases hw : dep D p.1 q.1
        · rfl
        · exact absurd ⟨q, hq, e, hw⟩ hno]
      refine I.old t fun q hq e => ?_
      rcases hlooks t ht q hq with (h | h) | h
      · exact absurd e h
      · exact absurd ⟨q, hq, e, h⟩ hno
      · cases hl : listed.getD q.1 false
        · rfl
        · cases hoq : ops[q.1]? with
          | none => rw [hoq] at h; cases h
          | some o' =>
            rw [hoq] at h
            have := I.closed q hq hl o' hoq p.1 h
            rw [hunF] at this; cases this
  have hS := hstep p hp o ho x w I.grow fun q hq hw => (hx q hq (hdeps' _ (hD _ hw))).2 (Or.inr (Or.inr ⟨p, hp, hw, hunF⟩))
  rw [← wanted_of hsame] at hS
  have keep : ∀ v w', Below (if mu p.1 then w0.heap.size else w.heap.size) w w' → G p.1 v w' → InvK N ops D st kp L G a0 w0 listed0 (listed.setIfInBounds p.1 true) (a.put o.dst v) w' := fun v w' hb hg => by
    have hput : ∀ s, s ≠ p.2 → (a.put o.dst v).tmps[s]? = a.tmps[s]? := fun s hs => by
      rw [hdst]; simp [Act.put, Array.getElem?_setIfInBounds_ne (Ne.symm hs)]
    have hputp : (a.put o.dst v).tmps[p.2]? = some v := by
      rw [hdst]; simp [Act.put, I.size, hsz]
    have hset : ∀ j, j ≠ p.1 → (listed.setIfInBounds p.1 true).getD j false = listed.getD j false := fun j hj => getD_set_ne false (Ne.symm hj)
    have hsetp : (listed.setIfInBounds p.1 true).getD p.1 false = true := by simp [hli]
    have uniq : ∀ q ∈ L, q.2 = p.2 → q = p := fun q hq e => by
      exact nodup_inj (f := (·.2)) hn2 hq hp e
    have uniq1 : ∀ q ∈ L, q.1 = p.1 → q = p := fun q hq e => by
      exact nodup_inj (f := (·.1)) hn1 hq hp e
    have hb0 : Below w0.heap.size w w' := hb.mono (by split; exact Nat.le_refl _; exact I.grow.size)
    refine ⟨I.grow.trans hb0, ?_, ?_, ?_, fun s hs => ?_, fun q hq hl => ?_, fun q hq hl o' ho' j hj => ?_, fun s hs ht => ?_⟩
    · rw [hdst]; exact I.defers
    · rw [hdst]; simp [Act.put, I.size]
    · simp [I.lsize]
    · have hsp : s ≠ p.2 := fun e => by
        have := hs p hp e.symm
        rw [hsetp] at this; cases this
      rw [hput s hsp]
      refine I.old s fun q hq e => ?_
      have := hs q hq e
      have hqp : q.1 ≠ p.1 := fun e2 => hsp (by rw [← e, uniq1 q hq e2])
      rwa [hset _ hqp] at this
    · by_cases e : q.1 = p.1
      · obtain rfl := uniq1 q hq e
        exact ⟨v, hputp, fun _ => hg⟩
      · rw [hset _ e] at hl
        obtain ⟨u, hu, hgu⟩ := I.new q hq hl
        have : q.2 ≠ p.2 := fun e2 => e (by rw [uniq q hq e2])
        refine ⟨u, by rw [hput _ this]; exact hu, fun hlv => ?_⟩
        have hlv0 : liveK D L st kp listed q.1 := by
          rcases hlv with h | h | ⟨r, hr, h1, h2⟩
          · exact Or.inl h
          · exact Or.inr (Or.inl h)
          · refine Or.inr (Or.inr ⟨r, hr, h1, ?_⟩)
            by_cases e3 : r.1 = p.1
            · rw [e3]; exact hunF
            · rw [hset _ e3] at h2; exact h2
        by_cases hm : mu p.1 = true
        · unfold okMuK at hmu
          have h3 := List.all_eq_true.1 hmu p hp
          rw [hm] at h3
          have h4 := List.all_eq_true.1 (show (L.all fun q => q.1 == p.1 || st q.1 || behind ops ops.size q.1 p.1 || (!kp q.1 && L.all fun r => !dep D r.1 q.1 || r.1 == p.1 || match ops[p.1]? with | none => false | some o => waits o r.1)) = true by simpa using h3) q hq
          by_cases hsq : st q.1 = true
          · exact hst2 _ _ _ _ hsq (hgu hlv0) hb0
          by_cases hbe : behind ops ops.size q.1 p.1 = true
          · exfalso
            have := behind_listed HCL _ _ _ hbe hl
            rw [hunF] at this; cases this
          have h4' : (!kp q.1 && L.all fun r => !dep D r.1 q.1 || r.1 == p.1 || match ops[p.1]? with | none => false | some o => waits o r.1) = true := by simpa [e, hsq, hbe] using h4
          rw [Bool.and_eq_true] at h4'
          rcases hlv with h | h | ⟨r, hr, h1, h2⟩
          · exact absurd h hsq
          · rw [h] at h4'; cases h4'.1
          · · exfalso
              have h5 := List.all_eq_true.1 h4'.2 r hr
              rw [h1, ho] at h5
              by_cases e3 : r.1 = p.1
              · rw [e3, hsetp] at h2; cases h2
              · have h6 : waits o r.1 = true := by simpa [e3] using h5
                have h7 := hdeps' _ h6
                rw [hset _ e3, h7] at h2; cases h2
        · rw [if_neg hm] at hb
          exact hst _ _ _ _ (hgu hlv0) hb
    · by_cases e : q.1 = p.1
      · obtain rfl := uniq1 q hq e
        rw [ho] at ho'
        cases ho'
        have := hdeps' j hj
        exact getD_set_true this
      · rw [hset _ e] at hl
        exact getD_set_true (I.closed q hq hl o' ho' j hj)
    · rw [getD_set_ne true (show p.1 ≠ s by omega)]
      exact I.tail s hs ht
  unfold wpOp
  rw [ho]
  show if Region.wanted o (yielded ops a.tmps) = true then _ else _
  rcases hS with ⟨hw, hm⟩ | ⟨hw, hg⟩
  · rw [if_pos hw]
    refine Or.inl (wp_of_makes (N := fun v w' => Below (if mu p.1 then w0.heap.size else w.heap.size) w w' ∧ G p.1 v w') ?_ fun v w' h => keep v w' h.1 h.2)
    unfold makes at hm ⊢
    rw [exec_of hsel' hsame]
    exact hm
  · rw [hw, if_neg (by decide)]
    exact keep _ _ (Below.refl _ _) hg
theorem done_eqK {N : Nat} (hn2 : (L.map (·.2)).Nodup) (hsz : ∀ q ∈ L, q.2 < a0.tmps.size) {listed : Array Bool} {a : Act} {w : World} (I : InvK N ops D st kp L G a0 w0 listed0 listed a w) (hl : ∀ q ∈ L, listed.getD q.1 false = true) (hn1 : (L.map (·.1)).Nodup) :
    ∃ x : Nat → Value, (∀ q ∈ L, (st q.1 = true ∨ kp q.1 = true) → G q.1 (x q.1) w) ∧ a = puts x (fun _ => true) L a0 := by
  have hx : ∃ x : Nat → Value, ∀ q ∈ L, a.tmps[q.2]? = some (x q.1) ∧ ((st q.1 = true ∨ kp q.1 = true) → G q.1 (x q.1) w) := by
    refine ⟨fun j => match L.find? (fun q => q.1 == j) with | some q => a.tmps.getD q.2 undef | none => undef, fun q hq => ?_⟩
    obtain ⟨v, hv, hg⟩ := I.new q hq (hl q hq)
    have hf : L.find? (fun r => r.1 == q.1) = some q := by
      cases hfd : L.find? (fun r => r.1 == q.1) with
      | none => have := List.find?_eq_none.1 hfd q hq; simp at this
      | some r =>
        have h1 := List.find?_some hfd
        have h2 := List.mem_of_find?_eq_some hfd
        have e : r.1 = q.1 := by simpa using h1
        have : r = q := by
          exact nodup_inj (f := (·.1)) hn1 h2 hq e
        rw [this]
    simp only [hf, Array.getD_eq_getD_getElem?, hv, Option.getD_some]
    exact ⟨trivial, fun h => hg (h.elim Or.inl fun h => Or.inr (Or.inl h))⟩
  obtain ⟨x, hx⟩ := hx
  refine ⟨x, fun q hq => (hx q hq).2, ?_⟩
  have ht : a.tmps = (puts x (fun _ => true) L a0).tmps := by
    apply Array.ext_getElem?
    intro s
    rcases Classical.em (∃ q ∈ L, q.2 = s) with ⟨q, hq, rfl⟩ | hno
    · rw [puts_at x _ L a0 q hn2 hq rfl (hsz q hq), (hx q hq).1]
    · rw [puts_not x _ L a0 s fun q hq e => absurd ⟨q, hq, e⟩ hno]
      exact I.old s fun q hq e => absurd ⟨q, hq, e⟩ hno
  have hd : a.defers = (puts x (fun _ => true) L a0).defers := by rw [puts_defers, I.defers]
  cases a
  simp only at ht hd
  rw [ht, hd]
theorem head_ofK {N : Nat} {listed : Array Bool} {a : Act} {w : World} (hls : listed0.size = ops.size) (hany : ∀ i, i < N → ∃ q ∈ L, q.1 = i) (I : InvK N ops D st kp L G a0 w0 listed0 listed a w) : HeadInv .any ops N listed := by
  refine ⟨by rw [I.lsize, hls], fun j oj hj hl e he hb => ?_, I.tail⟩
  have hlt : j < ops.size := (Array.getElem?_eq_some_iff.1 hj).1
  rcases Nat.lt_or_ge j N with h | h
  · obtain ⟨q, hq, rfl⟩ := hany j h
    exact I.closed q hq hl oj hj e.on (waits_iff.2 ⟨e, he, hb, rfl⟩)
  · have h1 := I.tail j h hlt
    have hs : listed.size = ops.size := by rw [I.lsize, hls]
    have hlt2 : j < listed.size := by omega
    simp only [Array.getD_eq_getD_getElem?, Array.getElem?_eq_getElem hlt2, Option.getD_some] at h1 hl
    rw [h1] at hl; cases hl
theorem wpAny_K {N g : Nat} (hok : okT N ops listed0 a0.tmps.size D L = true) (hmu : okMuK ops D L mu st kp = true) (hN : N < ops.size) (hs : Region.sinkB .any ops N = true) (hc : Region.chainB .any ops N = true)
    (hst : ∀ i v w w', G i v w → Below w.heap.size w w' → G i v w') (hst2 : ∀ i v w w', st i = true → G i v w → Below w0.heap.size w w' → G i v w') (hstep : ∀ p ∈ L, StepM P ops D L G mu a0 w0 p)
    (hdone : ∀ (listed : Array Bool) (a : Act) (w : World), InvK N ops D st kp L G a0 w0 listed0 listed a w → (∀ i, i < N → listed.getD i true = true) → wpAny P .any ops Q g listed a w) :
    ∀ (m : Nat) (listed : Array Bool) (a : Act) (w : World), todo listed N = m → InvK N ops D st kp L G a0 w0 listed0 listed a w → wpAny P .any ops Q (m + g) listed a w
  | 0, listed, a, w, hm, I => by
    rw [Nat.zero_add]
    exact hdone _ _ _ I (todo_zero listed N hm)
  | m + 1, listed, a, w, hm, I => by
    have hok' := hok
    unfold okT at hok'
    simp only [Bool.and_eq_true, decide_eq_true_eq, List.all_eq_true, beq_iff_eq] at hok'
    obtain ⟨⟨⟨hls, hany⟩, _, _⟩, _⟩ := hok'
    have hany' : ∀ i, i < N → ∃ q ∈ L, q.1 = i := fun i hi => by
      obtain ⟨q, hq, e⟩ := List.any_eq_true.1 (hany i (List.mem_range.2 hi))
      exact ⟨q, hq, by simpa using e⟩
    have HI := head_ofK hls hany' I
    obtain ⟨i0, hi0, hu0⟩ := todo_pos listed N (by omega)
    rw [show m + 1 + g = (m + g) + 1 by omega]
    refine ⟨fun h0 => ?_, fun i hi => ?_⟩
    · exfalso
      obtain ⟨q, hq, rfl⟩ := hany' i0 hi0
      have := all_listedT hok I.lsize h0 q hq
      have hlt : q.1 < listed.size := by rw [I.lsize, hls]; omega
      simp only [Array.getD_eq_getD_getElem?, Array.getElem?_eq_getElem hlt, Option.getD_some] at this hu0
      rw [this] at hu0; cases hu0
    · have hiN : i < N := by
        rcases Nat.lt_or_ge i N with h | h
        · exact h
        · exact absurd hi (tail_waits hs hc hN HI _ i0 rfl hi0 hu0 i h)
      refine wpOp_mono (fun a' w' I' => wpAny_K hok hmu hN hs hc hst hst2 hstep hdone m _ a' w' ?_ I') (step_invK hok hmu hst hst2 hstep I hi hiN)
      have := todo_set listed i (mem_ready.1 hi).1 N
      rw [if_pos hiN] at this
      omega
end
theorem wp_region_ordK {P : Program} {l : List Oper} {Q : Exit → Act → World → Prop} {a0 : Act} {w : World} {id : Nat} (N : Nat) (D : List (List Nat)) (L : List (Nat × Nat)) (G : Nat → Value → World → Prop) (mu st kp : Nat → Bool) (hm : P.follows .mixedOrders = true)
    (hok : okT N l.toArray (Array.replicate l.toArray.size false) a0.tmps.size D L = true) (hB : (decide (N < l.toArray.size) && Region.sinkB .any l.toArray N && Region.chainB .any l.toArray N && Region.seqB .any l.toArray (l.toArray.size - N) N (Array.replicate N true ++ Array.replicate (l.toArray.size - N) false)) = true)
    (hmu : okMuK l.toArray D L mu st kp = true)
    (hst : ∀ i v w w', G i v w → Below w.heap.size w w' → G i v w') (hst2 : ∀ i v w0 w', st i = true → G i v w0 → Below w.heap.size w0 w' → G i v w') (hstep : ∀ p ∈ L, StepM P l.toArray D L G mu a0 w.drew p)
    (hdone : ∀ (x : Nat → Value) (w' : World), Below w.heap.size w w' → (∀ q ∈ L, (st q.1 = true ∨ kp q.1 = true) → G q.1 (x q.1) w') → wpList P l.toArray Q (l.drop N) (puts x (fun _ => true) L a0) w') :
    (Code.region id l.toArray true).wp P Q a0 w := by
  simp only [Bool.and_eq_true, decide_eq_true_eq] at hB
  obtain ⟨⟨⟨hN, hs⟩, hc⟩, hseq⟩ := hB
  have hok' := hok
  unfold okT at hok'
  simp only [Bool.and_eq_true, decide_eq_true_eq, List.all_eq_true, beq_iff_eq] at hok'
  obtain ⟨⟨_, hn1, hn2⟩, hall⟩ := hok'
  refine wp_region_any hm ?_
  have hF : ∀ i, (Array.replicate l.toArray.size false).getD i false = false := fun i => getD_replicate_false _ _
  have key := wpAny_K (P := P) (Q := Q) (w0 := w.drew) (g := l.toArray.size - N) hok hmu hN hs hc hst hst2 hstep (fun listed a w1 I hl => by
    have hall' : ∀ q ∈ L, listed.getD q.1 false = true := fun q hq => by
      have h1 := hl q.1 (hall q hq).1
      have hlt : q.1 < listed.size := by rw [I.lsize]; simp; have := (hall q hq).1; simp at hN; omega
      simp only [Array.getD_eq_getD_getElem?, Array.getElem?_eq_getElem hlt, Option.getD_some] at h1 ⊢
      exact h1
    obtain ⟨x, hx, rfl⟩ := done_eqK hn2 (fun q hq => (hall q hq).2.1.1.1) I hall' hn1
    have hls : listed.size = l.toArray.size := by rw [I.lsize]; simp
    have hle : listed = Array.replicate N true ++ Array.replicate (l.toArray.size - N) false := by
      apply Array.ext
      · simp at hls hN ⊢; omega
      · intro i h1 h2
        rcases Nat.lt_or_ge i N with h | h
        · have h3 := hl i h
          simp only [Array.getD_eq_getD_getElem?, Array.getElem?_eq_getElem h1, Option.getD_some] at h3
          rw [h3, Array.getElem_append_left (by simpa using h)]; simp
        · have h3 := I.tail i h (by omega)
          simp only [Array.getD_eq_getD_getElem?, Array.getElem?_eq_getElem h1, Option.getD_some] at h3
          rw [h3, Array.getElem_append_right (by simpa using h)]; simp
    have hdl : (l.drop N).length = l.toArray.size - N := by simp
    have := wpAny_of_seq (P := P) (md := .any) (Q' := Q) (ops := l.toArray) (l.drop N) N listed (puts x (fun _ => true) L a0) w1 (fun j => by simp [List.getElem?_drop]) (by rw [hdl, hle]; exact hseq) (hdone x w1 ⟨I.grow.os, I.grow.tape, I.grow.output, I.grow.size, I.grow.block⟩ hx)
    rwa [hdl] at this) N (Array.replicate l.toArray.size false) a0 w.drew (todo_none _ _ (Nat.le_of_lt hN)) ⟨Below.refl _ _, rfl, rfl, rfl, fun _ _ => rfl, (fun q hq hl => absurd hl (by rw [hF]; decide)), (fun q hq hl => absurd hl (by rw [hF]; decide)), (fun t _ ht => getD_in (by simpa using ht) (hF t))⟩
  rw [show N + (l.toArray.size - N) = l.toArray.size by omega] at key
  exact key
end Go.Proofs.YthmlcmlpmolmoaaGreatDoor.ord
namespace Go.Proofs.YthmlcmlpmolmoaaGreatDoor
open Go.RowKit
theorem strCells_bytes (s : ByteArray) : Lib.strCells s = bytesL s.size (by_ s) := by
  unfold Lib.strCells bytesL
  apply List.ext_getElem?
  intro j
  by_cases hj : j < s.size
  · have hj' : j < s.data.toList.length := by rw [Array.length_toList]; exact hj
    rw [List.getElem?_map, List.getElem?_map, List.getElem?_range hj, List.getElem?_eq_getElem hj']
    show some (Value.int .u8 ((s.data.toList[j]).toNat : Nat)) = some (Value.int .u8 ((by_ s j : Nat) : Int))
    unfold by_
    rw [List.getD_eq_getElem?_getD, List.getElem?_eq_getElem hj']
    rfl
  · rw [List.getElem?_eq_none (by rw [List.length_map, Array.length_toList]; exact Nat.le_of_not_lt hj), List.getElem?_eq_none (by rw [List.length_map, List.length_range]; exact Nat.le_of_not_lt hj)]
theorem run_appS (w : World) (base : Nat) (v : Value) (n : Nat) (f : Nat → Nat) (hown : OwnB w base v n f) (s : ByteArray) (hn : n + s.size ≤ 100000000000000) (hbase : base ≤ w.heap.size) (hf : ∀ j, j < n → f j < 256) :
    ∃ A' c' w', (Builtin.append_ #[22, 9] 22 #[v, .string s]).run Tryz.prog w = .ok (.slice A' (n + s.size) c') w' ∧ SlB w' A' (n + s.size) (catB n f (by_ s)) ∧ (A' = none → n + s.size = 0 ∧ c' = 0) ∧ Below base w w' := by
  obtain ⟨i, hi, hz, hsz, hb⟩ := info_parts info8
  obtain ⟨v', w', hr, h1, h2, _⟩ := Lib.run_append_own_string (P := Tryz.prog) w base 22 9 22 5 i Tryz.underlying22 Tryz.underlying9 hi hz hsz hb v n _ hown s (by unfold maxLen; omega) (by omega) hbase
  rw [strCells_bytes, bytesL_cat] at h1
  obtain ⟨A', c', rfl, hsl⟩ := OwnB.slice (f := catB n f (by_ s)) h1 (catB_lt hf fun j _ => by_lt s j)
  obtain ⟨A2, c2, e, _, _, h4⟩ := OwnB.cap_le (f := catB n f (by_ s)) h1
  cases e
  exact ⟨A', c', w', hr, hsl, h4, (Below.refl base w).grown h2 hbase fun k hk => (hown.lt k hk).1⟩
namespace ord
theorem makes_append2 {P : Program} {o : Oper} {a : Act} {w : World} {N : Value → World → Prop} {s x : Operand} {t u : TypeId} {vs vx v : Value} {w' : World} (ho : o.op = .call { callee := .builtin .append, args := #[s, x], argTypes := #[t, u] }) (ht : o.type = t) (hs : a.eval s = vs) (hx : a.eval x = vx)
    (hrun : (Builtin.append_ #[t, u] t #[vs, vx]).run P w = .ok v w') (hN : N v w') : makes P o a w N := by
  unfold makes
  have : (execOp a.eval o).run P w = .ok (.value v) w' := by
    simp [execOp, ho, ht, resolve, invoke, builtin, hs, hx, hrun, Result.andThen]
  rw [this]; exact hN
end ord
theorem run_idxS (B o n c q : Nat) (hq : q < n) (w : World) : (Instr.indexAt 36 (.slice (some ⟨B, o, none⟩) n c) (.int .i64 (q : Nat))).run Tryz.prog w = .ok (.pointer (some ⟨B, o + q, none⟩)) w := by
  have hq2 : (q : Int) < n := by omega
  go_simp
theorem run_loadS (p : Addr) (x : ByteArray) (w : World) (h : w.cell? p = some (.string x)) : (Instr.loadAt 9 (.pointer (some p))).run Tryz.prog w = .ok (.string x) w := by
  go_simp
theorem run_lenS (s : ByteArray) (w : World) : (Builtin.len_ #[9] 3 #[.string s]).run Tryz.prog w = .ok (.int .i64 (s.size : Int)) w := by go_simp
def rfG (B o L cL k m : Nat) (A2 : Option Addr) (c2 : Nat) (F : Nat → Nat) (s : ByteArray) (base : Nat) : Nat → Value → World → Prop
  | 0, v, _ => v = .slice A2 m c2
  | 1, v, _ => v = .slice (some ⟨B, o, none⟩) L cL
  | 2, v, _ => v = .int .i64 (k : Nat)
  | 3, v, _ => v = .pointer (some ⟨B, o + k, none⟩)
  | 4, v, _ => v = .string s
  | 5, v, _ => v = .int .i64 (s.size : Nat)
  | 6, v, w => (∃ A c, v = .slice A 8 c) ∧ OwnB w base v 8 (len8 s.size) ∧ base ≤ w.heap.size
  | 7, v, _ => v = .slice (some ⟨B, o, none⟩) L cL
  | 8, v, _ => v = .int .i64 (k : Nat)
  | 9, v, _ => v = .pointer (some ⟨B, o + k, none⟩)
  | 10, v, _ => v = .string s
  | 11, v, w => ∃ A c, v = .slice A (8 + s.size) c ∧ SlB w A (8 + s.size) (catB 8 (len8 s.size) (by_ s)) ∧ (A = none → 8 + s.size = 0 ∧ c = 0)
  | 12, v, w => ∃ A c, v = .slice A 32 c ∧ SlB w A 32 (tag m F (8 + s.size) (catB 8 (len8 s.size) (by_ s))) ∧ OwnB w base (.slice A 32 c) 32 (tag m F (8 + s.size) (catB 8 (len8 s.size) (by_ s)))
  | _, _, _ => True
theorem rfG_stays (B o L cL k m : Nat) (A2 : Option Addr) (c2 : Nat) (F : Nat → Nat) (s : ByteArray) (base : Nat) : ∀ i v w w', rfG B o L cL k m A2 c2 F s base i v w → Below w.heap.size w w' → rfG B o L cL k m A2 c2 F s base i v w'
  | 0, _, _, _, h, _ => h
  | 1, _, _, _, h, _ => h
  | 2, _, _, _, h, _ => h
  | 3, _, _, _, h, _ => h
  | 4, _, _, _, h, _ => h
  | 5, _, _, _, h, _ => h
  | 6, v, w, w', h_, hb => by
    exact ⟨h_.1, h_.2.1.keep hb, Nat.le_trans h_.2.2 hb.size⟩
  | 7, _, _, _, h, _ => h
  | 8, _, _, _, h, _ => h
  | 9, _, _, _, h, _ => h
  | 10, _, _, _, h, _ => h
  | 11, v, w, w', h_, hb => by
    obtain ⟨A, c, h1, h2, h3⟩ := h_; exact ⟨A, c, h1, h2.keep hb, h3⟩
  | 12, v, w, w', h_, hb => by
    obtain ⟨A, c, h1, h2, h3⟩ := h_; exact ⟨A, c, h1, h2.keep hb, h3.keep hb⟩
  | _ + 13, _, _, _, _, _ => trivial
def rfG_mu (i : Nat) : Bool := i == 11
def rfG_st (i : Nat) : Bool := !(i == 6 || i == 11 || i == 12)
theorem rfG_steady (B o L cL k m : Nat) (A2 : Option Addr) (c2 : Nat) (F : Nat → Nat) (s : ByteArray) (base : Nat) : ∀ i v w w', rfG_st i = true → rfG B o L cL k m A2 c2 F s base i v w → rfG B o L cL k m A2 c2 F s base i v w'
  | 0, _, _, _, _, h => h
  | 1, _, _, _, _, h => h
  | 2, _, _, _, _, h => h
  | 3, _, _, _, _, h => h
  | 4, _, _, _, _, h => h
  | 5, _, _, _, _, h => h
  | 6, _, _, _, h, _ => absurd h (by decide)
  | 7, _, _, _, _, h => h
  | 8, _, _, _, _, h => h
  | 9, _, _, _, _, h => h
  | 10, _, _, _, _, h => h
  | 11, _, _, _, h, _ => absurd h (by decide)
  | 12, _, _, _, h, _ => absurd h (by decide)
  | _ + 13, _, _, _, _, _ => trivial
def rfG_kp (i : Nat) : Bool := i == 12
set_option maxRecDepth 100000 in
set_option maxHeartbeats 1600000 in
theorem rfold_own (A : Option Addr) (n c : Nat) (key : Nat → Nat) (AL : Option Addr) (L cL : Nat) (s : Nat → ByteArray) (w0 : World) (hn : n ≤ 140737488351232) (hA : SlB w0 A n key) (hnil : A = none → n = 0 ∧ c = 0) (hL : L ≤ 1000000) (hS : SlS w0 AL L s) (hsz : ∀ j, j < L → (s j).size ≤ 900000000000) :
    Calls Tryz.prog 75 #[.slice A n c, .slice AL L cL] w0 fun e w' => (∃ A' c', e = .returned (.slice A' (fkN n L) c') ∧ SlB w' A' (fkN n L) (fkF n key s L) ∧ OwnB w' w0.heap.size (.slice A' (fkN n L) c') (fkN n L) (fkF n key s L)) ∧ Below w0.heap.size w0 w' := by
  have HA := Lib.hid (hA.keep (alloc_below w0 (.cells #[] 5)))
  have HKB := Lib.hid (show By n key from fun j hj => hA.byte hj)
  have HNI := Lib.hid hnil
  have HN := Lib.hid hn
  have HS := Lib.hid hS
  have HSZ := Lib.hid hsz
  have HE := Lib.hid (OwnB.empty w0 w0.heap.size key (Nat.le_refl _))
  have HB0 := Lib.hid (alloc_below w0 (.cells #[] 5))
  clear hn hA hnil hS hsz
  go_enter Tryz.func75, Tryz.ntmps75
  go_wp2_with (refine wpList_appO rfl (.tmp 7) (.tmp 8) rfl w0.heap.size _ 0 key rfl HE.out A n c key rfl HA.out HNI.out (by have := HN.out; omega) HB0.out.size (fun j hj => absurd hj (Nat.not_lt_zero j)) HKB.out ?_; intro A1 c1 w1 h1 h2 h3 h4; rw [Nat.zero_add] at h1 h2 h3 ⊢; have HS1 := Lib.hid (SlB.congr (f' := key) h2 fun j _ => rfl); have HN1 := Lib.hid h3.2.2; have HB1 := Lib.hid (HB0.out.trans h4); have HO1 := Lib.hid (OwnB.congr (g := key) h1 fun j _ => rfl); clear h1 h2 h3 h4)
  go_loopw [5, 6] (fun v i wr => ∃ (k : Nat) (A2 : Option Addr) (c2 : Nat), k ≤ L ∧ i = .int .i64 k ∧ v = .slice A2 (fkN n k) c2 ∧ SlB wr A2 (fkN n k) (fkF n key s k) ∧ OwnB wr w0.heap.size (.slice A2 (fkN n k) c2) (fkN n k) (fkF n key s k) ∧ (A2 = none → fkN n k = 0 ∧ c2 = 0) ∧ Below w0.heap.size w0 wr) (fun _ i _ => L - (intOf i).toNat)
  case atStart => exact ⟨0, A1, c1, Nat.zero_le _, rfl, rfl, HS1.out, HO1.out, HN1.out, HB1.out⟩
  case round =>
    obtain ⟨k, A2, c2, hk, rfl, rfl, h1, h0, h2, h3⟩ := hrel
    have G1 := Lib.hid h1
    have GO := Lib.hid h0
    have HNA := Lib.hid h2
    have G3 := Lib.hid h3
    have HMM := Lib.hid (fkN_le (n := n) HN.out (by decide) k)
    clear h1 h0 h2 h3
    by_cases hlt : k < L
    · obtain ⟨B, o, rfl, hB, hsa⟩ := HS.out (by omega)
      have HCE := Lib.hid (show ∀ w', Below wr.heap.size wr w' → w'.cell? ⟨B, o + k, none⟩ = some (.string (s k)) from fun w' hb => (hsa.keep (G3.out.trans (hb.mono G3.out.size))) k hlt)
      have HAK := Lib.hid (show ∀ w', Below wr.heap.size wr w' → SlB w' A2 (fkN n k) (fkF n key s k) from fun w' hb => G1.out.keep hb)
      have HSS2 := Lib.hid (HSZ.out k hlt)
      have HSS := Lib.hid (Nat.le_trans HSS2.out (show 900000000000 ≤ 140737488351232 by decide))
      have HNX := Lib.hid (show fkF n key s (k + 1) = tag (fkN n k) (fkF n key s k) (8 + (s k).size) (catB 8 (len8 (s k).size) (by_ (s k))) from rfl)
      have HN1 := Lib.hid (show fkN n (k + 1) = 32 from rfl)
      have hlti : (k : Int) < L := by omega
      have hk5 : k < L := hlt
      clear hsa hB
      obtain ⟨x, hx⟩ : ∃ x, s k = x := ⟨_, rfl⟩
      obtain ⟨m, hm⟩ : ∃ m, fkN n k = m := ⟨_, rfl⟩
      obtain ⟨F, hF⟩ : ∃ F, fkF n key s k = F := ⟨_, rfl⟩
      rw [hx, hm, hF] at HNX
      rw [hx] at HCE HSS HSS2
      rw [hm] at HMM HNA
      rw [hm, hF] at HAK
      rw [hm]
      clear G1 GO hx hm hF
      go_wp2_with fail
      refine ord.wp_region_ordK 13 [[], [], [], [1, 2], [3], [4], [5], [], [], [7, 8], [9], [6, 10], [0, 11]] [(0, 16), (1, 17), (2, 18), (3, 19), (4, 20), (5, 21), (6, 22), (7, 23), (8, 24), (9, 25), (10, 26), (11, 27), (12, 28)] (rfG B o L cL k m A2 c2 F x wr.heap.size) rfG_mu rfG_st rfG_kp (by kernel_rfl) (by kernel_rfl) (by kernel_rfl) (by kernel_rfl) (rfG_stays _ _ _ _ _ _ _ _ _ _ _) (fun i v w0 w' h1 h2 _ => rfG_steady _ _ _ _ _ _ _ _ _ _ _ i v w0 w' h1 h2) ((ord.steps_cons ?_ (ord.steps_cons ?_ (ord.steps_cons ?_ (ord.steps_cons ?_ (ord.steps_cons ?_ (ord.steps_cons ?_ (ord.steps_cons ?_ (ord.steps_cons ?_ (ord.steps_cons ?_ (ord.steps_cons ?_ (ord.steps_cons ?_ (ord.steps_cons ?_ (ord.steps_cons ?_ ord.steps_nil)))))))))))))) ?_
      · intro oo ho y w hb hG
        obtain rfl := Option.some.inj ho
        clear ho
        refine Or.inl ⟨ord.want0 rfl, ?_⟩
        exact ord.makes_move rfl ⟨Below.refl _ _, rfl⟩
      · intro oo ho y w hb hG
        obtain rfl := Option.some.inj ho
        clear ho
        refine Or.inl ⟨ord.want0 rfl, ?_⟩
        exact ord.makes_move rfl ⟨Below.refl _ _, rfl⟩
      · intro oo ho y w hb hG
        obtain rfl := Option.some.inj ho
        clear ho
        refine Or.inl ⟨ord.want0 rfl, ?_⟩
        exact ord.makes_move rfl ⟨Below.refl _ _, rfl⟩
      · intro oo ho y w hb hG
        obtain rfl := Option.some.inj ho
        clear ho
        have h17 : y 1 = .slice (some ⟨B, o, none⟩) L cL := hG (1, 17) (List.mem_of_getElem? (i := 1) rfl) rfl
        have h18 : y 2 = .int .i64 (k : Nat) := hG (2, 18) (List.mem_of_getElem? (i := 2) rfl) rfl
        refine Or.inl ⟨ord.want0 rfl, ?_⟩
        exact ord.makes_indexAddr rfl h17 h18 (run_idxS B o L cL k hk5 w) ⟨Below.refl _ _, rfl⟩
      · intro oo ho y w hb hG
        obtain rfl := Option.some.inj ho
        clear ho
        have h19 : y 3 = .pointer (some ⟨B, o + k, none⟩) := hG (3, 19) (List.mem_of_getElem? (i := 3) rfl) rfl
        refine Or.inl ⟨ord.want0 rfl, ?_⟩
        exact ord.makes_load rfl h19 (run_loadS _ _ w (HCE.out w (of_drew hb))) ⟨Below.refl _ _, rfl⟩
      · intro oo ho y w hb hG
        obtain rfl := Option.some.inj ho
        clear ho
        have h20 : y 4 = .string x := hG (4, 20) (List.mem_of_getElem? (i := 4) rfl) rfl
        refine Or.inl ⟨ord.want0 rfl, ?_⟩
        exact ord.makes_len rfl rfl h20 (run_lenS x w) ⟨Below.refl _ _, rfl⟩
      · intro oo ho y w hb hG
        obtain rfl := Option.some.inj ho
        clear ho
        have h21 : y 5 = .int .i64 (x.size : Nat) := hG (5, 21) (List.mem_of_getElem? (i := 5) rfl) rfl
        refine Or.inl ⟨ord.want0 rfl, ?_⟩
        exact ord.makes_call1 Tryz.func117 (by kernel_rfl) (by kernel_rfl) rfl h21 (eight_any x.size w (Nat.le_trans HSS.out (by decide))) (fun e w' h => by obtain ⟨A, c, he, h2, h4⟩ := h; exact ⟨_, he, h4, ⟨A, c, rfl⟩, h2.less (of_drew hb).size, Nat.le_trans (of_drew hb).size h4.size⟩)
      · intro oo ho y w hb hG
        obtain rfl := Option.some.inj ho
        clear ho
        refine Or.inl ⟨ord.want0 rfl, ?_⟩
        exact ord.makes_move rfl ⟨Below.refl _ _, rfl⟩
      · intro oo ho y w hb hG
        obtain rfl := Option.some.inj ho
        clear ho
        refine Or.inl ⟨ord.want0 rfl, ?_⟩
        exact ord.makes_move rfl ⟨Below.refl _ _, rfl⟩
      · intro oo ho y w hb hG
        obtain rfl := Option.some.inj ho
        clear ho
        have h23 : y 7 = .slice (some ⟨B, o, none⟩) L cL := hG (7, 23) (List.mem_of_getElem? (i := 7) rfl) rfl
        have h24 : y 8 = .int .i64 (k : Nat) := hG (8, 24) (List.mem_of_getElem? (i := 8) rfl) rfl
        refine Or.inl ⟨ord.want0 rfl, ?_⟩
        exact ord.makes_indexAddr rfl h23 h24 (run_idxS B o L cL k hk5 w) ⟨Below.refl _ _, rfl⟩
      · intro oo ho y w hb hG
        obtain rfl := Option.some.inj ho
        clear ho
        have h25 : y 9 = .pointer (some ⟨B, o + k, none⟩) := hG (9, 25) (List.mem_of_getElem? (i := 9) rfl) rfl
        refine Or.inl ⟨ord.want0 rfl, ?_⟩
        exact ord.makes_load rfl h25 (run_loadS _ _ w (HCE.out w (of_drew hb))) ⟨Below.refl _ _, rfl⟩
      · intro oo ho y w hb hG
        obtain rfl := Option.some.inj ho
        clear ho
        have h22 : rfG B o L cL k m A2 c2 F x wr.heap.size 6 (y 6) w := hG (6, 22) (List.mem_of_getElem? (i := 6) rfl) rfl
        have h26 : y 10 = .string x := hG (10, 26) (List.mem_of_getElem? (i := 10) rfl) rfl
        refine Or.inl ⟨ord.want0 rfl, ?_⟩
        obtain ⟨⟨A0, c0, hv⟩, ho, hbs⟩ := h22
        obtain ⟨A1, c1, w1, hr, h1, h2, h3⟩ := run_appS w wr.heap.size _ 8 (len8 x.size) ho x (by have := HSS2.out; omega) hbs (fun j _ => len8_lt _ j)
        exact ord.makes_append2 rfl rfl rfl h26 hr ⟨h3, A1, c1, rfl, h1, h2⟩
      · intro oo ho y w hb hG
        obtain rfl := Option.some.inj ho
        clear ho
        have h16 : y 0 = .slice A2 m c2 := hG (0, 16) (List.mem_of_getElem? (i := 0) rfl) rfl
        have h27 : rfG B o L cL k m A2 c2 F x wr.heap.size 11 (y 11) w := hG (11, 27) (List.mem_of_getElem? (i := 11) rfl) rfl
        refine Or.inl ⟨ord.want0 rfl, ?_⟩
        obtain ⟨A1, c1, hv, hs, hn1⟩ := h27
        exact ord.makes_call2 Tryz.func116 (by kernel_rfl) (by kernel_rfl) rfl h16 hv (rmac_any A2 A1 m c2 (8 + x.size) c1 F _ w HMM.out (by have := HSS2.out; omega) (HAK.out w (of_drew hb)) HNA.out hs hn1) (fun e w' h => by obtain ⟨⟨A3, c3, he, h2, h5⟩, h4⟩ := h; exact ⟨_, he, h4, A3, c3, rfl, h2, h5.less (of_drew hb).size⟩)
      · intro y w5 hb hG
        have e28 : rfG B o L cL k m A2 c2 F x wr.heap.size 12 (y 12) w5 := hG (12, 28) (List.mem_of_getElem? (i := 12) rfl) (Or.inr rfl)
        clear hG
        obtain ⟨A5, c5, hy, hs5, ho5⟩ := e28
        have HO5 := Lib.hid (ho5.less G3.out.size)
        have HS5 := Lib.hid hs5
        have HB5 := Lib.hid (G3.out.trans (hb.mono G3.out.size))
        have HNE := Lib.hid (show A5 = none → 32 = 0 ∧ c5 = 0 from fun e => by
          obtain ⟨B9, o9, e9, _⟩ := hs5 (by decide)
          rw [e] at e9; cases e9)
        clear hb hs5 ho5
        simp only [ord.puts, ord.put', List.set_cons_zero, List.set_cons_succ, if_true]
        rw [hy]
        simp only [List.drop_succ_cons, List.drop_zero]
        go_wp2_with fail
        go_roundw
        case rel => exact ⟨k + 1, A5, c5, by omega, by go_num, by rw [HN1.out], by rw [HN1.out, HNX.out]; exact HS5.out, by rw [HN1.out, HNX.out]; exact HO5.out, by rw [HN1.out]; exact HNE.out, HB5.out⟩
        case measure => simp [intOf]; omega
    · obtain rfl : k = L := by omega
      go_wp2_with fail
      go_ret
      exact ⟨⟨A2, c2, rfl, G1.out, GO.out⟩, G3.out⟩
end Go.Proofs.YthmlcmlpmolmoaaGreatDoor
namespace Go.Proofs.YthmlcmlpmolmoaaGreatDoor
set_option maxRecDepth 100000
open Go.RowKit
def RKeyP (w : World) (n : Nat) (key : Nat → Nat) (t p v : Int) (e : Ending) (w' : World) : Prop :=
  (∃ A c2 g, e = .returned (.tuple #[.slice A (kN (kok t p v)) c2, .int .i64 (kE (kok t p v))]) ∧ Mine w' w.heap.size (.slice A (kN (kok t p v)) c2) (kN (kok t p v)) (keyF n key t.toNat (nmS p) v.toNat) A c2 g) ∧ Below w.heap.size w w'
set_option maxHeartbeats 1600000 in
theorem rkey_bad (A : Option Addr) (n c : Nat) (t p v : Int) (key : Nat → Nat) (w : World) (hk : kok t p v = false) :
    Calls Tryz.prog 39 #[.slice A n c, .int .i64 t, .int .i64 p, .int .i64 v] w (RKeyP w n key t p v) := by
  have H := Lib.hid (show RKeyP w n key t p v (.returned (.tuple #[.slice none 0 0, .int .i64 1])) w by
    unfold RKeyP
    rw [hk]
    exact ⟨⟨none, 0, 0, rfl, Mine.none0 _ _ _ _⟩, Below.refl _ _⟩)
  have HN := Lib.hid (rname13_any p w)
  by_cases h1 : t < 1
  · clear hk
    go_enter Tryz.func39, Tryz.ntmps39
    go_wp2_with (go_at_call 74; refine HN.out.mono ?_; rintro e w1 ⟨rfl, rfl⟩)
    go_ret2
    exact H.out
  by_cases h2 : 64 < t
  · clear hk
    go_enter Tryz.func39, Tryz.ntmps39
    go_wp2_with (go_at_call 74; refine HN.out.mono ?_; rintro e w1 ⟨rfl, rfl⟩)
    go_ret2
    exact H.out
  cases hb : nmB p with
  | false =>
    rw [hb] at HN
    clear hk hb
    go_enter Tryz.func39, Tryz.ntmps39
    go_wp2_with (go_at_call 74; refine HN.out.mono ?_; rintro e w1 ⟨rfl, rfl⟩)
    go_ret2
    exact H.out
  | true =>
    rw [hb] at HN
    have hp : 1 ≤ p ∧ p ≤ 4 := of_decide_eq_true hb
    clear hb
    by_cases h3 : v < 1
    · clear hk
      go_enter Tryz.func39, Tryz.ntmps39
      go_wp2_with (go_at_call 74; refine HN.out.mono ?_; rintro e w1 ⟨rfl, rfl⟩)
      go_ret2
      exact H.out
    · have h4 : 255 < v := by
        unfold kok at hk
        have := of_decide_eq_false hk
        omega
      clear hk hp
      go_enter Tryz.func39, Tryz.ntmps39
      go_wp2_with (go_at_call 74; refine HN.out.mono ?_; rintro e w1 ⟨rfl, rfl⟩)
      go_ret2
      exact H.out
set_option maxHeartbeats 1600000 in
theorem rkey_good (A : Option Addr) (n c : Nat) (t p v : Int) (key : Nat → Nat) (w : World) (hn : n ≤ 140737488351232) (hA : SlB w A n key) (hnil : A = none → n = 0 ∧ c = 0) (hk : kok t p v = true) :
    Calls Tryz.prog 39 #[.slice A n c, .int .i64 t, .int .i64 p, .int .i64 v] w (RKeyP w n key t p v) := by
  have hk' := hk
  unfold kok at hk'
  have ⟨⟨t1, t2⟩, ⟨p1, p2⟩, v1, v2⟩ := of_decide_eq_true hk'
  clear hk'
  obtain ⟨k, rfl⟩ : ∃ k : Nat, t = (k : Int) := ⟨t.toNat, by omega⟩
  obtain ⟨m, rfl⟩ : ∃ m : Nat, v = (m : Int) := ⟨v.toNat, by omega⟩
  have HN := Lib.hid (rname13_any p w)
  rw [show nmB p = true from decide_eq_true ⟨p1, p2⟩] at HN
  have hm : m < 256 := by omega
  have hkk : k < 256 := by omega
  have d1 : ¬ (k : Int) < 1 := by omega
  have d2 : ¬ 64 < (k : Int) := by omega
  have d3 : ¬ (m : Int) < 1 := by omega
  have d4 : ¬ 255 < (m : Int) := by omega
  have HT1 := Lib.hid (fun W => rtext13_any (v := (k : Int)) (by omega) (by omega) W)
  have HT2 := Lib.hid (fun W => rtext13_any (v := (m : Int)) (by omega) (by omega) W)
  have HI1 := Lib.hid (itoaB_small k hkk)
  have HI2 := Lib.hid (itoaB_small m hm)
  have HNS := Lib.hid (nmS_size p)
  have HA := Lib.hid hA
  have HNI := Lib.hid hnil
  have HNL := Lib.hid hn
  have HRET := Lib.hid (show ∀ A c2 g w', Mine w' w.heap.size (.slice A 32 c2) 32 (fkF n key (lab5 bTenant (itoaB (k : Int)) (nmS p) bVersion (itoaB (m : Int))) 5) A c2 g → Below w.heap.size w w' → RKeyP w n key (k : Int) p (m : Int) (.returned (.tuple #[.slice A 32 c2, .int .i64 0])) w' from fun A c2 g w' h1 h2 => by
    unfold RKeyP
    rw [hk]
    refine ⟨⟨A, c2, g, rfl, ?_⟩, h2⟩
    rw [lab5_key] at h1
    exact h1)
  clear hk t1 t2 p1 p2 v1 v2 hm hkk hA hnil hn
  generalize nmS p = sn at *
  go_enter Tryz.func39, Tryz.ntmps39
  go_wp2_with (go_at_call 74; refine HN.out.mono ?_; rintro e w1 ⟨rfl, rfl⟩)
  refine (HT1.out _).mono ?_
  rintro e w2 ⟨rfl, hb2⟩
  have HB2 := Lib.hid hb2
  clear hb2
  go_wp2_with fail
  refine (HT2.out _).mono ?_
  rintro e w3 ⟨rfl, hb3⟩
  have HB3 := Lib.hid (HB2.out.trans (hb3.mono HB2.out.size))
  clear hb3
  go_wp2_with fail
  have hsls := sls5 w3 bTenant (itoaB (k : Int)) sn bVersion (itoaB (m : Int))
  have HB4 := Lib.hid (HB3.out.trans ((alloc_below w3 (.cells #[.string bTenant, .string (itoaB (k : Int)), .string sn, .string bVersion, .string (itoaB (m : Int))] 9)).mono HB3.out.size))
  generalize hA3 : some (⟨w3.heap.size, 0, none⟩ : Addr) = A3 at *
  generalize w3.alloc (.cells #[.string bTenant, .string (itoaB (k : Int)), .string sn, .string bVersion, .string (itoaB (m : Int))] 9) = w4 at *
  refine (rfold_own A n c key A3 5 5 (lab5 bTenant (itoaB (k : Int)) sn bVersion (itoaB (m : Int))) w4 HNL.out (HA.out.keep HB4.out) HNI.out (by decide) hsls
    (fun j _ => Nat.le_trans (lab5_size (K := 7) (by decide) (Nat.le_trans HI1.out (by decide)) (Nat.le_trans HNS.out (by decide)) (by decide) (Nat.le_trans HI2.out (by decide)) j) (by decide))).mono ?_
  rintro e w5 ⟨⟨A5', c5', rfl, _, h5⟩, hb5⟩
  obtain ⟨A5, c5, g5, hm5⟩ := Mine.of_ownB h5 (fun j _ => tag_lt _ _ _ _ j)
  have hv5 := hm5.val
  injection hv5 with e1 _ e3
  subst e1 e3
  have H5 := Lib.hid (hm5.less HB4.out.size)
  have HB5 := Lib.hid (HB4.out.trans (hb5.mono HB4.out.size))
  clear h5 hm5 hb5 hsls
  go_wp2_with fail
  go_ret2
  exact HRET.out _ _ _ _ H5.out HB5.out
theorem rkey_any (A : Option Addr) (n c : Nat) (t p v : Int) (key : Nat → Nat) (w : World) (hn : n ≤ 140737488351232) (hA : SlB w A n key) (hnil : A = none → n = 0 ∧ c = 0) :
    Calls Tryz.prog 39 #[.slice A n c, .int .i64 t, .int .i64 p, .int .i64 v] w (RKeyP w n key t p v) := by
  cases hk : kok t p v with
  | false => exact rkey_bad A n c t p v key w hk
  | true => exact rkey_good A n c t p v key w hn hA hnil hk
end Go.Proofs.YthmlcmlpmolmoaaGreatDoor
