/- 9 texts in one, in their order. -/
import Derived.Test.YtgcdnhjjoidpmaaGreatDoorPk7
import Derived.Lib.AppendStr
/- The reference: Sum. -/
namespace Go.Proofs.YtgcdnhjjoidpmaaGreatDoor
open Go.RowKit
/-- b[l:h] -/
theorem run_mid (w : World) (A : Option Addr) (n c l h : Nat) (hl : l ≤ h) (hh : h ≤ c) : (Instr.sliceAt 22 (.slice A n c) (some (.int .i64 (l : Int))) (some (.int .i64 (h : Int))) none).run Tryz.prog w = .ok (.slice (hiA A c l) (h - l) (c - l)) w := by
  rw [run_sliceAt_slice (h := underB), run_slice_lh (ht := underB) (h0 := by omega) (h1 := by omega) (h2 := by omega), size8]
  rfl
theorem SlB.mid {w : World} {A : Option Addr} {n c l m : Nat} {f : Nat → Nat} (h : SlB w A n f) (hl : l + m ≤ n) (hn : n ≤ c) : SlB w (Go.Proofs.YtgcdnhjjoidpmaaGreatDoor.hiA A c l) m (fun j => f (l + j)) :=
  SlB.low (n := n - l) (h.hiA (c := c) (k := l) (by omega) hn) (by omega)
theorem padL_eq (n : Nat) : padL n = 64 * ((n + 72) / 64) := rfl
theorem padf_lo (n : Nat) (f : Nat → Nat) (j : Nat) (h : j < n) : padf n f j = f j := if_pos h
theorem padf_at (n : Nat) (f : Nat → Nat) : padf n f n = 128 := by unfold padf; rw [if_neg (Nat.lt_irrefl _), if_pos rfl]
theorem padf_zero (n : Nat) (f : Nat → Nat) (j : Nat) (h1 : n < j) (h2 : j < padL n - 8) : padf n f j = 0 := by unfold padf; rw [if_neg (by omega), if_neg (by omega), if_pos h2]
theorem padf_len (n : Nat) (f : Nat → Nat) (q j : Nat) (h1 : j = padL n - 8 + (7 - q)) (hq : q ≤ 7) : padf n f j = 8 * n / 2 ^ (8 * q) % 256 := by
  have hp : n + 9 ≤ padL n := by unfold padL; omega
  unfold padf
  rw [if_neg (by omega), if_neg (by omega), if_neg (by omega), show padL n - 1 - j = q by omega, Nat.pow_mul]
--DEFS out
def outG (sv : Value) (g c k xx y1 y2 y3 : Nat) (D : Nat → Nat) : Nat → Value → World → Prop
  | 0, v, _ => v = sv
  | 1, v, _ => v = .slice (some ⟨g, 0, none⟩) 8 c
  | 2, v, _ => v = .int .i64 (k : Nat)
  | 3, v, _ => v = .pointer (some ⟨g, k, none⟩)
  | 4, v, _ => v = .int .i64 (xx : Nat)
  | 5, v, _ => v = .int .i64 (y1 : Nat)
  | 6, v, _ => v = .int .u8 (D 0 : Nat)
  | 7, v, _ => v = .slice (some ⟨g, 0, none⟩) 8 c
  | 8, v, _ => v = .int .i64 (k : Nat)
  | 9, v, _ => v = .pointer (some ⟨g, k, none⟩)
  | 10, v, _ => v = .int .i64 (xx : Nat)
  | 11, v, _ => v = .int .i64 (y2 : Nat)
  | 12, v, _ => v = .int .u8 (D 1 : Nat)
  | 13, v, _ => v = .slice (some ⟨g, 0, none⟩) 8 c
  | 14, v, _ => v = .int .i64 (k : Nat)
  | 15, v, _ => v = .pointer (some ⟨g, k, none⟩)
  | 16, v, _ => v = .int .i64 (xx : Nat)
  | 17, v, _ => v = .int .i64 (y3 : Nat)
  | 18, v, _ => v = .int .u8 (D 2 : Nat)
  | 19, v, _ => v = .slice (some ⟨g, 0, none⟩) 8 c
  | 20, v, _ => v = .int .i64 (k : Nat)
  | 21, v, _ => v = .pointer (some ⟨g, k, none⟩)
  | 22, v, _ => v = .int .i64 (xx : Nat)
  | 23, v, _ => v = .int .u8 (D 3 : Nat)
  | 24, v, w => ∃ gg, v = .slice (some ⟨gg, 0, none⟩) 4 4 ∧ SlB w (some ⟨gg, 0, none⟩) 4 D
  | _, _, _ => True
theorem outG_stays (sv : Value) (g c k xx y1 y2 y3 : Nat) (D : Nat → Nat) : ∀ i v w w', outG sv g c k xx y1 y2 y3 D i v w → Below w.heap.size w w' → outG sv g c k xx y1 y2 y3 D i v w'
  | 0, _, _, _, h, _ => h
  | 1, _, _, _, h, _ => h
  | 2, _, _, _, h, _ => h
  | 3, _, _, _, h, _ => h
  | 4, _, _, _, h, _ => h
  | 5, _, _, _, h, _ => h
  | 6, _, _, _, h, _ => h
  | 7, _, _, _, h, _ => h
  | 8, _, _, _, h, _ => h
  | 9, _, _, _, h, _ => h
  | 10, _, _, _, h, _ => h
  | 11, _, _, _, h, _ => h
  | 12, _, _, _, h, _ => h
  | 13, _, _, _, h, _ => h
  | 14, _, _, _, h, _ => h
  | 15, _, _, _, h, _ => h
  | 16, _, _, _, h, _ => h
  | 17, _, _, _, h, _ => h
  | 18, _, _, _, h, _ => h
  | 19, _, _, _, h, _ => h
  | 20, _, _, _, h, _ => h
  | 21, _, _, _, h, _ => h
  | 22, _, _, _, h, _ => h
  | 23, _, _, _, h, _ => h
  | 24, v, w, w', h_, hb => by
    obtain ⟨gg, h1, h2⟩ := h_; exact ⟨gg, h1, h2.keep hb⟩
  | _ + 25, _, _, _, _, _ => trivial
--END DEFS out
set_option maxRecDepth 100000 in
set_option maxHeartbeats 3200000 in
theorem rsum_own (A : Option Addr) (n cap : Nat) (f : Nat → Nat) (w : World) (hn : n ≤ 10000000000000) (hA : SlB w A n f) (hnil : A = none → n = 0 ∧ cap = 0) :
    Calls Tryz.prog 60 #[.slice A n cap] w fun e w' => ∃ A' c', e = .returned (.slice A' 32 c') ∧ (SlB w' A' 32 (sha n f) ∧ OwnB w' w.heap.size (.slice A' 32 c') 32 (sha n f)) ∧ Below w.heap.size w w' := by
  have HA := Lib.hid hA
  have HNIL := Lib.hid hnil
  have HPB := Lib.hid fun m => padf_by n f m (fun j hj => hA.byte hj)
  have HFB := Lib.hid (show ∀ j, j < n → f j < 256 from fun j hj => hA.byte hj)
  have hni : (n : Int) ≤ 10000000000000 := by omega
  clear hA hnil
  have H0 := Lib.hid (show OwnB (w.alloc (.cells #[] 5)) w.heap.size (.slice (some ⟨w.heap.size, 0, none⟩) 0 0) 0 f from OwnB.empty w w.heap.size f (Nat.le_refl _))
  have HA0 := Lib.hid (HA.out.keep ((Below.refl _ _).alloc (Nat.le_refl _) (.cells #[] 5)))
  have HB0 := Lib.hid ((Below.refl w.heap.size w).alloc (Nat.le_refl _) (.cells #[] 5))
  go_enter Tryz.func60, Tryz.ntmps60
  have HW := Lib.hid fun W => one_sl W 128 (by decide)
  go_wp2_with (first | (refine wpList_appO rfl (.tmp 11) (.tmp 12) rfl w.heap.size _ 0 f rfl H0.out A n cap f rfl HA0.out HNIL.out (by omega) HB0.out.size (fun j hj => absurd hj (Nat.not_lt_zero j)) HFB.out ?_; intro A1 c1 w1 h1 h2 h3 h4; rw [Nat.zero_add] at h1 h2 h3 ⊢; have HO1 := Lib.hid (OwnB.congr (g := f) h1 fun j _ => rfl); have HB1 := Lib.hid (HB0.out.trans h4); clear h1 h2 h3 h4; have HO1' := Lib.hid (HO1.out.alloc (.cells #[.int .u8 ((128 : Nat) : Int)] 5)); have HB1' := Lib.hid (HB1.out.alloc HB1.out.size (.cells #[.int .u8 ((128 : Nat) : Int)] 5))) |
    (refine wpList_appO rfl (.tmp 13) (.tmp 14) rfl w.heap.size _ n f rfl HO1'.out (some ⟨_, 0, none⟩) 1 1 (fun _ => 128) rfl (HW.out _) (fun h => by cases h) (by omega) HB1'.out.size HFB.out (fun _ _ => by decide) ?_; intro A2 c2 w2 h1 h2 h3 h4; have HO2 := Lib.hid (OwnB.congr (g := padf n f) h1 fun j hj => by unfold catB; by_cases e : j < n; rw [if_pos e, padf_lo n f j e]; rw [if_neg e, show j = n by omega, padf_at]); have HB2 := Lib.hid (HB1'.out.trans h4); have HC2 := Lib.hid h3; clear h1 h2 h3 h4))
  clear H0 HA0 HB0 HW HO1 HB1 HO1' HB1' HC2
  have HPL := Lib.hid (padL_eq n)
  have HZ := Lib.hid fun W => one_sl W 0 (by decide)
  go_loopw [3] (fun v wr => ∃ (m : Nat) (A3 : Option Addr) (c3 : Nat), n + 1 ≤ m ∧ m ≤ padL n - 8 ∧ v = .slice A3 m c3 ∧ OwnB wr w.heap.size (.slice A3 m c3) m (padf n f) ∧ Below w.heap.size w wr) (fun v _ => padL n - 8 - lenOf v)
  case atStart => exact ⟨n + 1, A2, c2, Nat.le_refl _, by have := HPL.out; omega, rfl, HO2.out, HB2.out⟩
  case round =>
    obtain ⟨m, A3, c3, hm1, hm2, rfl, h1, h2⟩ := hrel
    have H1 := Lib.hid h1
    have H2 := Lib.hid h2
    clear h1 h2 HO2 HB2
    have hm3 : m ≤ 20000000000000 := by have := HPL.out; omega
    have hmi : (m : Int) ≤ 20000000000000 := by omega
    by_cases hr : m % 64 = 56
    · have hb : ((m : Int) % 64 != 56) = false := by simp; omega
      have HLm := Lib.hid (show m = padL n - 8 by have := HPL.out; omega)
      have HX8 := Lib.hid (show (8 : Int) * (n : Int) = ((8 * n : Nat) : Int) by omega)
      have hx1 : 8 * n < 9223372036854775808 := by omega
      clear hr
      go_wp2_with fail
      rw [HX8.out]
      generalize hx : 8 * n = x at *
      have HX := Lib.hid hx
      clear hx HX8
      go_loopw [3, 5] (fun v t wr => ∃ (j : Nat) (A3 : Option Addr) (c3 : Nat), j ≤ 8 ∧ t = .int .i64 (7 - (j : Int)) ∧ v = .slice A3 (m + j) c3 ∧ OwnB wr w.heap.size (.slice A3 (m + j) c3) (m + j) (padf n f) ∧ Below w.heap.size w wr) (fun _ t _ => (intOf t + 1).toNat)
      case atStart => exact ⟨0, A3, c3, Nat.zero_le _, rfl, rfl, H1.out, H2.out⟩
      case round =>
        obtain ⟨j, A5, c5, hj, rfl, rfl, h1, h2⟩ := hrel
        have G1 := Lib.hid h1
        have G2 := Lib.hid h2
        clear h1 h2 H1 H2
        by_cases hj8 : j < 8
        · obtain ⟨q, hq⟩ : ∃ q, q = 7 - j := ⟨_, rfl⟩
          obtain ⟨q8, hq8⟩ : ∃ q8, q8 = 8 * q := ⟨_, rfl⟩
          have eq : (7 : Int) - j = q := by omega
          have eq8 : (8 : Int) * q = q8 := by omega
          have hqi : (q : Int) ≤ 7 := by omega
          have hq8i : (q8 : Int) ≤ 56 := by omega
          have hxi : (x : Int) < 9223372036854775808 := by omega
          obtain ⟨y, hy⟩ : ∃ y, y = x / 2 ^ q8 := ⟨_, rfl⟩
          have hyx : y ≤ x := by rw [hy]; exact Nat.div_le_self _ _
          have ey : (x : Int) / 2 ^ q8 = y := by rw [hy]; simp
          obtain ⟨z, hz⟩ : ∃ z, z = y % 256 := ⟨_, rfl⟩
          have ez : (y : Int) % 256 = z := by omega
          have lz : z < 256 := by omega
          have HZP := Lib.hid (show z = padf n f (m + j) by
            rw [padf_len n f q (m + j) (by have := HLm.out; omega) (by omega), HX.out, ← hq8, ← hy, hz])
          have HZ1 := Lib.hid fun W => one_sl W z lz
          have hyi : (y : Int) < 9223372036854775808 := by omega
          have HEQ := Lib.hid eq
          clear hq hq8 hy hz
          rw [eq]
          have HO3 := Lib.hid (G1.out.alloc (.cells #[.int .u8 (z : Nat)] 5))
          have HB3 := Lib.hid (G2.out.alloc G2.out.size (.cells #[.int .u8 (z : Nat)] 5))
          go_wp2_with (refine wpList_appO rfl (.tmp 30) (.tmp 36) rfl w.heap.size _ (m + j) (padf n f) rfl HO3.out (some ⟨_, 0, none⟩) 1 1 (fun _ => z) rfl (HZ1.out _) (fun h => by cases h) (by omega) HB3.out.size (HPB.out _) (fun _ _ => lz) ?_; intro A4 c4 w4 h1 h2 h3 h4; have HO4 := Lib.hid (OwnB.congr (g := padf n f) h1 fun i hi => by unfold catB; by_cases e : i < m + j; rw [if_pos e]; rw [if_neg e, HZP.out, show i = m + j by omega]); have HB4 := Lib.hid (HB3.out.trans h4); clear h1 h2 h3 h4)
          exact ⟨⟨j + 1, A4, c4, by omega, congrArg _ (by have := HEQ.out; omega), rfl, HO4.out, HB4.out⟩, by simp [intOf]⟩
        · obtain rfl : j = 8 := by omega
          have HLm8 := Lib.hid (show m + 8 = padL n by have := HLm.out; have := HPL.out; omega)
          have et : (7 : Int) - ((8 : Nat) : Int) = -1 := by omega
          rw [et]
          rw [HLm8.out] at G1 ⊢
          clear et
          obtain ⟨A6, c6, e6, hsl6⟩ := OwnB.slice G1.out (HPB.out _)
          obtain ⟨A7, c7, e7, hc7, hc7m, _⟩ := OwnB.cap_le G1.out
          cases e6; cases e7
          have HP := Lib.hid hsl6
          have HCP := Lib.hid hc7
          clear hsl6 hc7
          go_wp2_with fail
          refine (words_any wr).mono ?_
          rintro e Wa ⟨rfl, h1, h2⟩
          have HKa := Lib.hid h1
          have HPa := Lib.hid (HP.out.keep h2)
          have HBa := Lib.hid (G2.out.trans (h2.mono G2.out.size))
          clear h1 h2 G1 G2 HP
          generalize wr.heap.size = gk at *
          go_wp2_with fail
          refine (first_any Wa).mono ?_
          rintro e Wb ⟨rfl, h1, h2⟩
          have HKb := Lib.hid (HKa.out.keep h2)
          have HPb := Lib.hid (HPa.out.keep h2)
          have HBb := Lib.hid (HBa.out.trans (h2.mono HBa.out.size))
          have HFb := Lib.hid h1
          clear h1 h2 HPa HKa HBa
          generalize Wa.heap.size = gf at *
          go_wp2_with fail
          have HPF := Lib.hid (HPB.out (padL n))
          have HST := Lib.hid fun b => hs_ok (padf n f) b
          have HWN := Lib.hid (show ∀ b, 64 * b + 64 ≤ padL n → ∀ j, j < 64 → padf n f (64 * b + j) < 256 from fun b hb j hj => HPF.out _ (by omega))
          have HHS := Lib.hid (show ∀ b, hs (padf n f) (b + 1) = add8 (hs (padf n f) b) (rs (wn (fun j => padf n f (64 * b + j)) 48) (hs (padf n f) b) 64) from fun _ => rfl)
          have HEND := Lib.hid (show ∀ j, sha n f j = dig (hs (padf n f) ((n + 72) / 64)) j from fun _ => rfl)
          obtain ⟨NB, hNB⟩ : ∃ NB, (n + 72) / 64 = NB := ⟨_, rfl⟩
          rw [hNB] at HEND
          have hPL : padL n = 64 * NB := by rw [HPL.out, hNB]
          have hNBs : NB ≤ 1000000000000 := by omega
          have hNBi : (NB : Int) ≤ 1000000000000 := by omega
          rw [hPL] at HPb HCP HWN ⊢
          clear hNB HPL hPL HLm8 HPF HLm HPB HX hx1 hb hm1 hm2
          generalize padf n f = P at *
          go_loopw [7, 8] (fun v t wr => ∃ (b g c : Nat), b ≤ NB ∧ t = .int .i64 ((64 * b : Nat) : Int) ∧ v = .slice (some ⟨g, 0, none⟩) 8 c ∧ ArrV wr g 0 8 (ints (at8 (hs P b))) ∧ SlB wr A5 (64 * NB) P ∧ ArrV wr gk 0 64 (ints kc) ∧ Below w.heap.size w wr) (fun _ t _ => 64 * NB - (intOf t).toNat)
          case atStart => exact ⟨0, gf, 8, Nat.zero_le _, rfl, rfl, HFb.out, HPb.out, HKb.out, HBb.out⟩
          case round =>
            obtain ⟨b, g, c, hb, rfl, rfl, h1, h2, h3, h4⟩ := hrel
            have K1 := Lib.hid h1
            have K2 := Lib.hid h2
            have K3 := Lib.hid h3
            have K4 := Lib.hid h4
            clear h1 h2 h3 h4 HFb HPb HKb HBb
            by_cases hlt : b < NB
            · obtain ⟨i, hi⟩ : ∃ i, i = 64 * b := ⟨_, rfl⟩
              obtain ⟨i6, hi6⟩ : ∃ i6, i6 = i + 64 := ⟨_, rfl⟩
              obtain ⟨NL, hNL⟩ : ∃ NL, NL = 64 * NB := ⟨_, rfl⟩
              have ei6 : (i : Int) + 64 = i6 := by omega
              have hi6n : (i : Int) < NL := by omega
              have hNLi : (NL : Int) ≤ 100000000000000 := by omega
              obtain ⟨A8, hA8⟩ : ∃ A8, hiA A5 c5 i = A8 := ⟨_, rfl⟩
              have hsl := fun W => run_mid W A5 NL c5 i i6 (by omega) (by have := HCP.out; omega)
              rw [hA8, show i6 - i = 64 by omega] at hsl
              have HSB := Lib.hid ((K2.out.mid (c := c5) (l := i) (m := 64) (by omega) HCP.out))
              rw [hA8] at HSB
              have HI := Lib.hid hi
              have HI6 := Lib.hid hi6
              have HNL := Lib.hid hNL
              rw [← hi, ← hNL]
              clear hi hi6 hNL hA8
              go_wp2_with fail
              refine (block_any A8 (c5 - i) _ wr HSB.out).mono ?_
              rintro e Wc ⟨vw, rfl, h1, h2⟩
              obtain ⟨Aw, cw, rfl, _, _, hr, _⟩ := h1.slice
              obtain ⟨gw, rfl, _, hr⟩ := hr (by decide)
              have HWc := Lib.hid hr
              have K1c := Lib.hid (K1.out.keep h2)
              have K2c := Lib.hid (K2.out.keep h2)
              have K3c := Lib.hid (K3.out.keep h2)
              have K4c := Lib.hid (K4.out.trans (h2.mono K4.out.size))
              clear hr h1 h2 K1 K2 K3 K4 hsl HSB
              go_wp2_with fail
              refine (step_any g c gw cw gk 64 (hs P b) _ Wc (HST.out b) (fun j hj => wn_lt (by
                have h := HWN.out b (by have := HI.out; have := HNL.out; omega)
                rw [← HI.out] at h
                exact h) 48 j) K1c.out HWc.out K3c.out).mono ?_
              rintro e Wd ⟨g2, c2', rfl, h1, h2⟩
              have L1 := Lib.hid (show ArrV Wd g2 0 8 (ints (at8 (hs P (b + 1)))) by
                rw [HHS.out b, ← HI.out]; exact h1)
              have L2 := Lib.hid (K2c.out.keep h2)
              have L3 := Lib.hid (K3c.out.keep h2)
              have L4 := Lib.hid (K4c.out.trans (h2.mono K4c.out.size))
              clear h1 h2 K1c K2c K3c K4c HWc
              go_wp2_with fail
              have hNL := HNL.out
              have hI := HI.out
              have hI6 := HI6.out
              subst hNL
              go_roundw
              case rel => exact ⟨b + 1, g2, c2', by omega, by rw [show 64 * (b + 1) = i6 by omega], rfl, L1.out, L2.out, L3.out, L4.out⟩
              case measure => simp [intOf]; omega
            · obtain rfl : b = NB := by omega
              have HSK := Lib.hid (HST.out b)
              generalize hs P b = s at *
              obtain ⟨NL, hNL⟩ : ∃ NL, NL = 64 * b := ⟨_, rfl⟩
              rw [← hNL]
              have HNL := Lib.hid hNL
              have hNLi : (NL : Int) ≤ 100000000000000 := by omega
              clear hNL HWN HHS HST hNBs hNBi
              go_wp2_with fail
              have HAG := Lib.hid (show ∀ w', Below wr.heap.size wr w' → ArrV w' g 0 8 (ints (at8 s)) from fun w' h => K1.out.keep h)
              have KB := Lib.hid K4.out
              clear K1 K2 K3 K4
              obtain ⟨W1, hW1⟩ : ∃ W1, W1 = wr := ⟨_, rfl⟩
              subst hW1
              go_loopw [9, 10] (fun v t wx => ∃ (k : Nat), k ≤ 8 ∧ t = .int .i64 k ∧ OwnB wx W1.heap.size v (4 * k) (dig s) ∧ Below W1.heap.size W1 wx) (fun _ t _ => 8 - (intOf t).toNat)
              case atStart => exact ⟨0, Nat.zero_le _, rfl, OwnB.nil _ _ _, Below.refl _ _⟩
              case round =>
                obtain ⟨k, hk, rfl, h1, h2⟩ := hrel
                have G1 := Lib.hid h1
                have G2 := Lib.hid h2
                clear h1 h2
                by_cases hk8n : k < 8
                · have hki : (k : Int) < 8 := by omega
                  have hl := at8_lt HSK.out k
                  have CE := Lib.hid (show ∀ w', Below wr.drew.heap.size wr.drew w' → w'.cell? ⟨g, k, none⟩ = some (.int .i64 (at8 s k : Nat)) from fun w' hb =>
                    (HAG.out w' (G2.out.trans ((of_drew hb).mono G2.out.size))).cell hk8n (Nat.zero_add _).symm)
                  have hd0 := Lib.hid (show dig s (4 * k + 0) = at8 s k / 16777216 % 256 by unfold dig; rw [show (4 * k + 0) / 4 = k by omega, show (4 * k + 0) % 4 = 0 by omega])
                  have hd1 := Lib.hid (show dig s (4 * k + 1) = at8 s k / 65536 % 256 by unfold dig; rw [show (4 * k + 1) / 4 = k by omega, show (4 * k + 1) % 4 = 1 by omega])
                  have hd2 := Lib.hid (show dig s (4 * k + 2) = at8 s k / 256 % 256 by unfold dig; rw [show (4 * k + 2) / 4 = k by omega, show (4 * k + 2) % 4 = 2 by omega])
                  have hd3 := Lib.hid (show dig s (4 * k + 3) = at8 s k % 256 by unfold dig; rw [show (4 * k + 3) / 4 = k by omega, show (4 * k + 3) % 4 = 3 by omega]; simp)
                  have HDL := Lib.hid (show ∀ j, (fun t => dig s (4 * k + t)) j < 256 from fun j => dig_lt s _)
                  have HDE := Lib.hid (show ∀ j, (fun t => dig s (4 * k + t)) j = dig s (4 * k + j) from fun _ => rfl)
                  generalize at8 s k = xx at *
                  obtain ⟨D, hD⟩ : ∃ D : Nat → Nat, D = fun t => dig s (4 * k + t) := ⟨_, rfl⟩
                  rw [← hD] at HDL HDE
                  rw [← HDE.out] at hd0 hd1 hd2 hd3
                  clear hD
                  obtain ⟨y1, e1⟩ : ∃ y, xx / 16777216 = y ∧ True := ⟨_, rfl, trivial⟩
                  obtain ⟨y2, e2⟩ : ∃ y, xx / 65536 = y ∧ True := ⟨_, rfl, trivial⟩
                  obtain ⟨y3, e3⟩ : ∃ y, xx / 256 = y ∧ True := ⟨_, rfl, trivial⟩
                  rw [e1.1] at hd0
                  rw [e2.1] at hd1
                  rw [e3.1] at hd2
                  go_wp2_with fail
                  refine ord.wp_region_ordT 25 [[], [], [], [1, 2], [3], [4], [5], [], [], [7, 8], [9], [10], [11], [], [], [13, 14], [15], [16], [17], [], [], [19, 20], [21], [22], [6, 12, 18, 23]] [(0, 59), (1, 60), (2, 61), (3, 62), (4, 63), (5, 64), (6, 65), (7, 66), (8, 67), (9, 68), (10, 69), (11, 70), (12, 71), (13, 72), (14, 73), (15, 74), (16, 75), (17, 76), (18, 77), (19, 78), (20, 79), (21, 80), (22, 81), (23, 82), (24, 83)] (outG u9 g c k xx y1 y2 y3 D) (by kernel_rfl) (by kernel_rfl) (by kernel_rfl) (outG_stays _ _ _ _ _ _ _ _ _) ((ord.steps_cons ?_ (ord.steps_cons ?_ (ord.steps_cons ?_ (ord.steps_cons ?_ (ord.steps_cons ?_ (ord.steps_cons ?_ (ord.steps_cons ?_ (ord.steps_cons ?_ (ord.steps_cons ?_ (ord.steps_cons ?_ (ord.steps_cons ?_ (ord.steps_cons ?_ (ord.steps_cons ?_ (ord.steps_cons ?_ (ord.steps_cons ?_ (ord.steps_cons ?_ (ord.steps_cons ?_ (ord.steps_cons ?_ (ord.steps_cons ?_ (ord.steps_cons ?_ (ord.steps_cons ?_ (ord.steps_cons ?_ (ord.steps_cons ?_ (ord.steps_cons ?_ (ord.steps_cons ?_ ord.steps_nil)))))))))))))))))))))))))) ?_
                  --STEPS out
                  · intro o ho x w hb hG
                    obtain rfl := Option.some.inj ho
                    clear ho
                    refine Or.inl ⟨ord.want0 rfl, ?_⟩
                    exact ord.makes_move rfl ⟨Below.refl _ _, rfl⟩
                  · intro o ho x w hb hG
                    obtain rfl := Option.some.inj ho
                    clear ho
                    refine Or.inl ⟨ord.want0 rfl, ?_⟩
                    exact ord.makes_move rfl ⟨Below.refl _ _, rfl⟩
                  · intro o ho x w hb hG
                    obtain rfl := Option.some.inj ho
                    clear ho
                    refine Or.inl ⟨ord.want0 rfl, ?_⟩
                    exact ord.makes_move rfl ⟨Below.refl _ _, rfl⟩
                  · intro o ho x w hb hG
                    obtain rfl := Option.some.inj ho
                    clear ho
                    have h60 : x 1 = .slice (some ⟨g, 0, none⟩) 8 c := hG (1, 60) (List.mem_of_getElem? (i := 1) rfl) rfl
                    have h61 : x 2 = .int .i64 (k : Nat) := hG (2, 61) (List.mem_of_getElem? (i := 2) rfl) rfl
                    refine Or.inl ⟨ord.want0 rfl, ?_⟩
                    exact ord.makes_indexAddr rfl h60 h61 (by exact run_idxI g 8 c k hk8n w) ⟨Below.refl _ _, rfl⟩
                  · intro o ho x w hb hG
                    obtain rfl := Option.some.inj ho
                    clear ho
                    have h62 : x 3 = .pointer (some ⟨g, k, none⟩) := hG (3, 62) (List.mem_of_getElem? (i := 3) rfl) rfl
                    refine Or.inl ⟨ord.want0 rfl, ?_⟩
                    exact ord.makes_load rfl h62 (by exact run_loadI _ xx w (CE.out w hb)) ⟨Below.refl _ _, rfl⟩
                  · intro o ho x w hb hG
                    obtain rfl := Option.some.inj ho
                    clear ho
                    have h63 : x 4 = .int .i64 (xx : Nat) := hG (4, 63) (List.mem_of_getElem? (i := 4) rfl) rfl
                    refine Or.inl ⟨ord.want0 rfl, ?_⟩
                    exact ord.makes_bin rfl h63 rfl (by exact run_quoI _ _ xx 16777216 y1 e1.1 (by decide) (by omega) w) ⟨Below.refl _ _, rfl⟩
                  · intro o ho x w hb hG
                    obtain rfl := Option.some.inj ho
                    clear ho
                    have h64 : x 5 = .int .i64 (y1 : Nat) := hG (5, 64) (List.mem_of_getElem? (i := 5) rfl) rfl
                    refine Or.inl ⟨ord.want0 rfl, ?_⟩
                    exact ord.makes_conv rfl h64 (by exact run_convI8 y1 (D 0) hd0.out w) ⟨Below.refl _ _, rfl⟩
                  · intro o ho x w hb hG
                    obtain rfl := Option.some.inj ho
                    clear ho
                    refine Or.inl ⟨ord.want0 rfl, ?_⟩
                    exact ord.makes_move rfl ⟨Below.refl _ _, rfl⟩
                  · intro o ho x w hb hG
                    obtain rfl := Option.some.inj ho
                    clear ho
                    refine Or.inl ⟨ord.want0 rfl, ?_⟩
                    exact ord.makes_move rfl ⟨Below.refl _ _, rfl⟩
                  · intro o ho x w hb hG
                    obtain rfl := Option.some.inj ho
                    clear ho
                    have h66 : x 7 = .slice (some ⟨g, 0, none⟩) 8 c := hG (7, 66) (List.mem_of_getElem? (i := 7) rfl) rfl
                    have h67 : x 8 = .int .i64 (k : Nat) := hG (8, 67) (List.mem_of_getElem? (i := 8) rfl) rfl
                    refine Or.inl ⟨ord.want0 rfl, ?_⟩
                    exact ord.makes_indexAddr rfl h66 h67 (by exact run_idxI g 8 c k hk8n w) ⟨Below.refl _ _, rfl⟩
                  · intro o ho x w hb hG
                    obtain rfl := Option.some.inj ho
                    clear ho
                    have h68 : x 9 = .pointer (some ⟨g, k, none⟩) := hG (9, 68) (List.mem_of_getElem? (i := 9) rfl) rfl
                    refine Or.inl ⟨ord.want0 rfl, ?_⟩
                    exact ord.makes_load rfl h68 (by exact run_loadI _ xx w (CE.out w hb)) ⟨Below.refl _ _, rfl⟩
                  · intro o ho x w hb hG
                    obtain rfl := Option.some.inj ho
                    clear ho
                    have h69 : x 10 = .int .i64 (xx : Nat) := hG (10, 69) (List.mem_of_getElem? (i := 10) rfl) rfl
                    refine Or.inl ⟨ord.want0 rfl, ?_⟩
                    exact ord.makes_bin rfl h69 rfl (by exact run_quoI _ _ xx 65536 y2 e2.1 (by decide) (by omega) w) ⟨Below.refl _ _, rfl⟩
                  · intro o ho x w hb hG
                    obtain rfl := Option.some.inj ho
                    clear ho
                    have h70 : x 11 = .int .i64 (y2 : Nat) := hG (11, 70) (List.mem_of_getElem? (i := 11) rfl) rfl
                    refine Or.inl ⟨ord.want0 rfl, ?_⟩
                    exact ord.makes_conv rfl h70 (by exact run_convI8 y2 (D 1) hd1.out w) ⟨Below.refl _ _, rfl⟩
                  · intro o ho x w hb hG
                    obtain rfl := Option.some.inj ho
                    clear ho
                    refine Or.inl ⟨ord.want0 rfl, ?_⟩
                    exact ord.makes_move rfl ⟨Below.refl _ _, rfl⟩
                  · intro o ho x w hb hG
                    obtain rfl := Option.some.inj ho
                    clear ho
                    refine Or.inl ⟨ord.want0 rfl, ?_⟩
                    exact ord.makes_move rfl ⟨Below.refl _ _, rfl⟩
                  · intro o ho x w hb hG
                    obtain rfl := Option.some.inj ho
                    clear ho
                    have h72 : x 13 = .slice (some ⟨g, 0, none⟩) 8 c := hG (13, 72) (List.mem_of_getElem? (i := 13) rfl) rfl
                    have h73 : x 14 = .int .i64 (k : Nat) := hG (14, 73) (List.mem_of_getElem? (i := 14) rfl) rfl
                    refine Or.inl ⟨ord.want0 rfl, ?_⟩
                    exact ord.makes_indexAddr rfl h72 h73 (by exact run_idxI g 8 c k hk8n w) ⟨Below.refl _ _, rfl⟩
                  · intro o ho x w hb hG
                    obtain rfl := Option.some.inj ho
                    clear ho
                    have h74 : x 15 = .pointer (some ⟨g, k, none⟩) := hG (15, 74) (List.mem_of_getElem? (i := 15) rfl) rfl
                    refine Or.inl ⟨ord.want0 rfl, ?_⟩
                    exact ord.makes_load rfl h74 (by exact run_loadI _ xx w (CE.out w hb)) ⟨Below.refl _ _, rfl⟩
                  · intro o ho x w hb hG
                    obtain rfl := Option.some.inj ho
                    clear ho
                    have h75 : x 16 = .int .i64 (xx : Nat) := hG (16, 75) (List.mem_of_getElem? (i := 16) rfl) rfl
                    refine Or.inl ⟨ord.want0 rfl, ?_⟩
                    exact ord.makes_bin rfl h75 rfl (by exact run_quoI _ _ xx 256 y3 e3.1 (by decide) (by omega) w) ⟨Below.refl _ _, rfl⟩
                  · intro o ho x w hb hG
                    obtain rfl := Option.some.inj ho
                    clear ho
                    have h76 : x 17 = .int .i64 (y3 : Nat) := hG (17, 76) (List.mem_of_getElem? (i := 17) rfl) rfl
                    refine Or.inl ⟨ord.want0 rfl, ?_⟩
                    exact ord.makes_conv rfl h76 (by exact run_convI8 y3 (D 2) hd2.out w) ⟨Below.refl _ _, rfl⟩
                  · intro o ho x w hb hG
                    obtain rfl := Option.some.inj ho
                    clear ho
                    refine Or.inl ⟨ord.want0 rfl, ?_⟩
                    exact ord.makes_move rfl ⟨Below.refl _ _, rfl⟩
                  · intro o ho x w hb hG
                    obtain rfl := Option.some.inj ho
                    clear ho
                    refine Or.inl ⟨ord.want0 rfl, ?_⟩
                    exact ord.makes_move rfl ⟨Below.refl _ _, rfl⟩
                  · intro o ho x w hb hG
                    obtain rfl := Option.some.inj ho
                    clear ho
                    have h78 : x 19 = .slice (some ⟨g, 0, none⟩) 8 c := hG (19, 78) (List.mem_of_getElem? (i := 19) rfl) rfl
                    have h79 : x 20 = .int .i64 (k : Nat) := hG (20, 79) (List.mem_of_getElem? (i := 20) rfl) rfl
                    refine Or.inl ⟨ord.want0 rfl, ?_⟩
                    exact ord.makes_indexAddr rfl h78 h79 (by exact run_idxI g 8 c k hk8n w) ⟨Below.refl _ _, rfl⟩
                  · intro o ho x w hb hG
                    obtain rfl := Option.some.inj ho
                    clear ho
                    have h80 : x 21 = .pointer (some ⟨g, k, none⟩) := hG (21, 80) (List.mem_of_getElem? (i := 21) rfl) rfl
                    refine Or.inl ⟨ord.want0 rfl, ?_⟩
                    exact ord.makes_load rfl h80 (by exact run_loadI _ xx w (CE.out w hb)) ⟨Below.refl _ _, rfl⟩
                  · intro o ho x w hb hG
                    obtain rfl := Option.some.inj ho
                    clear ho
                    have h81 : x 22 = .int .i64 (xx : Nat) := hG (22, 81) (List.mem_of_getElem? (i := 22) rfl) rfl
                    refine Or.inl ⟨ord.want0 rfl, ?_⟩
                    exact ord.makes_conv rfl h81 (by exact run_convI8 xx (D 3) hd3.out w) ⟨Below.refl _ _, rfl⟩
                  · intro o ho x w hb hG
                    obtain rfl := Option.some.inj ho
                    clear ho
                    have h65 : x 6 = .int .u8 (D 0 : Nat) := hG (6, 65) (List.mem_of_getElem? (i := 6) rfl) rfl
                    have h71 : x 12 = .int .u8 (D 1 : Nat) := hG (12, 71) (List.mem_of_getElem? (i := 12) rfl) rfl
                    have h77 : x 18 = .int .u8 (D 2 : Nat) := hG (18, 77) (List.mem_of_getElem? (i := 18) rfl) rfl
                    have h82 : x 23 = .int .u8 (D 3 : Nat) := hG (23, 82) (List.mem_of_getElem? (i := 23) rfl) rfl
                    refine Or.inl ⟨ord.want0 rfl, ?_⟩
                    exact ord.makes_build4 rfl h65 h71 h77 h82 (run_bytes4 w (D 0) (D 1) (D 2) (D 3)) ⟨(Below.refl _ _).alloc (Nat.le_refl _) _, _, rfl, four_slB w 5 D HDL.out⟩
                  --END STEPS out
                  · intro x5 w5 hb hG
                    have e0 : x5 0 = u9 := hG (0, 59) (List.mem_of_getElem? (i := 0) rfl)
                    obtain ⟨gg, e24, hsl24⟩ : ∃ gg, x5 24 = .slice (some ⟨gg, 0, none⟩) 4 4 ∧ SlB w5 (some ⟨gg, 0, none⟩) 4 D := hG (24, 83) (List.mem_of_getElem? (i := 24) rfl)
                    clear hG
                    simp only [ord.puts, ord.put', List.set_cons_zero, List.set_cons_succ, if_true]
                    rw [e0, e24]
                    simp only [List.drop_succ_cons, List.drop_zero]
                    have HO := Lib.hid (G1.out.keep hb)
                    have HB5 := Lib.hid (G2.out.trans (hb.mono G2.out.size))
                    have HC5 := Lib.hid hsl24
                    clear hb hsl24
                    go_wp2_with (refine wpList_appO rfl (.tmp 59) (.tmp 83) rfl W1.heap.size _ (4 * k) (dig s) rfl HO.out (some ⟨gg, 0, none⟩) 4 4 D rfl HC5.out (fun h => by cases h) (by omega) HB5.out.size (fun j _ => dig_lt s j) (fun j _ => HDL.out j) ?_; intro A4 c4 w4 h1 h2 h3 h4; have HO6 := Lib.hid (OwnB.congr (g := dig s) h1 fun j hj => by unfold catB; by_cases e : j < 4 * k; rw [if_pos e]; rw [if_neg e, HDE.out, show 4 * k + (j - 4 * k) = j by omega]); have HB6 := Lib.hid (HB5.out.trans h4); clear h1 h2 h3 h4)
                    go_roundw
                    case rel => exact ⟨k + 1, by omega, by go_num, HO6.out, HB6.out⟩
                    case measure => simp [intOf]; omega
                · obtain rfl : k = 8 := by omega
                  obtain ⟨A9, c9, rfl, hsl9⟩ := OwnB.slice G1.out (fun j _ => dig_lt s j)
                  have HS9 := Lib.hid hsl9
                  clear hsl9
                  go_wp2_with fail
                  go_ret
                  exact ⟨A9, c9, rfl, ⟨HS9.out.congr fun j _ => (HEND.out j).symm, (G1.out.less KB.out.size).congr fun j _ => (HEND.out j).symm⟩, KB.out.trans (G2.out.mono KB.out.size)⟩
    · have hb : ((m : Int) % 64 != 56) = true := by simp; omega
      have HLm := Lib.hid (show m + 1 ≤ padL n - 8 by have := HPL.out; omega)
      have HMS := Lib.hid (show padL n - 8 - (m + 1) < padL n - 8 - m by have := HLm.out; omega)
      have HO3 := Lib.hid (H1.out.alloc (.cells #[.int .u8 ((0 : Nat) : Int)] 5))
      have HB3 := Lib.hid (H2.out.alloc H2.out.size (.cells #[.int .u8 ((0 : Nat) : Int)] 5))
      clear hr
      go_wp2_with (refine wpList_appO rfl (.tmp 20) (.tmp 21) rfl w.heap.size _ m (padf n f) rfl HO3.out (some ⟨_, 0, none⟩) 1 1 (fun _ => 0) rfl (HZ.out _) (fun h => by cases h) (by omega) HB3.out.size (HPB.out m) (fun _ _ => by decide) ?_; intro A4 c4 w4 h1 h2 h3 h4; have HO4 := Lib.hid (OwnB.congr (g := padf n f) h1 fun j hj => by unfold catB; by_cases e : j < m; rw [if_pos e]; rw [if_neg e, padf_zero n f j (by omega) (by have := HLm.out; omega)]); have HB4 := Lib.hid (HB3.out.trans h4); clear h1 h2 h3 h4)
      go_roundw
      case rel => exact ⟨m + 1, A4, c4, by omega, HLm.out, rfl, HO4.out, HB4.out⟩
      case measure => exact HMS.out
theorem rsum_any (A : Option Addr) (n cap : Nat) (f : Nat → Nat) (w : World) (hn : n ≤ 10000000000000) (hA : SlB w A n f) (hnil : A = none → n = 0 ∧ cap = 0) :
    Calls Tryz.prog 60 #[.slice A n cap] w fun e w' => ∃ A' c', e = .returned (.slice A' 32 c') ∧ SlB w' A' 32 (sha n f) ∧ Below w.heap.size w w' :=
  (rsum_own A n cap f w hn hA hnil).mono fun _ _ ⟨A', c', he, h, hb⟩ => ⟨A', c', he, h.1, hb⟩
end Go.Proofs.YtgcdnhjjoidpmaaGreatDoor
/- The reference: a number in eight bytes. -/
namespace Go.Proofs.YtgcdnhjjoidpmaaGreatDoor
open Go.RowKit
set_option maxRecDepth 100000 in
set_option maxHeartbeats 800000 in
theorem eight_any (x : Nat) (w : World) (hx : x ≤ 9223372036854775807) :
    Calls Tryz.prog 25 #[.int .i64 (x : Nat)] w fun e w' => ∃ A c, e = .returned (.slice A 8 c) ∧ OwnB w' w.heap.size (.slice A 8 c) 8 (len8 x) ∧ Below w.heap.size w w' := by
  have hxi : (x : Int) ≤ 9223372036854775807 := by omega
  go_enter Tryz.func25, Tryz.ntmps25
  go_wp2_with fail
  go_loopw [3, 4] (fun v t wr => ∃ (j : Nat) (A c : _), j ≤ 8 ∧ t = .int .i64 (7 - (j : Int)) ∧ v = .slice A j c ∧ OwnB wr w.heap.size (.slice A j c) j (len8 x) ∧ Below w.heap.size w wr) (fun _ t _ => (intOf t + 1).toNat)
  case atStart => exact ⟨0, none, 0, Nat.zero_le _, rfl, rfl, OwnB.nil _ _ _, Below.refl _ _⟩
  case round =>
    obtain ⟨j, A5, c5, hj, rfl, rfl, h1, h2⟩ := hrel
    have G1 := Lib.hid h1
    have G2 := Lib.hid h2
    clear h1 h2
    by_cases hj8 : j < 8
    · obtain ⟨q, hq⟩ : ∃ q, q = 7 - j := ⟨_, rfl⟩
      obtain ⟨q8, hq8⟩ : ∃ q8, q8 = 8 * q := ⟨_, rfl⟩
      have eq : (7 : Int) - j = q := by omega
      have eq8 : (8 : Int) * q = q8 := by omega
      have hqi : (q : Int) ≤ 7 := by omega
      have hq8i : (q8 : Int) ≤ 56 := by omega
      obtain ⟨y, hy⟩ : ∃ y, y = x / 2 ^ q8 := ⟨_, rfl⟩
      have hyx : y ≤ x := by rw [hy]; exact Nat.div_le_self _ _
      have ey : (x : Int) / 2 ^ q8 = y := by rw [hy]; simp
      obtain ⟨z, hz⟩ : ∃ z, z = y % 256 := ⟨_, rfl⟩
      have ez : (y : Int) % 256 = z := by omega
      have lz : z < 256 := by omega
      have HZP := Lib.hid (show z = len8 x j by unfold len8; rw [hz, hy, hq8, hq])
      have HZ1 := Lib.hid fun W => one_sl W z lz
      have hyi : (y : Int) ≤ 9223372036854775807 := by omega
      have HEQ := Lib.hid eq
      clear hq hq8 hy hz
      rw [eq]
      have HO3 := Lib.hid (G1.out.alloc (.cells #[.int .u8 (z : Nat)] 5))
      have HB3 := Lib.hid (G2.out.alloc G2.out.size (.cells #[.int .u8 (z : Nat)] 5))
      go_wp2_with (refine wpList_appO rfl (.tmp 9) (.tmp 15) rfl w.heap.size _ j (len8 x) rfl HO3.out (some ⟨_, 0, none⟩) 1 1 (fun _ => z) rfl (HZ1.out _) (fun h => by cases h) (by omega) HB3.out.size (fun i _ => len8_lt x i) (fun _ _ => lz) ?_; intro A4 c4 w4 h1 h2 h3 h4; have HO4 := Lib.hid (OwnB.congr (g := len8 x) h1 fun i hi => by unfold catB; by_cases e : i < j; rw [if_pos e]; rw [if_neg e, HZP.out, show i = j by omega]); have HB4 := Lib.hid (HB3.out.trans h4); clear h1 h2 h3 h4)
      exact ⟨⟨j + 1, A4, c4, by omega, congrArg _ (by have := HEQ.out; omega), rfl, HO4.out, HB4.out⟩, by simp [intOf]⟩
    · obtain rfl : j = 8 := by omega
      have et : (7 : Int) - ((8 : Nat) : Int) = -1 := by omega
      rw [et]
      clear et
      go_wp2_with fail
      go_ret
      exact ⟨A5, c5, rfl, G1.out, G2.out⟩
end Go.Proofs.YtgcdnhjjoidpmaaGreatDoor
/- The reference of layer 6: Eight, Mac. -/
namespace Go.Proofs.YtgcdnhjjoidpmaaGreatDoor
open Go.RowKit
/-- the two halves grow, and become the tag -/
theorem kf_at {n : Nat} (key : Nat → Nat) (h : n ≤ 64) {j : Nat} (hj : j < n) : kf n key j = key j := by unfold kf; rw [if_pos h, if_pos hj]
theorem kf_past {n : Nat} (key : Nat → Nat) (h : n ≤ 64) {j : Nat} (hj : n ≤ j) : kf n key j = 0 := by unfold kf; rw [if_pos h, if_neg (by omega)]
theorem kf_long {n : Nat} (key : Nat → Nat) (h : 64 < n) {j : Nat} (hj : j < 32) : kf n key j = sha n key j := by unfold kf; rw [if_neg (by omega), if_pos hj]
theorem kf_longpast {n : Nat} (key : Nat → Nat) (h : 64 < n) {j : Nat} (hj : 32 ≤ j) : kf n key j = 0 := by unfold kf; rw [if_neg (by omega), if_neg (by omega)]
set_option maxRecDepth 100000 in
set_option maxHeartbeats 1600000 in
theorem rmac_any (A B : Option Addr) (n c m c2 : Nat) (key b : Nat → Nat) (w : World) (hn : n ≤ 1000000000000) (hm : m ≤ 1000000000000) (hA : SlB w A n key) (hnA : A = none → n = 0 ∧ c = 0) (hB : SlB w B m b) (hnB : B = none → m = 0 ∧ c2 = 0) :
    Calls Tryz.prog 41 #[.slice A n c, .slice B m c2] w fun e w' => (∃ A' c', e = .returned (.slice A' 32 c') ∧ SlB w' A' 32 (tag n key m b) ∧ OwnB w' w.heap.size (.slice A' 32 c') 32 (tag n key m b)) ∧ Below w.heap.size w w' := by
  have HA := Lib.hid (hA.keep (alloc_below w (.cells #[] 5)))
  have HB := Lib.hid hB
  have HNA := Lib.hid hnA
  have HNB := Lib.hid hnB
  have HFA := Lib.hid (show By n key from fun j hj => hA.byte hj)
  have HFB := Lib.hid (show By m b from fun j hj => hB.byte hj)
  have HN := Lib.hid hn
  have HM := Lib.hid hm
  have HE := Lib.hid (OwnB.empty w w.heap.size key (Nat.le_refl _))
  have HB0 := Lib.hid (alloc_below w (.cells #[] 5))
  clear hA hB hnA hnB hn hm
  by_cases hl : 64 < n
  · have hd : decide (64 < (n : Int)) = true := by simp; omega
    have HL := Lib.hid hl
    clear hl
    go_enter Tryz.func41, Tryz.ntmps41
    go_wp2_with (refine wpList_appO rfl (.tmp 9) (.tmp 10) rfl w.heap.size _ 0 key rfl HE.out A n c key rfl HA.out HNA.out (by have := HN.out; omega) HB0.out.size (fun j hj => absurd hj (Nat.not_lt_zero j)) HFA.out ?_; intro A1 c1 w1 h1 h2 h3 h4; rw [Nat.zero_add] at h1 h2 h3 ⊢; have HO1 := Lib.hid (OwnB.congr (g := key) h1 fun j _ => rfl); have HS1 := Lib.hid (SlB.congr (f' := key) h2 fun j _ => rfl); have HN1 := Lib.hid h3.2.2; have HB1 := Lib.hid (HB0.out.trans h4); clear h1 h2 h3 h4)
    refine (rsum_own A1 n c1 key w1 (by have := HN.out; omega) HS1.out HN1.out).mono ?_
    rintro e w3 ⟨A3, c3, rfl, ⟨_, h2⟩, h3⟩
    have HO3 := Lib.hid (OwnB.congr (g := kf n key) (h2.less HB1.out.size) fun j hj => (kf_long key HL.out hj).symm)
    have HB3 := Lib.hid (HB1.out.trans (h3.mono HB1.out.size))
    have HZ := Lib.hid (fun j (hj : 32 ≤ j) => kf_longpast key HL.out hj)
    clear h2 h3 hd HO1 HS1 HN1 HB1
    go_wp2_with fail
    go_loopw [5] (fun v wr => ∃ (l : Nat) (A4 : Option Addr) (c4 : Nat), 32 ≤ l ∧ l ≤ 64 ∧ v = .slice A4 l c4 ∧ OwnB wr w.heap.size (.slice A4 l c4) l (kf n key) ∧ Below w.heap.size w wr) (fun v _ => 64 - lenOf v)
    case atStart => exact ⟨32, A3, c3, Nat.le_refl _, by omega, rfl, HO3.out, HB3.out⟩
    case round =>
      obtain ⟨l, A4, c4, hl1, hl2, rfl, h1, h2⟩ := hrel
      have G1 := Lib.hid h1
      have G2 := Lib.hid h2
      have HKB := Lib.hid (kf_by HFA.out)
      have HZ1 := Lib.hid fun W => one_sl W 0 (by decide)
      clear h1 h2
      by_cases hlt : l < 64
      · have hli : (l : Int) < 64 := by omega
        have HO4 := Lib.hid (G1.out.alloc (.cells #[.int .u8 ((0 : Nat) : Int)] 5))
        have HB4 := Lib.hid (G2.out.alloc G2.out.size (.cells #[.int .u8 ((0 : Nat) : Int)] 5))
        have HZL := Lib.hid (HZ.out l hl1)
        have HMS := Lib.hid (show 64 - (l + 1) < 64 - l by omega)
        go_wp2_with (refine wpList_appO rfl (.tmp 20) (.tmp 21) rfl w.heap.size _ l (kf n key) rfl HO4.out (some ⟨_, 0, none⟩) 1 1 (fun _ => 0) rfl (HZ1.out _) (fun h => by cases h) (by omega) HB4.out.size (fun j hj => HKB.out j (by omega)) (fun _ _ => by decide) ?_; intro A5 c5 w5 h1 h2 h3 h4; have HO5 := Lib.hid (OwnB.congr (g := kf n key) h1 fun j hj => by unfold catB; by_cases e : j < l; rw [if_pos e]; rw [if_neg e, show j = l by omega, HZL.out]); have HB5 := Lib.hid (HB4.out.trans h4); clear h1 h2 h3 h4)
        go_roundw
        case rel => exact ⟨l + 1, A5, c5, by omega, by omega, rfl, HO5.out, HB5.out⟩
        case measure => exact HMS.out
      · obtain rfl : l = 64 := by omega
        obtain ⟨A6, c6, e6, hsl6⟩ := OwnB.slice G1.out (fun j hj => HKB.out j hj)
        cases e6
        have HK6 := Lib.hid hsl6
        have hA6 : ∃ B6 o6, A4 = some ⟨B6, o6, none⟩ := by
          obtain ⟨B6, o6, e, _⟩ := hsl6 (by decide)
          exact ⟨B6, o6, e⟩
        obtain ⟨B6, o6, rfl⟩ := hA6
        clear hsl6 hl1 hl2 hlt HO3 HB3 HZ
        go_wp2_with fail
        obtain ⟨w4, hw4⟩ : ∃ w4, w4 = wr := ⟨_, rfl⟩
        subst hw4
        go_loopw [6, 7, 8] (fun v6 v7 t wx => ∃ k : Nat, k ≤ 64 ∧ t = .int .i64 k ∧ OwnB wx w4.heap.size v6 k (xf 54 n key) ∧ OwnB wx w4.heap.size v7 k (xf 92 n key) ∧ Apart v6 v7 ∧ Below w4.heap.size w4 wx) (fun _ _ t _ => 64 - (intOf t).toNat)
        case atStart => exact ⟨0, Nat.zero_le _, rfl, OwnB.nil _ _ _, OwnB.nil _ _ _, Apart.nil _, Below.refl _ _⟩
        case round =>
          obtain ⟨k, hk, rfl, h1, h2, h3, h4⟩ := hrel
          have K1 := Lib.hid h1
          have K2 := Lib.hid h2
          have K3 := Lib.hid h3
          have K4 := Lib.hid h4
          clear h1 h2 h3 h4
          by_cases hlt : k < 64
          · have hki : (k : Int) < 64 := by omega
            obtain ⟨B7, o7, e7, hB7, hc7⟩ := HK6.out (by decide)
            cases e7
            have hcell := (K4.out.cell (p := ⟨B6, o6 + k, none⟩) hB7).trans (hc7 k hlt).2
            have HC7 := Lib.hid (fun (W : World) (h : Below w4.heap.size w4 W) => (h.cell (p := ⟨B6, o6 + k, none⟩) hB7).trans (hc7 k hlt).2)
            obtain ⟨x, hx⟩ : ∃ x, kf n key k = x := ⟨_, rfl⟩
            have hxl : x < 256 := by rw [← hx]; exact HKB.out k hlt
            have b1 : bits BinOp.xor .u8 (x : Int) 54 = ((x ^^^ 54 : Nat) : Int) := u8_xor_nat x 54 hxl (by decide)
            have b2 : bits BinOp.xor .u8 (x : Int) 92 = ((x ^^^ 92 : Nat) : Int) := u8_xor_nat x 92 hxl (by decide)
            have HX1 := Lib.hid (show xf 54 n key k = x ^^^ 54 by unfold xf; rw [hx])
            have HX2 := Lib.hid (show xf 92 n key k = x ^^^ 92 by unfold xf; rw [hx])
            have HL1 := Lib.hid (xor_lt8 hxl (show 54 < 256 by decide))
            have HL2 := Lib.hid (xor_lt8 hxl (show 92 < 256 by decide))
            have HY1 := Lib.hid fun W => one_sl W (x ^^^ 54) HL1.out
            have HY2 := Lib.hid fun W => one_sl W (x ^^^ 92) HL2.out
            rw [hx] at hcell HC7
            clear hx hc7 hB7
            generalize x ^^^ 54 = y1 at *
            generalize x ^^^ 92 = y2 at *
            have HP1 := Lib.hid (K1.out.alloc (.cells #[.int .u8 (y1 : Nat)] 5))
            have HP2 := Lib.hid (K2.out.alloc (.cells #[.int .u8 (y1 : Nat)] 5))
            have HPB := Lib.hid (K4.out.alloc K4.out.size (.cells #[.int .u8 (y1 : Nat)] 5))
            have HXB := Lib.hid (fun (c : Nat) (hc : c < 256) => xf_by (c := c) hc HFA.out)
            go_wp2_with (first | (refine wpList_appW rfl (.tmp 27) (.tmp 33) rfl w4.heap.size _ k (xf 54 n key) rfl HP1.out (some ⟨_, 0, none⟩) 1 1 (fun _ => y1) rfl (HY1.out _) (fun h => by cases h) (by omega) HPB.out.size _ k (xf 92 n key) HP2.out K3.out ?_; intro v8 w8 h1 h2 h3 h4; have HQ1 := Lib.hid (OwnB.congr (g := xf 54 n key) h1 fun j hj => by unfold catB; by_cases e : j < k; rw [if_pos e]; rw [if_neg e, show j = k by omega, HX1.out]); have HQ2 := Lib.hid h2; have HQ3 := Lib.hid h3; have HQB := Lib.hid (HPB.out.trans h4); clear h1 h2 h3 h4 hcell; have hcell := HC7.out w8 HQB.out; have HR1 := Lib.hid (HQ1.out.alloc (.cells #[.int .u8 (y2 : Nat)] 5)); have HR2 := Lib.hid (HQ2.out.alloc (.cells #[.int .u8 (y2 : Nat)] 5)); have HRB := Lib.hid (HQB.out.alloc HQB.out.size (.cells #[.int .u8 (y2 : Nat)] 5))) | (refine wpList_appW rfl (.tmp 35) (.tmp 41) rfl w4.heap.size _ k (xf 92 n key) rfl HR2.out (some ⟨_, 0, none⟩) 1 1 (fun _ => y2) rfl (HY2.out _) (fun h => by cases h) (by omega) HRB.out.size _ (k + 1) (xf 54 n key) HR1.out HQ3.out.symm ?_; intro v9 w9 h1 h2 h3 h4; have HS1 := Lib.hid (OwnB.congr (g := xf 92 n key) h1 fun j hj => by unfold catB; by_cases e : j < k; rw [if_pos e]; rw [if_neg e, show j = k by omega, HX2.out]); have HS2 := Lib.hid h2; have HS3 := Lib.hid h3.symm; have HSB := Lib.hid (HRB.out.trans h4); clear h1 h2 h3 h4))
            go_roundw
            case rel => exact ⟨k + 1, by omega, by go_num, HS2.out, HS1.out, HS3.out, HSB.out⟩
            case measure => simp [intOf]; omega
          · obtain rfl : k = 64 := by omega
            have HXB := Lib.hid (fun (c : Nat) (hc : c < 256) => xf_by (c := c) hc HFA.out)
            have HBW := Lib.hid (HB.out.keep (G2.out.trans (K4.out.mono G2.out.size)))
            go_wp2_with (refine wpList_appW rfl (.tmp 44) (.tmp 45) rfl w4.heap.size _ 64 (xf 54 n key) rfl K1.out B m c2 b rfl HBW.out HNB.out (by have := HM.out; omega) K4.out.size _ 64 (xf 92 n key) K2.out K3.out ?_; intro v8 w8 h1 h2 _ h4; have HQ2 := Lib.hid h2; have HQB := Lib.hid (K4.out.trans h4); obtain ⟨A8, c8, e8, hs8⟩ := OwnB.slice h1 (catB_lt (HXB.out 54 (by decide)) HFB.out); obtain ⟨A8', c8', e8', _, _, hn8⟩ := OwnB.cap_le h1; rw [e8] at e8'; cases e8'; subst e8; have HS8 := Lib.hid hs8; have HN8 := Lib.hid hn8; clear h1 h2 h4 hs8 hn8)
            refine (rsum_any A8 (64 + m) c8 (catB 64 (xf 54 n key) b) w8 (by have := HM.out; omega) HS8.out HN8.out).mono ?_
            rintro e w9 ⟨A9, c9, rfl, h1, h2⟩
            have HS9 := Lib.hid h1
            have HY9 := Lib.hid (HQ2.out.keep h2)
            have HB9 := Lib.hid (HQB.out.trans (h2.mono HQB.out.size))
            have hA9 : ∃ B9 o9, A9 = some ⟨B9, o9, none⟩ := by
              obtain ⟨B9, o9, e, _⟩ := h1 (by decide)
              exact ⟨B9, o9, e⟩
            obtain ⟨B9, o9, rfl⟩ := hA9
            clear h1 h2 HQ2 HQB HS8 HN8
            go_wp2_with (refine wpList_appO rfl (.tmp 43) (.tmp 47) rfl w4.heap.size _ 64 (xf 92 n key) rfl HY9.out (some ⟨B9, o9, none⟩) 32 c9 (sha (64 + m) (catB 64 (xf 54 n key) b)) rfl HS9.out (fun h => by cases h) (by decide) HB9.out.size (HXB.out 92 (by decide)) (fun j _ => sha_lt _ _ j) ?_; intro A10 c10 w10 h1 h2 h3 h4; have HS10 := Lib.hid h2; have HN10 := Lib.hid h3.2.2; have HB10 := Lib.hid (HB9.out.trans h4); clear h1 h2 h3 h4)
            refine (rsum_own A10 (64 + 32) c10 (catB 64 (xf 92 n key) (sha (64 + m) (catB 64 (xf 54 n key) b))) w10 (by decide) HS10.out HN10.out).mono ?_
            rintro e w11 ⟨A11, c11, rfl, ⟨h1, h2⟩, h3⟩
            have HW10 := Lib.hid (G2.out.trans (HB10.out.mono G2.out.size))
            have HS11 := Lib.hid h1
            have HO11 := Lib.hid (h2.less HW10.out.size)
            have HB11 := Lib.hid (HW10.out.trans (h3.mono HW10.out.size))
            clear h1 h2 h3
            go_wp2_with fail
            go_ret
            exact ⟨⟨A11, c11, rfl, HS11.out, HO11.out⟩, HB11.out⟩
  · have hd : decide (64 < (n : Int)) = false := by simp; omega
    have HL := Lib.hid (show n ≤ 64 by omega)
    clear hl
    go_enter Tryz.func41, Tryz.ntmps41
    go_wp2_with (refine wpList_appO rfl (.tmp 9) (.tmp 10) rfl w.heap.size _ 0 key rfl HE.out A n c key rfl HA.out HNA.out (by have := HN.out; omega) HB0.out.size (fun j hj => absurd hj (Nat.not_lt_zero j)) HFA.out ?_; intro A1 c1 w1 h1 h2 h3 h4; rw [Nat.zero_add] at h1 h2 h3 ⊢; have HO1 := Lib.hid (OwnB.congr (g := key) h1 fun j _ => rfl); have HS1 := Lib.hid (SlB.congr (f' := key) h2 fun j _ => rfl); have HN1 := Lib.hid h3.2.2; have HB1 := Lib.hid (HB0.out.trans h4); clear h1 h2 h3 h4)
    obtain ⟨w3, hw3⟩ : ∃ w3, w3 = w1 := ⟨_, rfl⟩
    subst hw3
    have HO3 := Lib.hid (OwnB.congr (g := kf n key) HO1.out fun j hj => (kf_at key HL.out hj).symm)
    have HB3 := Lib.hid HB1.out
    have HZ := Lib.hid (fun j (hj : n ≤ j) => kf_past key HL.out hj)
    have hnl := HL.out
    clear hd HO1 HS1 HN1 HB1
    go_wp2_with fail
    go_loopw [5] (fun v wr => ∃ (l : Nat) (A4 : Option Addr) (c4 : Nat), n ≤ l ∧ l ≤ 64 ∧ v = .slice A4 l c4 ∧ OwnB wr w.heap.size (.slice A4 l c4) l (kf n key) ∧ Below w.heap.size w wr) (fun v _ => 64 - lenOf v)
    case atStart => exact ⟨n, A1, c1, Nat.le_refl _, by omega, rfl, HO3.out, HB3.out⟩
    case round =>
      obtain ⟨l, A4, c4, hl1, hl2, rfl, h1, h2⟩ := hrel
      have G1 := Lib.hid h1
      have G2 := Lib.hid h2
      have HKB := Lib.hid (kf_by HFA.out)
      have HZ1 := Lib.hid fun W => one_sl W 0 (by decide)
      clear h1 h2
      by_cases hlt : l < 64
      · have hli : (l : Int) < 64 := by omega
        have HO4 := Lib.hid (G1.out.alloc (.cells #[.int .u8 ((0 : Nat) : Int)] 5))
        have HB4 := Lib.hid (G2.out.alloc G2.out.size (.cells #[.int .u8 ((0 : Nat) : Int)] 5))
        have HZL := Lib.hid (HZ.out l hl1)
        have HMS := Lib.hid (show 64 - (l + 1) < 64 - l by omega)
        go_wp2_with (refine wpList_appO rfl (.tmp 20) (.tmp 21) rfl w.heap.size _ l (kf n key) rfl HO4.out (some ⟨_, 0, none⟩) 1 1 (fun _ => 0) rfl (HZ1.out _) (fun h => by cases h) (by omega) HB4.out.size (fun j hj => HKB.out j (by omega)) (fun _ _ => by decide) ?_; intro A5 c5 w5 h1 h2 h3 h4; have HO5 := Lib.hid (OwnB.congr (g := kf n key) h1 fun j hj => by unfold catB; by_cases e : j < l; rw [if_pos e]; rw [if_neg e, show j = l by omega, HZL.out]); have HB5 := Lib.hid (HB4.out.trans h4); clear h1 h2 h3 h4)
        go_roundw
        case rel => exact ⟨l + 1, A5, c5, by omega, by omega, rfl, HO5.out, HB5.out⟩
        case measure => exact HMS.out
      · obtain rfl : l = 64 := by omega
        obtain ⟨A6, c6, e6, hsl6⟩ := OwnB.slice G1.out (fun j hj => HKB.out j hj)
        cases e6
        have HK6 := Lib.hid hsl6
        have hA6 : ∃ B6 o6, A4 = some ⟨B6, o6, none⟩ := by
          obtain ⟨B6, o6, e, _⟩ := hsl6 (by decide)
          exact ⟨B6, o6, e⟩
        obtain ⟨B6, o6, rfl⟩ := hA6
        clear hsl6 hl1 hl2 hlt HO3 HB3 HZ
        go_wp2_with fail
        obtain ⟨w4, hw4⟩ : ∃ w4, w4 = wr := ⟨_, rfl⟩
        subst hw4
        go_loopw [6, 7, 8] (fun v6 v7 t wx => ∃ k : Nat, k ≤ 64 ∧ t = .int .i64 k ∧ OwnB wx w4.heap.size v6 k (xf 54 n key) ∧ OwnB wx w4.heap.size v7 k (xf 92 n key) ∧ Apart v6 v7 ∧ Below w4.heap.size w4 wx) (fun _ _ t _ => 64 - (intOf t).toNat)
        case atStart => exact ⟨0, Nat.zero_le _, rfl, OwnB.nil _ _ _, OwnB.nil _ _ _, Apart.nil _, Below.refl _ _⟩
        case round =>
          obtain ⟨k, hk, rfl, h1, h2, h3, h4⟩ := hrel
          have K1 := Lib.hid h1
          have K2 := Lib.hid h2
          have K3 := Lib.hid h3
          have K4 := Lib.hid h4
          clear h1 h2 h3 h4
          by_cases hlt : k < 64
          · have hki : (k : Int) < 64 := by omega
            obtain ⟨B7, o7, e7, hB7, hc7⟩ := HK6.out (by decide)
            cases e7
            have hcell := (K4.out.cell (p := ⟨B6, o6 + k, none⟩) hB7).trans (hc7 k hlt).2
            have HC7 := Lib.hid (fun (W : World) (h : Below w4.heap.size w4 W) => (h.cell (p := ⟨B6, o6 + k, none⟩) hB7).trans (hc7 k hlt).2)
            obtain ⟨x, hx⟩ : ∃ x, kf n key k = x := ⟨_, rfl⟩
            have hxl : x < 256 := by rw [← hx]; exact HKB.out k hlt
            have b1 : bits BinOp.xor .u8 (x : Int) 54 = ((x ^^^ 54 : Nat) : Int) := u8_xor_nat x 54 hxl (by decide)
            have b2 : bits BinOp.xor .u8 (x : Int) 92 = ((x ^^^ 92 : Nat) : Int) := u8_xor_nat x 92 hxl (by decide)
            have HX1 := Lib.hid (show xf 54 n key k = x ^^^ 54 by unfold xf; rw [hx])
            have HX2 := Lib.hid (show xf 92 n key k = x ^^^ 92 by unfold xf; rw [hx])
            have HL1 := Lib.hid (xor_lt8 hxl (show 54 < 256 by decide))
            have HL2 := Lib.hid (xor_lt8 hxl (show 92 < 256 by decide))
            have HY1 := Lib.hid fun W => one_sl W (x ^^^ 54) HL1.out
            have HY2 := Lib.hid fun W => one_sl W (x ^^^ 92) HL2.out
            rw [hx] at hcell HC7
            clear hx hc7 hB7
            generalize x ^^^ 54 = y1 at *
            generalize x ^^^ 92 = y2 at *
            have HP1 := Lib.hid (K1.out.alloc (.cells #[.int .u8 (y1 : Nat)] 5))
            have HP2 := Lib.hid (K2.out.alloc (.cells #[.int .u8 (y1 : Nat)] 5))
            have HPB := Lib.hid (K4.out.alloc K4.out.size (.cells #[.int .u8 (y1 : Nat)] 5))
            have HXB := Lib.hid (fun (c : Nat) (hc : c < 256) => xf_by (c := c) hc HFA.out)
            go_wp2_with (first | (refine wpList_appW rfl (.tmp 27) (.tmp 33) rfl w4.heap.size _ k (xf 54 n key) rfl HP1.out (some ⟨_, 0, none⟩) 1 1 (fun _ => y1) rfl (HY1.out _) (fun h => by cases h) (by omega) HPB.out.size _ k (xf 92 n key) HP2.out K3.out ?_; intro v8 w8 h1 h2 h3 h4; have HQ1 := Lib.hid (OwnB.congr (g := xf 54 n key) h1 fun j hj => by unfold catB; by_cases e : j < k; rw [if_pos e]; rw [if_neg e, show j = k by omega, HX1.out]); have HQ2 := Lib.hid h2; have HQ3 := Lib.hid h3; have HQB := Lib.hid (HPB.out.trans h4); clear h1 h2 h3 h4 hcell; have hcell := HC7.out w8 HQB.out; have HR1 := Lib.hid (HQ1.out.alloc (.cells #[.int .u8 (y2 : Nat)] 5)); have HR2 := Lib.hid (HQ2.out.alloc (.cells #[.int .u8 (y2 : Nat)] 5)); have HRB := Lib.hid (HQB.out.alloc HQB.out.size (.cells #[.int .u8 (y2 : Nat)] 5))) | (refine wpList_appW rfl (.tmp 35) (.tmp 41) rfl w4.heap.size _ k (xf 92 n key) rfl HR2.out (some ⟨_, 0, none⟩) 1 1 (fun _ => y2) rfl (HY2.out _) (fun h => by cases h) (by omega) HRB.out.size _ (k + 1) (xf 54 n key) HR1.out HQ3.out.symm ?_; intro v9 w9 h1 h2 h3 h4; have HS1 := Lib.hid (OwnB.congr (g := xf 92 n key) h1 fun j hj => by unfold catB; by_cases e : j < k; rw [if_pos e]; rw [if_neg e, show j = k by omega, HX2.out]); have HS2 := Lib.hid h2; have HS3 := Lib.hid h3.symm; have HSB := Lib.hid (HRB.out.trans h4); clear h1 h2 h3 h4))
            go_roundw
            case rel => exact ⟨k + 1, by omega, by go_num, HS2.out, HS1.out, HS3.out, HSB.out⟩
            case measure => simp [intOf]; omega
          · obtain rfl : k = 64 := by omega
            have HXB := Lib.hid (fun (c : Nat) (hc : c < 256) => xf_by (c := c) hc HFA.out)
            have HBW := Lib.hid (HB.out.keep (G2.out.trans (K4.out.mono G2.out.size)))
            go_wp2_with (refine wpList_appW rfl (.tmp 44) (.tmp 45) rfl w4.heap.size _ 64 (xf 54 n key) rfl K1.out B m c2 b rfl HBW.out HNB.out (by have := HM.out; omega) K4.out.size _ 64 (xf 92 n key) K2.out K3.out ?_; intro v8 w8 h1 h2 _ h4; have HQ2 := Lib.hid h2; have HQB := Lib.hid (K4.out.trans h4); obtain ⟨A8, c8, e8, hs8⟩ := OwnB.slice h1 (catB_lt (HXB.out 54 (by decide)) HFB.out); obtain ⟨A8', c8', e8', _, _, hn8⟩ := OwnB.cap_le h1; rw [e8] at e8'; cases e8'; subst e8; have HS8 := Lib.hid hs8; have HN8 := Lib.hid hn8; clear h1 h2 h4 hs8 hn8)
            refine (rsum_any A8 (64 + m) c8 (catB 64 (xf 54 n key) b) w8 (by have := HM.out; omega) HS8.out HN8.out).mono ?_
            rintro e w9 ⟨A9, c9, rfl, h1, h2⟩
            have HS9 := Lib.hid h1
            have HY9 := Lib.hid (HQ2.out.keep h2)
            have HB9 := Lib.hid (HQB.out.trans (h2.mono HQB.out.size))
            have hA9 : ∃ B9 o9, A9 = some ⟨B9, o9, none⟩ := by
              obtain ⟨B9, o9, e, _⟩ := h1 (by decide)
              exact ⟨B9, o9, e⟩
            obtain ⟨B9, o9, rfl⟩ := hA9
            clear h1 h2 HQ2 HQB HS8 HN8
            go_wp2_with (refine wpList_appO rfl (.tmp 43) (.tmp 47) rfl w4.heap.size _ 64 (xf 92 n key) rfl HY9.out (some ⟨B9, o9, none⟩) 32 c9 (sha (64 + m) (catB 64 (xf 54 n key) b)) rfl HS9.out (fun h => by cases h) (by decide) HB9.out.size (HXB.out 92 (by decide)) (fun j _ => sha_lt _ _ j) ?_; intro A10 c10 w10 h1 h2 h3 h4; have HS10 := Lib.hid h2; have HN10 := Lib.hid h3.2.2; have HB10 := Lib.hid (HB9.out.trans h4); clear h1 h2 h3 h4)
            refine (rsum_own A10 (64 + 32) c10 (catB 64 (xf 92 n key) (sha (64 + m) (catB 64 (xf 54 n key) b))) w10 (by decide) HS10.out HN10.out).mono ?_
            rintro e w11 ⟨A11, c11, rfl, ⟨h1, h2⟩, h3⟩
            have HW10 := Lib.hid (G2.out.trans (HB10.out.mono G2.out.size))
            have HS11 := Lib.hid h1
            have HO11 := Lib.hid (h2.less HW10.out.size)
            have HB11 := Lib.hid (HW10.out.trans (h3.mono HW10.out.size))
            clear h1 h2 h3
            go_wp2_with fail
            go_ret
            exact ⟨⟨A11, c11, rfl, HS11.out, HO11.out⟩, HB11.out⟩
end Go.Proofs.YtgcdnhjjoidpmaaGreatDoor
/- Contracts of the reference's field. -/
namespace Go.Proofs.YtgcdnhjjoidpmaaGreatDoor
open Go.RowKit

/-- the product of polynomials, not yet divided -/
def clm (a b : Nat) : Nat → Nat
  | 0 => 0
  | k + 1 => if b / 2 ^ k % 2 = 1 then clm a b k ^^^ (a <<< k) else clm a b k
/-- divided from the top -/
def rdk : Nat → Nat → Nat
  | 0, p => p
  | k + 1, p => rdk k (if p / 2 ^ (k + 8) % 2 = 1 then p ^^^ (283 <<< k) else p)
theorem bit_xor (a b k : Nat) : (a ^^^ b) / 2 ^ k % 2 = (a / 2 ^ k + b / 2 ^ k) % 2 := by
  rw [← Nat.shiftRight_eq_div_pow, Nat.shiftRight_xor_distrib, gx_par, Nat.shiftRight_eq_div_pow, Nat.shiftRight_eq_div_pow]
theorem clm_lin1 (a b c : Nat) : ∀ k, clm (a ^^^ b) c k = clm a c k ^^^ clm b c k
  | 0 => (Nat.xor_self 0).symm
  | k + 1 => by
    simp only [clm]
    rw [clm_lin1 a b c k, Nat.shiftLeft_xor_distrib]
    split
    · exact x4 _ _ _ _
    · rfl
theorem lin_if (p q a : Nat) (x y z : Nat) (h : z % 2 = (x + y) % 2) : (if z % 2 = 1 then (p ^^^ q) ^^^ a else p ^^^ q) = (if x % 2 = 1 then p ^^^ a else p) ^^^ (if y % 2 = 1 then q ^^^ a else q) := by
  rcases Nat.mod_two_eq_zero_or_one x with h1 | h1 <;> rcases Nat.mod_two_eq_zero_or_one y with h2 | h2
  · rw [if_neg (by omega), if_neg (by omega), if_neg (by omega)]
  · rw [if_pos (by omega), if_neg (by omega), if_pos (by omega), Nat.xor_assoc]
  · rw [if_pos (by omega), if_pos (by omega), if_neg (by omega), Nat.xor_assoc, Nat.xor_assoc, Nat.xor_comm q]
  · rw [if_neg (by omega), if_pos (by omega), if_pos (by omega), x4, Nat.xor_self, Nat.xor_zero]
theorem clm_lin2 (a b c : Nat) : ∀ k, clm a (b ^^^ c) k = clm a b k ^^^ clm a c k
  | 0 => (Nat.xor_self 0).symm
  | k + 1 => by
    simp only [clm]
    rw [clm_lin2 a b c k]
    exact lin_if _ _ _ _ _ _ (bit_xor b c k)
theorem rdk_lin : ∀ (k p q : Nat), rdk k (p ^^^ q) = rdk k p ^^^ rdk k q
  | 0, _, _ => rfl
  | k + 1, p, q => by
    simp only [rdk]
    rw [← rdk_lin k, lin_if _ _ _ _ _ _ (bit_xor p q (k + 8))]
theorem clm_zero1 (b : Nat) : ∀ k, clm 0 b k = 0
  | 0 => rfl
  | k + 1 => by
    simp only [clm]
    rw [clm_zero1 b k, Nat.zero_shiftLeft]
    split <;> rfl
theorem clm_zero2 (a : Nat) : ∀ k, clm a 0 k = 0
  | 0 => rfl
  | k + 1 => by
    simp only [clm]
    rw [clm_zero2 a k, Nat.zero_div, if_neg (by decide)]
theorem clm_gm {a b : Nat} (ha : a < 256) (hb : b < 256) : rdk 7 (clm a b 8) = gm a b := by
  have z : rdk 7 0 = 0 := by decide
  exact bilin (fun a b => rdk 7 (clm a b 8)) gm (fun a => by rw [clm_zero2, gm_zero2, z]) (fun b => by rw [clm_zero1, gm_zero1, z])
    (fun a b c _ _ _ => by rw [clm_lin1, rdk_lin]) (fun a b c ha hb _ => gm_xor1 a b c ha hb) (fun a b c _ _ _ => by rw [clm_lin2, rdk_lin]) (fun a b c _ _ _ => gm_xor2 a b c)
    (by decide +kernel) a ha b hb
theorem shl_lt {a k : Nat} (ha : a < 256) (hk : k < 8) : a <<< k < 32768 := by
  rw [Nat.shiftLeft_eq]
  calc a * 2 ^ k ≤ a * 128 := Nat.mul_le_mul_left a (Nat.pow_le_pow_right (by decide) (show k ≤ 7 by omega) : 2 ^ k ≤ 2 ^ 7)
    _ < 32768 := by omega
theorem clm_lt {a : Nat} (b : Nat) (ha : a < 256) : ∀ k, k ≤ 8 → clm a b k < 32768
  | 0, _ => (by decide : 0 < 32768)
  | k + 1, hk => by
    simp only [clm]
    have ih := clm_lt b ha k (by omega)
    split
    · exact Nat.xor_lt_two_pow (n := 15) ih (shl_lt ha (by omega))
    · exact ih
theorem bit_test {x k : Nat} {c : Bool} (h : decide (x / 2 ^ k % 2 = 1) = c) : ((((x : Nat) : Int) / 2 ^ k).tmod 2 == 1) = c := by
  have e : ((x : Nat) : Int) / 2 ^ k = ((x / 2 ^ k : Nat) : Int) := by simp
  rw [e, ← h, Int.tmod_eq_emod_of_nonneg (Int.natCast_nonneg _)]
  generalize x / 2 ^ k = y
  by_cases hy : y % 2 = 1
  · rw [decide_eq_true hy, beq_iff_eq]; omega
  · rw [decide_eq_false hy, beq_eq_false_iff_ne]; omega
theorem shl_wrap {a k : Nat} (h : a <<< k < 32768) : wrap64 ((a : Int) * 2 ^ k) = ((a <<< k : Nat) : Int) := by
  have e : (a : Int) * 2 ^ k = ((a <<< k : Nat) : Int) := by rw [Nat.shiftLeft_eq]; simp
  rw [e]
  unfold wrap64
  generalize a <<< k = y at *
  omega

set_option maxHeartbeats 800000 in
theorem rmul_any (a b : Nat) (w : World) (ha : a < 256) (hb : b < 256) :
    Calls Tryz.prog 69 #[.int .u8 a, .int .u8 b] w fun e w' => e = .returned (.int .u8 (gm a b : Nat)) ∧ w = w' := by
  go_enter Tryz.func69, Tryz.ntmps69
  go_wp2_with fail
  go_loop [5, 6] (fun p i => ∃ (k p' : Nat), k ≤ 8 ∧ p' = clm a b k ∧ p = .int .i64 p' ∧ i = .int .i64 k) (fun _ i => 8 - (intOf i).toNat)
  case atStart => exact ⟨0, 0, by decide, rfl, rfl, rfl⟩
  case round =>
    obtain ⟨k, p', hk, hp, rfl, rfl⟩ := hrel
    have hp' := clm_lt b ha k hk
    rw [← hp] at hp'
    by_cases h0 : k < 8
    · have hs := shl_lt ha h0
      by_cases hbit : b / 2 ^ k % 2 = 1
      · have HP := Lib.hid (show p' ^^^ (a <<< k) = clm a b (k + 1) by rw [hp]; simp only [clm, if_pos hbit])
        have ht := bit_test (decide_eq_true hbit)
        have hx : bits BinOp.xor .i64 (p' : Int) (wrap64 ((a : Int) * 2 ^ k)) = ((p' ^^^ (a <<< k) : Nat) : Int) := by
          rw [show wrap64 ((a : Int) * 2 ^ k) = ((a <<< k : Nat) : Int) from shl_wrap hs]
          exact i64_xor_nat _ _ (by omega) (by omega)
        clear hp
        go_wp2_with fail
        go_round
        case rel => exact ⟨k + 1, _, by omega, HP.out, by rw [← hx], by go_num⟩
        case measure => simp [intOf]; omega
      · have HP := Lib.hid (show p' = clm a b (k + 1) by rw [hp]; simp only [clm, if_neg hbit])
        have ht := bit_test (decide_eq_false hbit)
        clear hp
        go_wp2_with fail
        go_round
        case rel => exact ⟨k + 1, _, by omega, HP.out, rfl, by go_num⟩
        case measure => simp [intOf]; omega
    · obtain rfl : k = 8 := by omega
      have HG := Lib.hid (show rdk 7 p' = gm a b by rw [hp]; exact clm_gm ha hb)
      have hgl := gm_lt b ha
      clear hp
      go_wp2_with fail
      go_loop [5, 7] (fun p i => ∃ (k p' : Nat), k ≤ 7 ∧ p' < 32768 ∧ rdk k p' = gm a b ∧ p = .int .i64 p' ∧ i = .int .i64 ((k : Int) + 7)) (fun _ i => (intOf i).toNat)
      case atStart => exact ⟨7, p', by decide, hp', HG.out, rfl, rfl⟩
      case round =>
        obtain ⟨k, p', hk, hp', hg, rfl, rfl⟩ := hrel
        have HG := Lib.hid hg
        clear hg
        by_cases h0 : 0 < k
        · obtain ⟨j, rfl⟩ : ∃ j, k = j + 1 := ⟨k - 1, by omega⟩
          have hs : 283 <<< j < 32768 := by
            have : ∀ j, j < 7 → 283 <<< j < 32768 := by decide
            exact this j (by omega)
          by_cases hbit : p' / 2 ^ (j + 8) % 2 = 1
          · have HP := Lib.hid (show rdk j (p' ^^^ (283 <<< j)) = gm a b by rw [← HG.out]; simp only [rdk, if_pos hbit])
            have ht := bit_test (decide_eq_true hbit)
            have hx : bits BinOp.xor .i64 (p' : Int) (wrap64 (283 * 2 ^ j)) = ((p' ^^^ (283 <<< j) : Nat) : Int) := by
              rw [show wrap64 (283 * 2 ^ j) = ((283 <<< j : Nat) : Int) from shl_wrap hs]
              exact i64_xor_nat _ _ (by omega) (by omega)
            have hpl : p' ^^^ (283 <<< j) < 32768 := Nat.xor_lt_two_pow (n := 15) hp' hs
            go_wp2_with fail
            go_round
            case rel => exact ⟨j, _, by omega, hpl, HP.out, by rw [← hx], by go_num⟩
            case measure => simp [intOf]; omega
          · have HP := Lib.hid (show rdk j p' = gm a b by rw [← HG.out]; simp only [rdk, if_neg hbit])
            have ht := bit_test (decide_eq_false hbit)
            go_wp2_with fail
            go_round
            case rel => exact ⟨j, _, by omega, hp', HP.out, rfl, by go_num⟩
            case measure => simp [intOf]; omega
        · obtain rfl : k = 0 := by omega
          have HG2 := Lib.hid (show p' = gm a b from HG.out)
          have hpl : p' < 256 := by rw [HG2.out]; exact hgl
          clear h0 HG hgl
          go_wp2_with fail
          go_ret
          exact ⟨ret_u8 HG2.out, rfl⟩
end Go.Proofs.YtgcdnhjjoidpmaaGreatDoor
/- Contracts of the reference's field: powers, inverses, byte maps. -/
namespace Go.Proofs.YtgcdnhjjoidpmaaGreatDoor
open Go.RowKit

theorem rpow_any (a : Nat) (n : Int) (w : World) (ha : a < 256) (hn : n ≤ 9223372036854775807) :
    Calls Tryz.prog 70 #[.int .u8 a, .int .i64 n] w fun e w' => e = .returned (.int .u8 (gpow a n.toNat : Nat)) ∧ w = w' := by
  by_cases h0 : n ≤ 0
  · have HE := Lib.hid (show 1 = gpow a n.toNat by rw [show n.toNat = 0 by omega]; rfl)
    go_enter Tryz.func70, Tryz.ntmps70
    go_wp2_with fail
    go_ret
    exact ⟨ret_u8 HE.out, rfl⟩
  · obtain ⟨m, rfl⟩ := Int.eq_ofNat_of_zero_le (show 0 ≤ n by omega)
    rw [Int.toNat_natCast]
    by_cases ha0 : a = 0
    · subst ha0
      have HE := Lib.hid (show 0 = gpow 0 m from (gpow_zero (by omega)).symm)
      go_enter Tryz.func70, Tryz.ntmps70
      go_wp2_with fail
      go_ret
      exact ⟨ret_u8 HE.out, rfl⟩
    · have HE := Lib.hid (gpow_mod ha ha0 m)
      obtain ⟨r, hr⟩ : ∃ r, m % 255 = r := ⟨_, rfl⟩
      have HR := Lib.hid hr
      have hm : ((m : Int) % 255) = (r : Int) := by omega
      have hrl : r < 255 := by omega
      clear hr
      have hz : ((a : Int) == 0) = false := by rw [beq_eq_false_iff_ne]; omega
      go_enter Tryz.func70, Tryz.ntmps70
      go_wp2_with fail
      go_loop [5, 6] (fun p i => ∃ (k p' : Nat), k ≤ r ∧ p' = gpow a k ∧ p = .int .u8 p' ∧ i = .int .i64 k) (fun _ i => r - (intOf i).toNat)
      case atStart => exact ⟨0, 1, Nat.zero_le _, rfl, rfl, rfl⟩
      case round =>
        obtain ⟨k, p', hk, hp, rfl, rfl⟩ := hrel
        have hp' := gpow_lt ha k
        rw [← hp] at hp'
        by_cases hlt : k < r
        · have HP := Lib.hid (show gm p' a = gpow a (k + 1) by rw [hp]; rfl)
          clear hp
          go_wp2_with (go_at_call 69; refine (rmul_any _ _ _ (by assumption) (by assumption)).mono ?_; rintro e w' ⟨rfl, rfl⟩)
          go_round
          case rel => exact ⟨k + 1, _, by omega, HP.out, rfl, by go_num⟩
          case measure => simp [intOf]; omega
        · obtain rfl : k = r := by omega
          have HP := Lib.hid (show p' = gpow a m by rw [hp, ← HE.out, HR.out])
          clear hp
          go_wp2_with fail
          go_ret
          exact ⟨ret_u8 HP.out, rfl⟩

/-- turned left, bit by bit -/
def rlf (a n : Nat) : Nat → Nat
  | 0 => 0
  | k + 1 => if a / 2 ^ k % 2 = 1 then rlf a n k ||| (1 <<< ((k + n) % 8)) else rlf a n k
theorem rlf_lt (a n : Nat) : ∀ k, rlf a n k < 256
  | 0 => (by decide : 0 < 256)
  | k + 1 => by
    simp only [rlf]
    split
    · refine Nat.or_lt_two_pow (n := 8) (rlf_lt a n k) ?_
      have : ∀ x, x < 8 → 1 <<< x < 2 ^ 8 := by decide
      exact this _ (Nat.mod_lt _ (by decide))
    · exact rlf_lt a n k
theorem rlf_rotl {a n : Nat} (ha : a < 256) (hn : n < 8) : rlf a n 8 = rotl a n := by
  have : ∀ n, n < 8 → ∀ a, a < 256 → rlf a n 8 = rotl a n := by decide +kernel
  exact this n hn a ha

theorem rleft_any (a n : Nat) (t : Int) (w : World) (ha : a < 256) (hn : n < 8) (ht : t = (n : Int)) :
    Calls Tryz.prog 68 #[.int .u8 a, .int .i64 t] w fun e w' => e = .returned (.int .u8 (rotl a n : Nat)) ∧ w = w' := by
  subst ht
  go_enter Tryz.func68, Tryz.ntmps68
  go_wp2_with fail
  go_loop [5, 6] (fun p i => ∃ (k p' : Nat), k ≤ 8 ∧ p' = rlf a n k ∧ p = .int .i64 p' ∧ i = .int .i64 k) (fun _ i => 8 - (intOf i).toNat)
  case atStart => exact ⟨0, 0, by decide, rfl, rfl, rfl⟩
  case round =>
    obtain ⟨k, p', hk, hp, rfl, rfl⟩ := hrel
    have hp' := rlf_lt a n k
    rw [← hp] at hp'
    by_cases h0 : k < 8
    · by_cases hbit : a / 2 ^ k % 2 = 1
      · have HP := Lib.hid (show p' ||| (1 <<< ((k + n) % 8)) = rlf a n (k + 1) by rw [hp]; simp only [rlf, if_pos hbit])
        have ht := bit_test (decide_eq_true hbit)
        have hs : 1 <<< ((k + n) % 8) < 32768 := by
          have : ∀ x, x < 8 → 1 <<< x < 32768 := by decide
          exact this _ (Nat.mod_lt _ (by decide))
        have hx : bits BinOp.or .i64 (p' : Int) (wrap64 (2 ^ ((k + n) % 8))) = ((p' ||| (1 <<< ((k + n) % 8)) : Nat) : Int) := by
          have e := shl_wrap hs
          rw [Int.natCast_one, Int.one_mul] at e
          rw [e]
          exact i64_or_nat _ _ (by omega) (by omega)
        clear hp
        go_wp2_with fail
        go_round
        case rel => exact ⟨k + 1, _, by omega, HP.out, by rw [← hx], by go_num⟩
        case measure => simp [intOf]; omega
      · have HP := Lib.hid (show p' = rlf a n (k + 1) by rw [hp]; simp only [rlf, if_neg hbit])
        have ht := bit_test (decide_eq_false hbit)
        clear hp
        go_wp2_with fail
        go_round
        case rel => exact ⟨k + 1, _, by omega, HP.out, rfl, by go_num⟩
        case measure => simp [intOf]; omega
    · obtain rfl : k = 8 := by omega
      have HG := Lib.hid (show p' = rotl a n by rw [hp]; exact rlf_rotl ha hn)
      clear hp
      go_wp2_with fail
      go_ret
      exact ⟨ret_u8 HG.out, rfl⟩
end Go.Proofs.YtgcdnhjjoidpmaaGreatDoor
/- Contracts of the reference's aes: the steps of a round. -/
namespace Go.Proofs.YtgcdnhjjoidpmaaGreatDoor
open Go.RowKit

theorem mk16 (W : World) : (Instr.makeSlice 22 (.int .i64 16) (.int .i64 16)).run Tryz.prog W = .ok (.slice (some ⟨W.heap.size, 0, none⟩) 16 16) (W.alloc (.cells (madeCells #[.int .u8 0] 16) 5)) := mk8 16 (by decide) W
theorem upto_row (h : Nat → Nat) (k x : Nat) (hx : h k = x) (j : Nat) : (if j = k then x else if j < k then h j else 0) = if j < k + 1 then h j else 0 := by
  by_cases e : j = k
  · subst e; rw [if_pos rfl, if_pos (Nat.lt_succ_self _), hx]
  · rw [if_neg e]
    by_cases h : j < k
    · rw [if_pos h, if_pos (by omega)]
    · rw [if_neg h, if_neg (by omega)]
/-- a row of n bytes in new memory -/
def NewRow (n : Nat) (f : Nat → Nat) (w : World) (e : Ending) (w' : World) : Prop := e = .returned (.slice (some ⟨w.heap.size, 0, none⟩) n n) ∧ RowB w' w.heap.size n f ∧ Below w.heap.size w w'

set_option maxHeartbeats 800000 in
theorem rlay_any4 (A1 A2 : Option Addr) (c1 c2 : Nat) (a b : Nat → Nat) (w : World) (h1 : SlB w A1 16 a) (h2 : SlB w A2 16 b) :
    Calls Tryz.prog 56 #[.slice A1 16 c1, .slice A2 16 c2] w (NewRow 16 (fun i => a i ^^^ b i) w) := by
  obtain ⟨B1, o1, rfl, l1, e1⟩ := h1 (by decide)
  obtain ⟨B2, o2, rfl, l2, e2⟩ := h2 (by decide)
  have E1 := Lib.hid e1
  have E2 := Lib.hid e2
  have L1 := Lib.hid l1
  have L2 := Lib.hid l2
  have hmk := mk16
  clear h1 h2 e1 e2 l1 l2
  go_enter Tryz.func56, Tryz.ntmps56
  go_wp2_with fail
  clear hmk
  go_loopw [6] (fun v wr => ∃ k : Nat, k ≤ 16 ∧ v = .int .i64 k ∧ RowB wr w.heap.size 16 (fun j => if j < k then a j ^^^ b j else 0) ∧ Below w.heap.size w wr) (fun v _ => 16 - (intOf v).toNat)
  case atStart => exact ⟨0, by decide, rfl, (rowB_made w 16).congr fun j _ => (if_neg (Nat.not_lt_zero _)).symm, (Below.refl _ _).alloc (Nat.le_refl _) _⟩
  case round =>
    obtain ⟨k, hk, rfl, h1, h2⟩ := hrel
    have H1 := Lib.hid h1
    have H2 := Lib.hid h2
    clear h1 h2
    by_cases hlt : k < 16
    · have hx := (E1.out k hlt).1
      have hy := (E2.out k hlt).1
      have hc1 := (H2.out.cell (p := ⟨B1, o1 + k, none⟩) L1.out).trans (E1.out k hlt).2
      have hc2 := (H2.out.cell (p := ⟨B2, o2 + k, none⟩) L2.out).trans (E2.out k hlt).2
      have hc3 := H1.out.cell hlt
      have hf3 := H1.out.frozen k
      rw [if_neg (Nat.lt_irrefl k)] at hc3
      have HR := Lib.hid (((H1.out.set k (a k ^^^ b k) _ rfl).congr fun j _ => upto_row (fun j => a j ^^^ b j) k _ rfl j).drew)
      have HB := Lib.hid ((H2.out.setCell (p := ⟨w.heap.size, k, none⟩) (Nat.le_refl _) (.int .u8 ((a k ^^^ b k : Nat) : Int))).drew)
      have hxy : bits BinOp.xor .u8 ((a k : Nat) : Int) ((b k : Nat) : Int) = ((a k ^^^ b k : Nat) : Int) := u8_xor_nat _ _ hx hy
      generalize a k = x at *
      generalize b k = y at *
      go_wp2_with fail
      go_region
      all_goals
        generalize (wr.setCell ⟨w.heap.size, k, none⟩ (.int .u8 ((x ^^^ y : Nat) : Int))).drew = W at *
        clear hc1 hc2 hc3 hf3
        go_wp2_with fail
        go_roundw
        case rel => exact ⟨k + 1, by omega, by go_num, HR.out, HB.out⟩
        case measure => simp [intOf]; omega
    · obtain rfl : k = 16 := by omega
      go_wp2_with fail
      go_ret
      exact ⟨rfl, H1.out.congr fun j hj => if_pos hj, H2.out⟩
set_option maxHeartbeats 800000 in
theorem rswap_any (A1 A2 : Option Addr) (c1 c2 : Nat) (a T : Nat → Nat) (w : World) (h1 : SlB w A1 16 a) (h2 : SlB w A2 256 T) :
    Calls Tryz.prog 58 #[.slice A1 16 c1, .slice A2 256 c2] w (NewRow 16 (fun i => T (a i)) w) := by
  obtain ⟨B1, o1, rfl, l1, e1⟩ := h1 (by decide)
  obtain ⟨B2, o2, rfl, l2, e2⟩ := h2 (by decide)
  have E1 := Lib.hid e1
  have E2 := Lib.hid e2
  have L1 := Lib.hid l1
  have L2 := Lib.hid l2
  have hmk := mk16
  clear h1 h2 e1 e2 l1 l2
  go_enter Tryz.func58, Tryz.ntmps58
  go_wp2_with fail
  clear hmk
  go_loopw [6] (fun v wr => ∃ k : Nat, k ≤ 16 ∧ v = .int .i64 k ∧ RowB wr w.heap.size 16 (fun j => if j < k then T (a j) else 0) ∧ Below w.heap.size w wr) (fun v _ => 16 - (intOf v).toNat)
  case atStart => exact ⟨0, by decide, rfl, (rowB_made w 16).congr fun j _ => (if_neg (Nat.not_lt_zero _)).symm, (Below.refl _ _).alloc (Nat.le_refl _) _⟩
  case round =>
    obtain ⟨k, hk, rfl, h1, h2⟩ := hrel
    have H1 := Lib.hid h1
    have H2 := Lib.hid h2
    clear h1 h2
    by_cases hlt : k < 16
    · have hx := (E1.out k hlt).1
      have hc1 := (H2.out.cell (p := ⟨B1, o1 + k, none⟩) L1.out).trans (E1.out k hlt).2
      have hc2 := (H2.out.cell (p := ⟨B2, o2 + a k, none⟩) L2.out).trans (E2.out (a k) hx).2
      have hc3 := H1.out.cell hlt
      have hf3 := H1.out.frozen k
      rw [if_neg (Nat.lt_irrefl k)] at hc3
      have HR := Lib.hid ((H1.out.set k (T (a k)) _ rfl).congr fun j _ => upto_row (fun j => T (a j)) k _ rfl j)
      have HB := Lib.hid (H2.out.setCell (p := ⟨w.heap.size, k, none⟩) (Nat.le_refl _) (.int .u8 ((T (a k) : Nat) : Int)))
      generalize T (a k) = y at *
      generalize a k = x at *
      go_wp2_with fail
      go_roundw
      case rel => exact ⟨k + 1, by omega, by go_num, HR.out, HB.out⟩
      case measure => simp [intOf]; omega
    · obtain rfl : k = 16 := by omega
      go_wp2_with fail
      go_ret
      exact ⟨rfl, H1.out.congr fun j hj => if_pos hj, H2.out⟩
end Go.Proofs.YtgcdnhjjoidpmaaGreatDoor
/- Contracts of the reference's aes: shifting, products, mixing. -/
namespace Go.Proofs.YtgcdnhjjoidpmaaGreatDoor
open Go.RowKit

set_option maxHeartbeats 1600000 in
theorem rshift_any (A1 : Option Addr) (c1 t : Nat) (ti : Int) (a : Nat → Nat) (w : World) (ht : (t = 1 ∧ ti = 1) ∨ (t = 3 ∧ ti = 3)) (h1 : SlB w A1 16 a) :
    Calls Tryz.prog 57 #[.slice A1 16 c1, .int .i64 ti] w (NewRow 16 (fun i => a ((i + 4 * t * (i % 4)) % 16)) w) := by
  obtain ⟨B1, o1, rfl, l1, e1⟩ := h1 (by decide)
  have E1 := Lib.hid e1
  have L1 := Lib.hid l1
  have hmk := mk16
  clear h1 e1 l1
  obtain ⟨F, hF⟩ : ∃ F : Nat → Nat, F = fun i => a ((i + 4 * t * (i % 4)) % 16) := ⟨_, rfl⟩
  have HFE := Lib.hid hF
  clear hF
  rcases ht with ⟨rfl, rfl⟩ | ⟨rfl, rfl⟩
  all_goals
    go_enter Tryz.func57, Tryz.ntmps57
    go_wp2_with fail
    clear hmk
    go_loopw [6] (fun v wr => ∃ q : Nat, q ≤ 4 ∧ v = .int .i64 q ∧ RowB wr w.heap.size 16 (fun j => if j < 4 * q then F j else 0) ∧ Below w.heap.size w wr) (fun v _ => 4 - (intOf v).toNat)
    case atStart => exact ⟨0, by decide, rfl, (rowB_made w 16).congr fun j _ => (if_neg (Nat.not_lt_zero _)).symm, (Below.refl _ _).alloc (Nat.le_refl _) _⟩
    case round =>
      obtain ⟨q, hq, rfl, h1, h2⟩ := hrel
      have H1 := Lib.hid h1
      have H2 := Lib.hid h2
      clear h1 h2
      by_cases hlt : q < 4
      · go_wp2_with fail
        go_loopw [7] (fun v wx => ∃ r : Nat, r ≤ 4 ∧ v = .int .i64 r ∧ RowB wx w.heap.size 16 (fun j => if j < 4 * q + r then F j else 0) ∧ Below w.heap.size w wx) (fun v _ => 4 - (intOf v).toNat)
        case atStart => exact ⟨0, by decide, rfl, H1.out, H2.out⟩
        case round =>
          obtain ⟨r, hr, rfl, h1, h2⟩ := hrel
          have H3 := Lib.hid h1
          have H4 := Lib.hid h2
          clear h1 h2
          by_cases hlr : r < 4
          · first
              | (have hc1 := (H4.out.cell (p := ⟨B1, o1 + (4 * q + r + 4 * r) % 16, none⟩) L1.out).trans (E1.out ((4 * q + r + 4 * r) % 16) (Nat.mod_lt _ (by decide))).2
                 have HF0 := Lib.hid (show F (4 * q + r) = a ((4 * q + r + 4 * r) % 16) by rw [HFE.out]; show a _ = a _; congr 1; omega))
              | (have hc1 := (H4.out.cell (p := ⟨B1, o1 + (4 * q + r + 4 * r * 3) % 16, none⟩) L1.out).trans (E1.out ((4 * q + r + 4 * r * 3) % 16) (Nat.mod_lt _ (by decide))).2
                 have HF0 := Lib.hid (show F (4 * q + r) = a ((4 * q + r + 4 * r * 3) % 16) by rw [HFE.out]; show a _ = a _; congr 1; omega))
            have h16 : 4 * q + r < 16 := by omega
            have hc3 := H3.out.cell h16
            have hf3 := H3.out.frozen (4 * q + r)
            rw [if_neg (Nat.lt_irrefl _)] at hc3
            have HR := Lib.hid ((H3.out.set (4 * q + r) (F (4 * q + r)) _ rfl).congr fun j _ => upto_row F (4 * q + r) _ rfl j)
            have HB := Lib.hid (H4.out.setCell (p := ⟨w.heap.size, 4 * q + r, none⟩) (Nat.le_refl _) (.int .u8 ((F (4 * q + r) : Nat) : Int)))
            rw [← HF0.out] at hc1
            generalize F (4 * q + r) = y at *
            go_wp2_with fail
            go_roundw
            case rel => exact ⟨r + 1, by omega, by go_num, HR.out, HB.out⟩
            case measure => simp [intOf]; omega
          · obtain rfl : r = 4 := by omega
            go_wp2_with fail
            go_roundw
            case rel => exact ⟨q + 1, by omega, by go_num, H3.out.congr fun j _ => by rw [show 4 * (q + 1) = 4 * q + 4 by omega], H4.out⟩
            case measure => simp [intOf]; omega
      · obtain rfl : q = 4 := by omega
        go_wp2_with fail
        go_ret
        exact ⟨rfl, H1.out.congr fun j hj => by rw [if_pos (show j < 4 * 4 from hj), HFE.out], H2.out⟩

/-- twice a byte, as the reference has it -/
theorem dbl_ref : ∀ a, a < 256 → 128 ≤ a → 2 * a ^^^ 283 = dbl a := by decide +kernel
set_option maxHeartbeats 800000 in
theorem rtimes_any (f b : Nat) (w : World) (hf : f < 256) (hb : b < 256) :
    Calls Tryz.prog 74 #[.int .i64 (f : Nat), .int .u8 (b : Nat)] w fun e w' => e = .returned (.int .u8 (gm f b : Nat)) ∧ w = w' := by
  rw [gm_comm hf hb]
  go_enter Tryz.func74, Tryz.ntmps74
  go_wp2_with fail
  go_loop [0, 5, 6] (fun y p x => ∃ k a' b' p' : Nat, k ≤ 8 ∧ b' < 2 ^ k ∧ a' < 256 ∧ p' < 256 ∧ gmk k a' b' p' = gm b f ∧ x = .int .i64 a' ∧ y = .int .i64 b' ∧ p = .int .u8 p') (fun y _ _ => (intOf y).toNat)
  case atStart => exact ⟨8, b, f, 0, Nat.le_refl _, hf, hb, by decide, rfl, rfl, rfl, rfl⟩
  case round =>
    obtain ⟨k, a', b', p', hk, hb', ha', hp', hg, rfl, rfl, rfl⟩ := hrel
    have HG := Lib.hid hg
    clear hg
    by_cases h0 : 0 < b'
    · have hb256 : b' < 256 := Nat.lt_of_lt_of_le hb' (Nat.le_trans (Nat.pow_le_pow_right (by decide) hk) (by decide))
      have hxl := xor8 hp' ha'
      have hx : bits BinOp.xor .u8 (p' : Int) (a' : Int) = ((p' ^^^ a' : Nat) : Int) := u8_xor_nat p' a' hp' ha'
      obtain ⟨k, rfl⟩ : ∃ j, k = j + 1 := by
        cases k with
        | zero => exact absurd hb' (by simp; omega)
        | succ j => exact ⟨j, rfl⟩
      have hb2 : b' / 2 < 2 ^ k := by rw [Nat.pow_succ] at hb'; omega
      have HB := Lib.hid hb2
      clear hb2 hb'
      have hd : (a' < 128 ∧ dbl a' = 2 * a') ∨ (128 ≤ a' ∧ bits BinOp.xor .i64 (2 * (a' : Int)) 283 = ((dbl a' : Nat) : Int)) := by
        by_cases h : a' < 128
        · left; exact ⟨h, if_pos h⟩
        · right
          refine ⟨by omega, ?_⟩
          rw [← dbl_ref a' ha' (by omega)]
          have := i64_xor_nat (2 * a') 283 (by omega) (by decide)
          simpa using this
      have hdl := dbl_lt ha'
      by_cases hodd : b' % 2 = 1
      · have HG2 := Lib.hid (show gmk k (dbl a') (b' / 2) (p' ^^^ a') = gm b f by rw [← HG.out]; simp only [gmk, if_pos hodd])
        rcases hd with ⟨h, hd⟩ | ⟨h, hd⟩
        · have HD := Lib.hid hd
          clear hd hdl
          go_wp2_with fail
          go_round
          case rel => exact ⟨k, dbl a', b' / 2, p' ^^^ a', by omega, HB.out, dbl_lt ha', hxl, HG2.out, by rw [HD.out]; go_num, by go_num, rfl⟩
          case measure => simp [intOf]; omega
        · generalize dbl a' = d at *
          go_wp2_with fail
          go_round
          case rel => exact ⟨k, d, b' / 2, p' ^^^ a', by omega, HB.out, hdl, hxl, HG2.out, rfl, by go_num, rfl⟩
          case measure => simp [intOf]; omega
      · have HG2 := Lib.hid (show gmk k (dbl a') (b' / 2) p' = gm b f by rw [← HG.out]; simp only [gmk, if_neg hodd])
        have hev : ((b' : Int) % 2 == 1) = false := by rw [beq_eq_false_iff_ne]; omega
        rcases hd with ⟨h, hd⟩ | ⟨h, hd⟩
        · have HD := Lib.hid hd
          clear hd hdl
          go_wp2_with fail
          go_round
          case rel => exact ⟨k, dbl a', b' / 2, p', by omega, HB.out, dbl_lt ha', hp', HG2.out, by rw [HD.out]; go_num, by go_num, rfl⟩
          case measure => simp [intOf]; omega
        · generalize dbl a' = d at *
          go_wp2_with fail
          go_round
          case rel => exact ⟨k, d, b' / 2, p', by omega, HB.out, hdl, hp', HG2.out, rfl, by go_num, rfl⟩
          case measure => simp [intOf]; omega
    · obtain rfl : b' = 0 := by omega
      rw [gmk_done] at HG
      clear hb' h0
      go_wp2_with fail
      go_ret
      exact ⟨ret_u8 HG.out, rfl⟩
end Go.Proofs.YtgcdnhjjoidpmaaGreatDoor
/- Contracts of the reference's aes: mixing, the map back. -/
namespace Go.Proofs.YtgcdnhjjoidpmaaGreatDoor
open Go.RowKit

def psum (F s : Nat → Nat) (i : Nat) : Nat → Nat
  | 0 => 0
  | k + 1 => psum F s i k ^^^ gm (F k) (s (4 * (i / 4) + (i + k) % 4))
theorem psum_lt {F s : Nat → Nat} (hF : By 4 F) (hs : By 16 s) {i : Nat} (hi : i < 16) : ∀ k, k ≤ 4 → psum F s i k < 256
  | 0, _ => (by decide : 0 < 256)
  | k + 1, hk => xor8 (psum_lt hF hs hi k (by omega)) (gm_lt _ (hF k (by omega)))
def fac (a b c d : Nat) (k : Nat) : Nat := if k = 0 then a else if k = 1 then b else if k = 2 then c else d
theorem psum_imix (s : Nat → Nat) (i : Nat) : psum (fac 14 11 13 9) s i 4 = imixc s i := by
  show (((0 ^^^ gm 14 (s (4 * (i / 4) + (i + 0) % 4))) ^^^ gm 11 (s (4 * (i / 4) + (i + 1) % 4))) ^^^ gm 13 (s (4 * (i / 4) + (i + 2) % 4))) ^^^ gm 9 (s (4 * (i / 4) + (i + 3) % 4)) = _
  rw [Nat.zero_xor, Nat.add_zero]
  unfold imixc imx
  ac_rfl
theorem psum_mix {s : Nat → Nat} (hs : By 16 s) {i : Nat} (hi : i < 16) : psum (fac 2 3 1 1) s i 4 = mixc s i := by
  show (((0 ^^^ gm 2 (s (4 * (i / 4) + (i + 0) % 4))) ^^^ gm 3 (s (4 * (i / 4) + (i + 1) % 4))) ^^^ gm 1 (s (4 * (i / 4) + (i + 2) % 4))) ^^^ gm 1 (s (4 * (i / 4) + (i + 3) % 4)) = _
  have h2 : ∀ a, a < 256 → gm 2 a = dbl a := by decide +kernel
  have h3 : ∀ a, a < 256 → gm 3 a = dbl a ^^^ a := by decide +kernel
  rw [Nat.zero_xor, Nat.add_zero, h2 _ (hs _ (by omega)), h3 _ (hs _ (by omega)), one_gm (hs _ (by omega)), one_gm (hs _ (by omega))]
  unfold mixc mx
  ac_rfl

set_option maxHeartbeats 1600000 in
theorem rmix_any (A1 : Option Addr) (c1 c2 B2 o2 : Nat) (a F : Nat → Nat) (w : World) (h1 : SlB w A1 16 a) (hB2 : B2 < w.heap.size) (hF : ∀ k, k < 4 → F k < 256 ∧ w.cell? ⟨B2, o2 + k, none⟩ = some (.int .i64 (F k : Nat))) :
    Calls Tryz.prog 59 #[.slice A1 16 c1, .slice (some ⟨B2, o2, none⟩) 4 c2] w (NewRow 16 (fun i => psum F a i 4) w) := by
  obtain ⟨B1, o1, rfl, l1, e1⟩ := h1 (by decide)
  have E1 := Lib.hid e1
  have L1 := Lib.hid l1
  have E2 := Lib.hid hF
  have L2 := Lib.hid hB2
  have HBY := Lib.hid (show By 16 a from fun j hj => (e1 j hj).1)
  have HBF := Lib.hid (show By 4 F from fun j hj => (hF j hj).1)
  have hmk := mk16
  clear h1 e1 l1 hF hB2
  go_enter Tryz.func59, Tryz.ntmps59
  go_wp2_with fail
  clear hmk
  go_loopw [6] (fun v wr => ∃ q : Nat, q ≤ 4 ∧ v = .int .i64 q ∧ RowB wr w.heap.size 16 (fun j => if j < 4 * q then psum F a j 4 else 0) ∧ Below w.heap.size w wr) (fun v _ => 4 - (intOf v).toNat)
  case atStart => exact ⟨0, by decide, rfl, (rowB_made w 16).congr fun j _ => (if_neg (Nat.not_lt_zero _)).symm, (Below.refl _ _).alloc (Nat.le_refl _) _⟩
  case round =>
    obtain ⟨q, hq, rfl, h1, h2⟩ := hrel
    have H1 := Lib.hid h1
    have H2 := Lib.hid h2
    clear h1 h2
    by_cases hlt : q < 4
    · go_wp2_with fail
      go_loopw [7] (fun v wx => ∃ r : Nat, r ≤ 4 ∧ v = .int .i64 r ∧ RowB wx w.heap.size 16 (fun j => if j < 4 * q + r then psum F a j 4 else 0) ∧ Below w.heap.size w wx) (fun v _ => 4 - (intOf v).toNat)
      case atStart => exact ⟨0, by decide, rfl, H1.out, H2.out⟩
      case round =>
        obtain ⟨r, hr, rfl, h1, h2⟩ := hrel
        have H3 := Lib.hid h1
        have H4 := Lib.hid h2
        clear h1 h2
        by_cases hlr : r < 4
        · go_wp2_with fail
          go_loopw [8, 9] (fun x v wy => ∃ k : Nat, k ≤ 4 ∧ v = .int .i64 k ∧ x = .int .u8 (psum F a (4 * q + r) k : Nat) ∧ RowB wy w.heap.size 16 (fun j => if j < 4 * q + r then psum F a j 4 else 0) ∧ Below w.heap.size w wy) (fun _ v _ => 4 - (intOf v).toNat)
          case atStart => exact ⟨0, by decide, rfl, rfl, H3.out, H4.out⟩
          case round =>
            obtain ⟨k, hk, rfl, rfl, h1, h2⟩ := hrel
            have H5 := Lib.hid h1
            have H6 := Lib.hid h2
            clear h1 h2
            have h16 : 4 * q + r < 16 := by omega
            have hpl := psum_lt HBF.out HBY.out h16 k hk
            by_cases hlk : k < 4
            · obtain ⟨e, he⟩ : ∃ e, 4 * q + (r + k) % 4 = e := ⟨_, rfl⟩
              have hel : e < 16 := by omega
              have hc1 := (H6.out.cell (p := ⟨B1, o1 + e, none⟩) L1.out).trans (E1.out e hel).2
              have hc2 := (H6.out.cell (p := ⟨B2, o2 + k, none⟩) L2.out).trans (E2.out k hlk).2
              have hal := HBY.out e hel
              have hfl := HBF.out k hlk
              have HN := Lib.hid (show psum F a (4 * q + r) k ^^^ gm (F k) (a e) = psum F a (4 * q + r) (k + 1) by
                show _ = psum F a (4 * q + r) k ^^^ gm (F k) (a (4 * ((4 * q + r) / 4) + (4 * q + r + k) % 4))
                congr 3
                omega)
              obtain ⟨u, hu⟩ : ∃ u, 4 * q = u := ⟨_, rfl⟩
              obtain ⟨s, hs⟩ : ∃ s, r + k = s := ⟨_, rfl⟩
              obtain ⟨x, hx⟩ : ∃ x, s % 4 = x := ⟨_, rfl⟩
              have v1 : IntKind.i64.wrap (4 * (q : Int)) = (u : Nat) := by rw [IntWalk.i64_in _ (by omega)]; omega
              have v2 : IntKind.i64.wrap ((r : Int) + (k : Nat)) = (s : Nat) := by rw [IntWalk.i64_in _ (by omega)]; omega
              have v3 : ((s : Nat) : Int) % 4 = (x : Nat) := by omega
              have v3' : ((s : Nat) : Int).tmod 4 = (x : Nat) := by rw [Int.tmod_eq_emod_of_nonneg (by omega)]; omega
              have v4 : IntKind.i64.wrap (((u : Nat) : Int) + (x : Nat)) = (e : Nat) := by rw [IntWalk.i64_in _ (by omega)]; omega
              have he1 : (0 : Int) ≤ (e : Nat) := by omega
              have he2 : ((e : Nat) : Int) < 16 := by omega
              have hk2 : ((k : Nat) : Int) < 4 := by omega
              have HT := Lib.hid fun w => rtimes_any (F k) (a e) w hfl hal
              have hgl := gm_lt (a e) hfl
              have HIX := Lib.hid (show 4 * q + r < 16 ∧ r + k = s from ⟨h16, hs⟩)
              clear hu hs hx he
              generalize psum F a (4 * q + r) k = p at *
              generalize hgm : gm (F k) (a e) = z at *
              generalize F k = f0 at *
              generalize a e = a0 at *
              have hpz : bits BinOp.xor .u8 (p : Int) (z : Int) = ((p ^^^ z : Nat) : Int) := u8_xor_nat _ _ hpl hgl
              clear hgm
              go_wp2_with fail
              go_quiet ((go_at_call 74; exact Calls.quiet_of_same (same_flip (HT.out _))))
              have H7 := Lib.hid (H5.out.drewN nq)
              have H8 := Lib.hid (drawn H6.out nq)
              generalize wr.drewN nq = W at *
              clear hc1 hc2 v1 v2 v3 v3' v4
              go_wp2_with fail
              go_roundw
              case rel => exact ⟨k + 1, by omega, by go_num, by rw [HN.out], H7.out, H8.out⟩
              case measure => simp [intOf]; omega
            · obtain rfl : k = 4 := by omega
              have hc3 := H5.out.cell h16
              have hf3 := H5.out.frozen (4 * q + r)
              rw [if_neg (Nat.lt_irrefl _)] at hc3
              have HR := Lib.hid ((H5.out.set (4 * q + r) (psum F a (4 * q + r) 4) _ rfl).congr fun j _ => upto_row (fun j => psum F a j 4) (4 * q + r) _ rfl j)
              have HB := Lib.hid (H6.out.setCell (p := ⟨w.heap.size, 4 * q + r, none⟩) (Nat.le_refl _) (.int .u8 ((psum F a (4 * q + r) 4 : Nat) : Int)))
              generalize psum F a (4 * q + r) 4 = y at *
              go_wp2_with fail
              go_roundw
              case rel => exact ⟨r + 1, by omega, by go_num, HR.out, HB.out⟩
              case measure => simp [intOf]; omega
        · obtain rfl : r = 4 := by omega
          go_wp2_with fail
          go_roundw
          case rel => exact ⟨q + 1, by omega, by go_num, H3.out.congr fun j _ => by rw [show 4 * (q + 1) = 4 * q + 4 by omega], H4.out⟩
          case measure => simp [intOf]; omega
    · obtain rfl : q = 4 := by omega
      go_wp2_with fail
      go_ret
      exact ⟨rfl, H1.out.congr fun j hj => if_pos (show j < 4 * 4 from hj), H2.out⟩
end Go.Proofs.YtgcdnhjjoidpmaaGreatDoor
/- Each byte but 0 is one power of 3: nothing here hangs on the program. -/
namespace Go.Proofs.YtgcdnhjjoidpmaaGreatDoor

/-- how many of the first n powers of 3 a byte is -/
def times3 (a : Nat) : Nat → Nat
  | 0 => 0
  | k + 1 => times3 a k + if gpow 3 k = a then 1 else 0
def pows : Nat → Nat → List Nat
  | 0, _ => []
  | n + 1, x => x :: pows n (gm x 3)
def cnt (a : Nat) : List Nat → Nat
  | [] => 0
  | x :: r => (if x = a then 1 else 0) + cnt a r
theorem cnt_pows (a : Nat) : ∀ n k, times3 a (k + n) = times3 a k + cnt a (pows n (gpow 3 k))
  | 0, _ => rfl
  | n + 1, k => by
    have h := cnt_pows a n (k + 1)
    rw [show k + 1 + n = k + (n + 1) by omega] at h
    rw [h]
    simp only [times3, pows, cnt, gpow]
    omega
def allpows : List Nat := [1, 3, 5, 15, 17, 51, 85, 255, 26, 46, 114, 150, 161, 248, 19, 53, 95, 225, 56, 72, 216, 115, 149, 164, 247, 2, 6, 10, 30, 34, 102, 170, 229, 52, 92, 228, 55, 89, 235, 38, 106, 190, 217, 112, 144, 171, 230, 49, 83, 245, 4, 12, 20, 60, 68, 204, 79, 209, 104, 184, 211, 110, 178, 205, 76, 212, 103, 169, 224, 59, 77, 215, 98, 166, 241, 8, 24, 40, 120, 136, 131, 158, 185, 208, 107, 189, 220, 127, 129, 152, 179, 206, 73, 219, 118, 154, 181, 196, 87, 249, 16, 48, 80, 240, 11, 29, 39, 105, 187, 214, 97, 163, 254, 25, 43, 125, 135, 146, 173, 236, 47, 113, 147, 174, 233, 32, 96, 160, 251, 22, 58, 78, 210, 109, 183, 194, 93, 231, 50, 86, 250, 21, 63, 65, 195, 94, 226, 61, 71, 201, 64, 192, 91, 237, 44, 116, 156, 191, 218, 117, 159, 186, 213, 100, 172, 239, 42, 126, 130, 157, 188, 223, 122, 142, 137, 128, 155, 182, 193, 88, 232, 35, 101, 175, 234, 37, 111, 177, 200, 67, 197, 84, 252, 31, 33, 99, 165, 244, 7, 9, 27, 45, 119, 153, 176, 203, 70, 202, 69, 207, 74, 222, 121, 139, 134, 145, 168, 227, 62, 66, 198, 81, 243, 14, 18, 54, 90, 238, 41, 123, 141, 140, 143, 138, 133, 148, 167, 242, 13, 23, 57, 75, 221, 124, 132, 151, 162, 253, 28, 36, 108, 180, 199, 82, 246]
set_option maxRecDepth 100000 in
theorem pows_lit : pows 255 1 = allpows := by decide +kernel
theorem times3_all {a : Nat} (h : a < 256) : times3 a 255 = if a = 0 then 0 else 1 := by
  have key : ∀ a, a < 256 → cnt a allpows = if a = 0 then 0 else 1 := by decide +kernel
  have e := cnt_pows a 255 0
  rw [Nat.zero_add, show gpow 3 0 = 1 from rfl, pows_lit, key a h] at e
  rw [e, show times3 a 0 = 0 from rfl, Nat.zero_add]
theorem times3_le (a : Nat) : ∀ k, times3 a k ≤ k
  | 0 => Nat.le_refl 0
  | k + 1 => by
    have := times3_le a k
    simp only [times3]
    split <;> omega
end Go.Proofs.YtgcdnhjjoidpmaaGreatDoor
