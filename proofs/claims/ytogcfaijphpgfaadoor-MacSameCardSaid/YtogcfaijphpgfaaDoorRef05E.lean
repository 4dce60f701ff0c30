/- The reference: Sum. -/
import Derived.Test.YtogcfaijphpgfaaDoorRunB
namespace Go.Proofs.YtogcfaijphpgfaaDoor
open Go.RowKit
/-- b[l:h] -/
theorem run_mid (w : World) (A : Option Addr) (n c l h : Nat) (hl : l ≤ h) (hh : h ≤ c) : (Instr.sliceAt 22 (.slice A n c) (some (.int .i64 (l : Int))) (some (.int .i64 (h : Int))) none).run Tryd.prog w = .ok (.slice (hiA A c l) (h - l) (c - l)) w := by
  rw [run_sliceAt_slice (h := underB), run_slice_lh (ht := underB) (h0 := by omega) (h1 := by omega) (h2 := by omega), size8]
  rfl
theorem SlB.mid {w : World} {A : Option Addr} {n c l m : Nat} {f : Nat → Nat} (h : SlB w A n f) (hl : l + m ≤ n) (hn : n ≤ c) : SlB w (Go.Proofs.YtogcfaijphpgfaaDoor.hiA A c l) m (fun j => f (l + j)) :=
  SlB.low (n := n - l) (h.hiA (c := c) (k := l) (by omega) hn) (by omega)
theorem of_drew {w w' : World} (h : Below w.drew.heap.size w.drew w') : Below w.heap.size w w' := ⟨h.os, h.tape, h.output, h.size, h.block⟩
theorem padL_eq (n : Nat) : padL n = 64 * ((n + 72) / 64) := rfl
theorem padf_lo (n : Nat) (f : Nat → Nat) (j : Nat) (h : j < n) : padf n f j = f j := if_pos h
theorem padf_at (n : Nat) (f : Nat → Nat) : padf n f n = 128 := by unfold padf; rw [if_neg (Nat.lt_irrefl _), if_pos rfl]
theorem padf_zero (n : Nat) (f : Nat → Nat) (j : Nat) (h1 : n < j) (h2 : j < padL n - 8) : padf n f j = 0 := by unfold padf; rw [if_neg (by omega), if_neg (by omega), if_pos h2]
theorem padf_len (n : Nat) (f : Nat → Nat) (q j : Nat) (h1 : j = padL n - 8 + (7 - q)) (hq : q ≤ 7) : padf n f j = 8 * n / 2 ^ (8 * q) % 256 := by
  have hp : n + 9 ≤ padL n := by unfold padL; omega
  unfold padf
  rw [if_neg (by omega), if_neg (by omega), if_neg (by omega), show padL n - 1 - j = q by omega, Nat.pow_mul]
theorem one_sl (w : World) (x : Nat) (hx : x < 256) : SlB (w.alloc (.cells #[.int .u8 (x : Nat)] 5)) (some ⟨w.heap.size, 0, none⟩) 1 (fun _ => x) := one_slB w 5 x hx
--DEFS out
def outG (sv : Value) (g c k xx y1 y2 y3 : Nat) (D : Nat → Nat) : Nat → Value → World → Prop
  | 0, v, _ => v = sv
  | 1, v, _ => v = .slice (some ⟨g, 0, none⟩) 8 c
  | 2, v, _ => v = .int .i64 (k : Nat)
  | 3, v, _ => v = .pointer (some ⟨g, k, none⟩)
  | 4, v, _ => v = .int .i64 (xx : Nat)
  | 5, v, _ => v = .int .i64 (y1 : Nat)
  | 6, v, _ => v = .int .u8 (D 0 : Nat)
  | 7, v, _ => v = .slice (some ⟨g, 0, none⟩) 8 c
  | 8, v, _ => v = .int .i64 (k : Nat)
  | 9, v, _ => v = .pointer (some ⟨g, k, none⟩)
  | 10, v, _ => v = .int .i64 (xx : Nat)
  | 11, v, _ => v = .int .i64 (y2 : Nat)
  | 12, v, _ => v = .int .u8 (D 1 : Nat)
  | 13, v, _ => v = .slice (some ⟨g, 0, none⟩) 8 c
  | 14, v, _ => v = .int .i64 (k : Nat)
  | 15, v, _ => v = .pointer (some ⟨g, k, none⟩)
  | 16, v, _ => v = .int .i64 (xx : Nat)
  | 17, v, _ => v = .int .i64 (y3 : Nat)
  | 18, v, _ => v = .int .u8 (D 2 : Nat)
  | 19, v, _ => v = .slice (some ⟨g, 0, none⟩) 8 c
  | 20, v, _ => v = .int .i64 (k : Nat)
  | 21, v, _ => v = .pointer (some ⟨g, k, none⟩)
  | 22, v, _ => v = .int .i64 (xx : Nat)
  | 23, v, _ => v = .int .u8 (D 3 : Nat)
  | 24, v, w => ∃ gg, v = .slice (some ⟨gg, 0, none⟩) 4 4 ∧ SlB w (some ⟨gg, 0, none⟩) 4 D
  | _, _, _ => True
theorem outG_stays (sv : Value) (g c k xx y1 y2 y3 : Nat) (D : Nat → Nat) : ∀ i v w w', outG sv g c k xx y1 y2 y3 D i v w → Below w.heap.size w w' → outG sv g c k xx y1 y2 y3 D i v w'
  | 0, _, _, _, h, _ => h
  | 1, _, _, _, h, _ => h
  | 2, _, _, _, h, _ => h
  | 3, _, _, _, h, _ => h
  | 4, _, _, _, h, _ => h
  | 5, _, _, _, h, _ => h
  | 6, _, _, _, h, _ => h
  | 7, _, _, _, h, _ => h
  | 8, _, _, _, h, _ => h
  | 9, _, _, _, h, _ => h
  | 10, _, _, _, h, _ => h
  | 11, _, _, _, h, _ => h
  | 12, _, _, _, h, _ => h
  | 13, _, _, _, h, _ => h
  | 14, _, _, _, h, _ => h
  | 15, _, _, _, h, _ => h
  | 16, _, _, _, h, _ => h
  | 17, _, _, _, h, _ => h
  | 18, _, _, _, h, _ => h
  | 19, _, _, _, h, _ => h
  | 20, _, _, _, h, _ => h
  | 21, _, _, _, h, _ => h
  | 22, _, _, _, h, _ => h
  | 23, _, _, _, h, _ => h
  | 24, v, w, w', h_, hb => by
    obtain ⟨gg, h1, h2⟩ := h_; exact ⟨gg, h1, h2.keep hb⟩
  | _ + 25, _, _, _, _, _ => trivial
--END DEFS out
theorem OwnB.less {w : World} {b base n : Nat} {v : Value} {f : Nat → Nat} (h : OwnB w base v n f) (hb : b ≤ base) : OwnB w b v n f := by
  rcases h with ⟨h1, h2 | ⟨g, cap, cur, e, hg, r⟩⟩
  · exact ⟨h1, Or.inl h2⟩
  · exact ⟨h1, Or.inr ⟨g, cap, cur, e, Nat.le_trans hb hg, r⟩⟩
set_option maxRecDepth 100000 in
set_option maxHeartbeats 3200000 in
theorem rsum_own (A : Option Addr) (n cap : Nat) (f : Nat → Nat) (w : World) (hn : n ≤ 10000000000000) (hA : SlB w A n f) (hnil : A = none → n = 0 ∧ cap = 0) :
    Calls Tryd.prog 26 #[.slice A n cap] w fun e w' => ∃ A' c', e = .returned (.slice A' 32 c') ∧ (SlB w' A' 32 (sha n f) ∧ OwnB w' w.heap.size (.slice A' 32 c') 32 (sha n f)) ∧ Below w.heap.size w w' := by
  have HA := Lib.hid hA
  have HNIL := Lib.hid hnil
  have HPB := Lib.hid fun m => padf_by n f m (fun j hj => hA.byte hj)
  have HFB := Lib.hid (show ∀ j, j < n → f j < 256 from fun j hj => hA.byte hj)
  have hni : (n : Int) ≤ 10000000000000 := by omega
  clear hA hnil
  have H0 := Lib.hid (show OwnB (w.alloc (.cells #[] 5)) w.heap.size (.slice (some ⟨w.heap.size, 0, none⟩) 0 0) 0 f from OwnB.empty w w.heap.size f (Nat.le_refl _))
  have HA0 := Lib.hid (HA.out.keep ((Below.refl _ _).alloc (Nat.le_refl _) (.cells #[] 5)))
  have HB0 := Lib.hid ((Below.refl w.heap.size w).alloc (Nat.le_refl _) (.cells #[] 5))
  go_enter Tryd.func26, Tryd.ntmps26
  have HW := Lib.hid fun W => one_sl W 128 (by decide)
  go_wp2_with (first | (refine wpList_appO rfl (.tmp 11) (.tmp 12) rfl w.heap.size _ 0 f rfl H0.out A n cap f rfl HA0.out HNIL.out (by omega) HB0.out.size (fun j hj => absurd hj (Nat.not_lt_zero j)) HFB.out ?_; intro A1 c1 w1 h1 h2 h3 h4; rw [Nat.zero_add] at h1 h2 h3 ⊢; have HO1 := Lib.hid (OwnB.congr (g := f) h1 fun j _ => rfl); have HB1 := Lib.hid (HB0.out.trans h4); clear h1 h2 h3 h4; have HO1' := Lib.hid (HO1.out.alloc (.cells #[.int .u8 ((128 : Nat) : Int)] 5)); have HB1' := Lib.hid (HB1.out.alloc HB1.out.size (.cells #[.int .u8 ((128 : Nat) : Int)] 5))) |
    (refine wpList_appO rfl (.tmp 13) (.tmp 14) rfl w.heap.size _ n f rfl HO1'.out (some ⟨_, 0, none⟩) 1 1 (fun _ => 128) rfl (HW.out _) (fun h => by cases h) (by omega) HB1'.out.size HFB.out (fun _ _ => by decide) ?_; intro A2 c2 w2 h1 h2 h3 h4; have HO2 := Lib.hid (OwnB.congr (g := padf n f) h1 fun j hj => by unfold catB; by_cases e : j < n; rw [if_pos e, padf_lo n f j e]; rw [if_neg e, show j = n by omega, padf_at]); have HB2 := Lib.hid (HB1'.out.trans h4); have HC2 := Lib.hid h3; clear h1 h2 h3 h4))
  clear H0 HA0 HB0 HW HO1 HB1 HO1' HB1' HC2
  have HPL := Lib.hid (padL_eq n)
  have HZ := Lib.hid fun W => one_sl W 0 (by decide)
  go_loopw [3] (fun v wr => ∃ (m : Nat) (A3 : Option Addr) (c3 : Nat), n + 1 ≤ m ∧ m ≤ padL n - 8 ∧ v = .slice A3 m c3 ∧ OwnB wr w.heap.size (.slice A3 m c3) m (padf n f) ∧ Below w.heap.size w wr) (fun v _ => padL n - 8 - lenOf v)
  case atStart => exact ⟨n + 1, A2, c2, Nat.le_refl _, by have := HPL.out; omega, rfl, HO2.out, HB2.out⟩
  case round =>
    obtain ⟨m, A3, c3, hm1, hm2, rfl, h1, h2⟩ := hrel
    have H1 := Lib.hid h1
    have H2 := Lib.hid h2
    clear h1 h2 HO2 HB2
    have hm3 : m ≤ 20000000000000 := by have := HPL.out; omega
    have hmi : (m : Int) ≤ 20000000000000 := by omega
    by_cases hr : m % 64 = 56
    · have hb : ((m : Int) % 64 != 56) = false := by simp; omega
      have HLm := Lib.hid (show m = padL n - 8 by have := HPL.out; omega)
      have HX8 := Lib.hid (show (8 : Int) * (n : Int) = ((8 * n : Nat) : Int) by omega)
      have hx1 : 8 * n < 9223372036854775808 := by omega
      clear hr
      go_wp2_with fail
      rw [HX8.out]
      generalize hx : 8 * n = x at *
      have HX := Lib.hid hx
      clear hx HX8
      go_loopw [3, 5] (fun v t wr => ∃ (j : Nat) (A3 : Option Addr) (c3 : Nat), j ≤ 8 ∧ t = .int .i64 (7 - (j : Int)) ∧ v = .slice A3 (m + j) c3 ∧ OwnB wr w.heap.size (.slice A3 (m + j) c3) (m + j) (padf n f) ∧ Below w.heap.size w wr) (fun _ t _ => (intOf t + 1).toNat)
      case atStart => exact ⟨0, A3, c3, Nat.zero_le _, rfl, rfl, H1.out, H2.out⟩
      case round =>
        obtain ⟨j, A5, c5, hj, rfl, rfl, h1, h2⟩ := hrel
        have G1 := Lib.hid h1
        have G2 := Lib.hid h2
        clear h1 h2 H1 H2
        by_cases hj8 : j < 8
        · obtain ⟨q, hq⟩ : ∃ q, q = 7 - j := ⟨_, rfl⟩
          obtain ⟨q8, hq8⟩ : ∃ q8, q8 = 8 * q := ⟨_, rfl⟩
          have eq : (7 : Int) - j = q := by omega
          have eq8 : (8 : Int) * q = q8 := by omega
          have hqi : (q : Int) ≤ 7 := by omega
          have hq8i : (q8 : Int) ≤ 56 := by omega
          have hxi : (x : Int) < 9223372036854775808 := by omega
          obtain ⟨y, hy⟩ : ∃ y, y = x / 2 ^ q8 := ⟨_, rfl⟩
          have hyx : y ≤ x := by rw [hy]; exact Nat.div_le_self _ _
          have ey : (x : Int) / 2 ^ q8 = y := by rw [hy]; simp
          obtain ⟨z, hz⟩ : ∃ z, z = y % 256 := ⟨_, rfl⟩
          have ez : (y : Int) % 256 = z := by omega
          have lz : z < 256 := by omega
          have HZP := Lib.hid (show z = padf n f (m + j) by
            rw [padf_len n f q (m + j) (by have := HLm.out; omega) (by omega), HX.out, ← hq8, ← hy, hz])
          have HZ1 := Lib.hid fun W => one_sl W z lz
          have hyi : (y : Int) < 9223372036854775808 := by omega
          have HEQ := Lib.hid eq
          clear hq hq8 hy hz
          rw [eq]
          have HO3 := Lib.hid (G1.out.alloc (.cells #[.int .u8 (z : Nat)] 5))
          have HB3 := Lib.hid (G2.out.alloc G2.out.size (.cells #[.int .u8 (z : Nat)] 5))
          go_wp2_with (refine wpList_appO rfl (.tmp 30) (.tmp 36) rfl w.heap.size _ (m + j) (padf n f) rfl HO3.out (some ⟨_, 0, none⟩) 1 1 (fun _ => z) rfl (HZ1.out _) (fun h => by cases h) (by omega) HB3.out.size (HPB.out _) (fun _ _ => lz) ?_; intro A4 c4 w4 h1 h2 h3 h4; have HO4 := Lib.hid (OwnB.congr (g := padf n f) h1 fun i hi => by unfold catB; by_cases e : i < m + j; rw [if_pos e]; rw [if_neg e, HZP.out, show i = m + j by omega]); have HB4 := Lib.hid (HB3.out.trans h4); clear h1 h2 h3 h4)
          exact ⟨⟨j + 1, A4, c4, by omega, congrArg _ (by have := HEQ.out; omega), rfl, HO4.out, HB4.out⟩, by simp [intOf]⟩
        · obtain rfl : j = 8 := by omega
          have HLm8 := Lib.hid (show m + 8 = padL n by have := HLm.out; have := HPL.out; omega)
          have et : (7 : Int) - ((8 : Nat) : Int) = -1 := by omega
          rw [et]
          rw [HLm8.out] at G1 ⊢
          clear et
          obtain ⟨A6, c6, e6, hsl6⟩ := OwnB.slice G1.out (HPB.out _)
          obtain ⟨A7, c7, e7, hc7, hc7m, _⟩ := OwnB.cap_le G1.out
          cases e6; cases e7
          have HP := Lib.hid hsl6
          have HCP := Lib.hid hc7
          clear hsl6 hc7
          go_wp2_with fail
          refine (words_any wr).mono ?_
          rintro e Wa ⟨rfl, h1, h2⟩
          have HKa := Lib.hid h1
          have HPa := Lib.hid (HP.out.keep h2)
          have HBa := Lib.hid (G2.out.trans (h2.mono G2.out.size))
          clear h1 h2 G1 G2 HP
          generalize wr.heap.size = gk at *
          go_wp2_with fail
          refine (first_any Wa).mono ?_
          rintro e Wb ⟨rfl, h1, h2⟩
          have HKb := Lib.hid (HKa.out.keep h2)
          have HPb := Lib.hid (HPa.out.keep h2)
          have HBb := Lib.hid (HBa.out.trans (h2.mono HBa.out.size))
          have HFb := Lib.hid h1
          clear h1 h2 HPa HKa HBa
          generalize Wa.heap.size = gf at *
          go_wp2_with fail
          have HPF := Lib.hid (HPB.out (padL n))
          have HST := Lib.hid fun b => hs_ok (padf n f) b
          have HWN := Lib.hid (show ∀ b, 64 * b + 64 ≤ padL n → ∀ j, j < 64 → padf n f (64 * b + j) < 256 from fun b hb j hj => HPF.out _ (by omega))
          have HHS := Lib.hid (show ∀ b, hs (padf n f) (b + 1) = add8 (hs (padf n f) b) (rs (wn (fun j => padf n f (64 * b + j)) 48) (hs (padf n f) b) 64) from fun _ => rfl)
          have HEND := Lib.hid (show ∀ j, sha n f j = dig (hs (padf n f) ((n + 72) / 64)) j from fun _ => rfl)
          obtain ⟨NB, hNB⟩ : ∃ NB, (n + 72) / 64 = NB := ⟨_, rfl⟩
          rw [hNB] at HEND
          have hPL : padL n = 64 * NB := by rw [HPL.out, hNB]
          have hNBs : NB ≤ 1000000000000 := by omega
          have hNBi : (NB : Int) ≤ 1000000000000 := by omega
          rw [hPL] at HPb HCP HWN ⊢
          clear hNB HPL hPL HLm8 HPF HLm HPB HX hx1 hb hm1 hm2
          generalize padf n f = P at *
          go_loopw [7, 8] (fun v t wr => ∃ (b g c : Nat), b ≤ NB ∧ t = .int .i64 ((64 * b : Nat) : Int) ∧ v = .slice (some ⟨g, 0, none⟩) 8 c ∧ ArrV wr g 0 8 (ints (at8 (hs P b))) ∧ SlB wr A5 (64 * NB) P ∧ ArrV wr gk 0 64 (ints kc) ∧ Below w.heap.size w wr) (fun _ t _ => 64 * NB - (intOf t).toNat)
          case atStart => exact ⟨0, gf, 8, Nat.zero_le _, rfl, rfl, HFb.out, HPb.out, HKb.out, HBb.out⟩
          case round =>
            obtain ⟨b, g, c, hb, rfl, rfl, h1, h2, h3, h4⟩ := hrel
            have K1 := Lib.hid h1
            have K2 := Lib.hid h2
            have K3 := Lib.hid h3
            have K4 := Lib.hid h4
            clear h1 h2 h3 h4 HFb HPb HKb HBb
            by_cases hlt : b < NB
            · obtain ⟨i, hi⟩ : ∃ i, i = 64 * b := ⟨_, rfl⟩
              obtain ⟨i6, hi6⟩ : ∃ i6, i6 = i + 64 := ⟨_, rfl⟩
              obtain ⟨NL, hNL⟩ : ∃ NL, NL = 64 * NB := ⟨_, rfl⟩
              have ei6 : (i : Int) + 64 = i6 := by omega
              have hi6n : (i : Int) < NL := by omega
              have hNLi : (NL : Int) ≤ 100000000000000 := by omega
              obtain ⟨A8, hA8⟩ : ∃ A8, hiA A5 c5 i = A8 := ⟨_, rfl⟩
              have hsl := fun W => run_mid W A5 NL c5 i i6 (by omega) (by have := HCP.out; omega)
              rw [hA8, show i6 - i = 64 by omega] at hsl
              have HSB := Lib.hid ((K2.out.mid (c := c5) (l := i) (m := 64) (by omega) HCP.out))
              rw [hA8] at HSB
              have HI := Lib.hid hi
              have HI6 := Lib.hid hi6
              have HNL := Lib.hid hNL
              rw [← hi, ← hNL]
              clear hi hi6 hNL hA8
              go_wp2_with fail
              refine (block_any A8 (c5 - i) _ wr HSB.out).mono ?_
              rintro e Wc ⟨vw, rfl, h1, h2⟩
              obtain ⟨Aw, cw, rfl, _, _, hr, _⟩ := h1.slice
              obtain ⟨gw, rfl, _, hr⟩ := hr (by decide)
              have HWc := Lib.hid hr
              have K1c := Lib.hid (K1.out.keep h2)
              have K2c := Lib.hid (K2.out.keep h2)
              have K3c := Lib.hid (K3.out.keep h2)
              have K4c := Lib.hid (K4.out.trans (h2.mono K4.out.size))
              clear hr h1 h2 K1 K2 K3 K4 hsl HSB
              go_wp2_with fail
              refine (step_any g c gw cw gk 64 (hs P b) _ Wc (HST.out b) (fun j hj => wn_lt (by
                have h := HWN.out b (by have := HI.out; have := HNL.out; omega)
                rw [← HI.out] at h
                exact h) 48 j) K1c.out HWc.out K3c.out).mono ?_
              rintro e Wd ⟨g2, c2', rfl, h1, h2⟩
              have L1 := Lib.hid (show ArrV Wd g2 0 8 (ints (at8 (hs P (b + 1)))) by
                rw [HHS.out b, ← HI.out]; exact h1)
              have L2 := Lib.hid (K2c.out.keep h2)
              have L3 := Lib.hid (K3c.out.keep h2)
              have L4 := Lib.hid (K4c.out.trans (h2.mono K4c.out.size))
              clear h1 h2 K1c K2c K3c K4c HWc
              go_wp2_with fail
              have hNL := HNL.out
              have hI := HI.out
              have hI6 := HI6.out
              subst hNL
              go_roundw
              case rel => exact ⟨b + 1, g2, c2', by omega, by rw [show 64 * (b + 1) = i6 by omega], rfl, L1.out, L2.out, L3.out, L4.out⟩
              case measure => simp [intOf]; omega
            · obtain rfl : b = NB := by omega
              have HSK := Lib.hid (HST.out b)
              generalize hs P b = s at *
              obtain ⟨NL, hNL⟩ : ∃ NL, NL = 64 * b := ⟨_, rfl⟩
              rw [← hNL]
              have HNL := Lib.hid hNL
              have hNLi : (NL : Int) ≤ 100000000000000 := by omega
              clear hNL HWN HHS HST hNBs hNBi
              go_wp2_with fail
              have HAG := Lib.hid (show ∀ w', Below wr.heap.size wr w' → ArrV w' g 0 8 (ints (at8 s)) from fun w' h => K1.out.keep h)
              have KB := Lib.hid K4.out
              clear K1 K2 K3 K4
              obtain ⟨W1, hW1⟩ : ∃ W1, W1 = wr := ⟨_, rfl⟩
              subst hW1
              go_loopw [9, 10] (fun v t wx => ∃ (k : Nat), k ≤ 8 ∧ t = .int .i64 k ∧ OwnB wx W1.heap.size v (4 * k) (dig s) ∧ Below W1.heap.size W1 wx) (fun _ t _ => 8 - (intOf t).toNat)
              case atStart => exact ⟨0, Nat.zero_le _, rfl, OwnB.nil _ _ _, Below.refl _ _⟩
              case round =>
                obtain ⟨k, hk, rfl, h1, h2⟩ := hrel
                have G1 := Lib.hid h1
                have G2 := Lib.hid h2
                clear h1 h2
                by_cases hk8n : k < 8
                · have hki : (k : Int) < 8 := by omega
                  have hl := at8_lt HSK.out k
                  have CE := Lib.hid (show ∀ w', Below wr.drew.heap.size wr.drew w' → w'.cell? ⟨g, k, none⟩ = some (.int .i64 (at8 s k : Nat)) from fun w' hb =>
                    (HAG.out w' (G2.out.trans ((of_drew hb).mono G2.out.size))).cell hk8n (Nat.zero_add _).symm)
                  have hd0 := Lib.hid (show dig s (4 * k + 0) = at8 s k / 16777216 % 256 by unfold dig; rw [show (4 * k + 0) / 4 = k by omega, show (4 * k + 0) % 4 = 0 by omega])
                  have hd1 := Lib.hid (show dig s (4 * k + 1) = at8 s k / 65536 % 256 by unfold dig; rw [show (4 * k + 1) / 4 = k by omega, show (4 * k + 1) % 4 = 1 by omega])
                  have hd2 := Lib.hid (show dig s (4 * k + 2) = at8 s k / 256 % 256 by unfold dig; rw [show (4 * k + 2) / 4 = k by omega, show (4 * k + 2) % 4 = 2 by omega])
                  have hd3 := Lib.hid (show dig s (4 * k + 3) = at8 s k % 256 by unfold dig; rw [show (4 * k + 3) / 4 = k by omega, show (4 * k + 3) % 4 = 3 by omega]; simp)
                  have HDL := Lib.hid (show ∀ j, (fun t => dig s (4 * k + t)) j < 256 from fun j => dig_lt s _)
                  have HDE := Lib.hid (show ∀ j, (fun t => dig s (4 * k + t)) j = dig s (4 * k + j) from fun _ => rfl)
                  generalize at8 s k = xx at *
                  obtain ⟨D, hD⟩ : ∃ D : Nat → Nat, D = fun t => dig s (4 * k + t) := ⟨_, rfl⟩
                  rw [← hD] at HDL HDE
                  rw [← HDE.out] at hd0 hd1 hd2 hd3
                  clear hD
                  obtain ⟨y1, e1⟩ : ∃ y, xx / 16777216 = y ∧ True := ⟨_, rfl, trivial⟩
                  obtain ⟨y2, e2⟩ : ∃ y, xx / 65536 = y ∧ True := ⟨_, rfl, trivial⟩
                  obtain ⟨y3, e3⟩ : ∃ y, xx / 256 = y ∧ True := ⟨_, rfl, trivial⟩
                  rw [e1.1] at hd0
                  rw [e2.1] at hd1
                  rw [e3.1] at hd2
                  go_wp2_with fail
                  refine ord.wp_region_ordT 25 [[], [], [], [1, 2], [3], [4], [5], [], [], [7, 8], [9], [10], [11], [], [], [13, 14], [15], [16], [17], [], [], [19, 20], [21], [22], [6, 12, 18, 23]] [(0, 59), (1, 60), (2, 61), (3, 62), (4, 63), (5, 64), (6, 65), (7, 66), (8, 67), (9, 68), (10, 69), (11, 70), (12, 71), (13, 72), (14, 73), (15, 74), (16, 75), (17, 76), (18, 77), (19, 78), (20, 79), (21, 80), (22, 81), (23, 82), (24, 83)] (outG u9 g c k xx y1 y2 y3 D) (by kernel_rfl) (by kernel_rfl) (by kernel_rfl) (outG_stays _ _ _ _ _ _ _ _ _) ((ord.steps_cons ?_ (ord.steps_cons ?_ (ord.steps_cons ?_ (ord.steps_cons ?_ (ord.steps_cons ?_ (ord.steps_cons ?_ (ord.steps_cons ?_ (ord.steps_cons ?_ (ord.steps_cons ?_ (ord.steps_cons ?_ (ord.steps_cons ?_ (ord.steps_cons ?_ (ord.steps_cons ?_ (ord.steps_cons ?_ (ord.steps_cons ?_ (ord.steps_cons ?_ (ord.steps_cons ?_ (ord.steps_cons ?_ (ord.steps_cons ?_ (ord.steps_cons ?_ (ord.steps_cons ?_ (ord.steps_cons ?_ (ord.steps_cons ?_ (ord.steps_cons ?_ (ord.steps_cons ?_ ord.steps_nil)))))))))))))))))))))))))) ?_
                  --STEPS out
                  · intro o ho x w hb hG
                    obtain rfl := Option.some.inj ho
                    clear ho
                    refine Or.inl ⟨ord.want0 rfl, ?_⟩
                    exact ord.makes_move rfl ⟨Below.refl _ _, rfl⟩
                  · intro o ho x w hb hG
                    obtain rfl := Option.some.inj ho
                    clear ho
                    refine Or.inl ⟨ord.want0 rfl, ?_⟩
                    exact ord.makes_move rfl ⟨Below.refl _ _, rfl⟩
                  · intro o ho x w hb hG
                    obtain rfl := Option.some.inj ho
                    clear ho
                    refine Or.inl ⟨ord.want0 rfl, ?_⟩
                    exact ord.makes_move rfl ⟨Below.refl _ _, rfl⟩
                  · intro o ho x w hb hG
                    obtain rfl := Option.some.inj ho
                    clear ho
                    have h60 : x 1 = .slice (some ⟨g, 0, none⟩) 8 c := hG (1, 60) (List.mem_of_getElem? (i := 1) rfl) rfl
                    have h61 : x 2 = .int .i64 (k : Nat) := hG (2, 61) (List.mem_of_getElem? (i := 2) rfl) rfl
                    refine Or.inl ⟨ord.want0 rfl, ?_⟩
                    exact ord.makes_indexAddr rfl h60 h61 (by exact run_idxI g 8 c k hk8n w) ⟨Below.refl _ _, rfl⟩
                  · intro o ho x w hb hG
                    obtain rfl := Option.some.inj ho
                    clear ho
                    have h62 : x 3 = .pointer (some ⟨g, k, none⟩) := hG (3, 62) (List.mem_of_getElem? (i := 3) rfl) rfl
                    refine Or.inl ⟨ord.want0 rfl, ?_⟩
                    exact ord.makes_load rfl h62 (by exact run_loadI _ xx w (CE.out w hb)) ⟨Below.refl _ _, rfl⟩
                  · intro o ho x w hb hG
                    obtain rfl := Option.some.inj ho
                    clear ho
                    have h63 : x 4 = .int .i64 (xx : Nat) := hG (4, 63) (List.mem_of_getElem? (i := 4) rfl) rfl
                    refine Or.inl ⟨ord.want0 rfl, ?_⟩
                    exact ord.makes_bin rfl h63 rfl (by exact run_quoI _ _ xx 16777216 y1 e1.1 (by decide) (by omega) w) ⟨Below.refl _ _, rfl⟩
                  · intro o ho x w hb hG
                    obtain rfl := Option.some.inj ho
                    clear ho
                    have h64 : x 5 = .int .i64 (y1 : Nat) := hG (5, 64) (List.mem_of_getElem? (i := 5) rfl) rfl
                    refine Or.inl ⟨ord.want0 rfl, ?_⟩
                    exact ord.makes_conv rfl h64 (by exact run_convI8 y1 (D 0) hd0.out w) ⟨Below.refl _ _, rfl⟩
                  · intro o ho x w hb hG
                    obtain rfl := Option.some.inj ho
                    clear ho
                    refine Or.inl ⟨ord.want0 rfl, ?_⟩
                    exact ord.makes_move rfl ⟨Below.refl _ _, rfl⟩
                  · intro o ho x w hb hG
                    obtain rfl := Option.some.inj ho
                    clear ho
                    refine Or.inl ⟨ord.want0 rfl, ?_⟩
                    exact ord.makes_move rfl ⟨Below.refl _ _, rfl⟩
                  · intro o ho x w hb hG
                    obtain rfl := Option.some.inj ho
                    clear ho
                    have h66 : x 7 = .slice (some ⟨g, 0, none⟩) 8 c := hG (7, 66) (List.mem_of_getElem? (i := 7) rfl) rfl
                    have h67 : x 8 = .int .i64 (k : Nat) := hG (8, 67) (List.mem_of_getElem? (i := 8) rfl) rfl
                    refine Or.inl ⟨ord.want0 rfl, ?_⟩
                    exact ord.makes_indexAddr rfl h66 h67 (by exact run_idxI g 8 c k hk8n w) ⟨Below.refl _ _, rfl⟩
                  · intro o ho x w hb hG
                    obtain rfl := Option.some.inj ho
                    clear ho
                    have h68 : x 9 = .pointer (some ⟨g, k, none⟩) := hG (9, 68) (List.mem_of_getElem? (i := 9) rfl) rfl
                    refine Or.inl ⟨ord.want0 rfl, ?_⟩
                    exact ord.makes_load rfl h68 (by exact run_loadI _ xx w (CE.out w hb)) ⟨Below.refl _ _, rfl⟩
                  · intro o ho x w hb hG
                    obtain rfl := Option.some.inj ho
                    clear ho
                    have h69 : x 10 = .int .i64 (xx : Nat) := hG (10, 69) (List.mem_of_getElem? (i := 10) rfl) rfl
                    refine Or.inl ⟨ord.want0 rfl, ?_⟩
                    exact ord.makes_bin rfl h69 rfl (by exact run_quoI _ _ xx 65536 y2 e2.1 (by decide) (by omega) w) ⟨Below.refl _ _, rfl⟩
                  · intro o ho x w hb hG
                    obtain rfl := Option.some.inj ho
                    clear ho
                    have h70 : x 11 = .int .i64 (y2 : Nat) := hG (11, 70) (List.mem_of_getElem? (i := 11) rfl) rfl
                    refine Or.inl ⟨ord.want0 rfl, ?_⟩
                    exact ord.makes_conv rfl h70 (by exact run_convI8 y2 (D 1) hd1.out w) ⟨Below.refl _ _, rfl⟩
                  · intro o ho x w hb hG
                    obtain rfl := Option.some.inj ho
                    clear ho
                    refine Or.inl ⟨ord.want0 rfl, ?_⟩
                    exact ord.makes_move rfl ⟨Below.refl _ _, rfl⟩
                  · intro o ho x w hb hG
                    obtain rfl := Option.some.inj ho
                    clear ho
                    refine Or.inl ⟨ord.want0 rfl, ?_⟩
                    exact ord.makes_move rfl ⟨Below.refl _ _, rfl⟩
                  · intro o ho x w hb hG
                    obtain rfl := Option.some.inj ho
                    clear ho
                    have h72 : x 13 = .slice (some ⟨g, 0, none⟩) 8 c := hG (13, 72) (List.mem_of_getElem? (i := 13) rfl) rfl
                    have h73 : x 14 = .int .i64 (k : Nat) := hG (14, 73) (List.mem_of_getElem? (i := 14) rfl) rfl
                    refine Or.inl ⟨ord.want0 rfl, ?_⟩
                    exact ord.makes_indexAddr rfl h72 h73 (by exact run_idxI g 8 c k hk8n w) ⟨Below.refl _ _, rfl⟩
                  · intro o ho x w hb hG
                    obtain rfl := Option.some.inj ho
                    clear ho
                    have h74 : x 15 = .pointer (some ⟨g, k, none⟩) := hG (15, 74) (List.mem_of_getElem? (i := 15) rfl) rfl
                    refine Or.inl ⟨ord.want0 rfl, ?_⟩
                    exact ord.makes_load rfl h74 (by exact run_loadI _ xx w (CE.out w hb)) ⟨Below.refl _ _, rfl⟩
                  · intro o ho x w hb hG
                    obtain rfl := Option.some.inj ho
                    clear ho
                    have h75 : x 16 = .int .i64 (xx : Nat) := hG (16, 75) (List.mem_of_getElem? (i := 16) rfl) rfl
                    refine Or.inl ⟨ord.want0 rfl, ?_⟩
                    exact ord.makes_bin rfl h75 rfl (by exact run_quoI _ _ xx 256 y3 e3.1 (by decide) (by omega) w) ⟨Below.refl _ _, rfl⟩
                  · intro o ho x w hb hG
                    obtain rfl := Option.some.inj ho
                    clear ho
                    have h76 : x 17 = .int .i64 (y3 : Nat) := hG (17, 76) (List.mem_of_getElem? (i := 17) rfl) rfl
                    refine Or.inl ⟨ord.want0 rfl, ?_⟩
                    exact ord.makes_conv rfl h76 (by exact run_convI8 y3 (D 2) hd2.out w) ⟨Below.refl _ _, rfl⟩
                  · intro o ho x w hb hG
                    obtain rfl := Option.some.inj ho
                    clear ho
                    refine Or.inl ⟨ord.want0 rfl, ?_⟩
                    exact ord.makes_move rfl ⟨Below.refl _ _, rfl⟩
                  · intro o ho x w hb hG
                    obtain rfl := Option.some.inj ho
                    clear ho
                    refine Or.inl ⟨ord.want0 rfl, ?_⟩
                    exact ord.makes_move rfl ⟨Below.refl _ _, rfl⟩
                  · intro o ho x w hb hG
                    obtain rfl := Option.some.inj ho
                    clear ho
                    have h78 : x 19 = .slice (some ⟨g, 0, none⟩) 8 c := hG (19, 78) (List.mem_of_getElem? (i := 19) rfl) rfl
                    have h79 : x 20 = .int .i64 (k : Nat) := hG (20, 79) (List.mem_of_getElem? (i := 20) rfl) rfl
                    refine Or.inl ⟨ord.want0 rfl, ?_⟩
                    exact ord.makes_indexAddr rfl h78 h79 (by exact run_idxI g 8 c k hk8n w) ⟨Below.refl _ _, rfl⟩
                  · intro o ho x w hb hG
                    obtain rfl := Option.some.inj ho
                    clear ho
                    have h80 : x 21 = .pointer (some ⟨g, k, none⟩) := hG (21, 80) (List.mem_of_getElem? (i := 21) rfl) rfl
                    refine Or.inl ⟨ord.want0 rfl, ?_⟩
                    exact ord.makes_load rfl h80 (by exact run_loadI _ xx w (CE.out w hb)) ⟨Below.refl _ _, rfl⟩
                  · intro o ho x w hb hG
                    obtain rfl := Option.some.inj ho
                    clear ho
                    have h81 : x 22 = .int .i64 (xx : Nat) := hG (22, 81) (List.mem_of_getElem? (i := 22) rfl) rfl
                    refine Or.inl ⟨ord.want0 rfl, ?_⟩
                    exact ord.makes_conv rfl h81 (by exact run_convI8 xx (D 3) hd3.out w) ⟨Below.refl _ _, rfl⟩
                  · intro o ho x w hb hG
                    obtain rfl := Option.some.inj ho
                    clear ho
                    have h65 : x 6 = .int .u8 (D 0 : Nat) := hG (6, 65) (List.mem_of_getElem? (i := 6) rfl) rfl
                    have h71 : x 12 = .int .u8 (D 1 : Nat) := hG (12, 71) (List.mem_of_getElem? (i := 12) rfl) rfl
                    have h77 : x 18 = .int .u8 (D 2 : Nat) := hG (18, 77) (List.mem_of_getElem? (i := 18) rfl) rfl
                    have h82 : x 23 = .int .u8 (D 3 : Nat) := hG (23, 82) (List.mem_of_getElem? (i := 23) rfl) rfl
                    refine Or.inl ⟨ord.want0 rfl, ?_⟩
                    exact ord.makes_build4 rfl h65 h71 h77 h82 (run_bytes4 w (D 0) (D 1) (D 2) (D 3)) ⟨(Below.refl _ _).alloc (Nat.le_refl _) _, _, rfl, four_slB w 5 D HDL.out⟩
                  --END STEPS out
                  · intro x5 w5 hb hG
                    have e0 : x5 0 = u9 := hG (0, 59) (List.mem_of_getElem? (i := 0) rfl)
                    obtain ⟨gg, e24, hsl24⟩ : ∃ gg, x5 24 = .slice (some ⟨gg, 0, none⟩) 4 4 ∧ SlB w5 (some ⟨gg, 0, none⟩) 4 D := hG (24, 83) (List.mem_of_getElem? (i := 24) rfl)
                    clear hG
                    simp only [ord.puts, ord.put', List.set_cons_zero, List.set_cons_succ, if_true]
                    rw [e0, e24]
                    simp only [List.drop_succ_cons, List.drop_zero]
                    have HO := Lib.hid (G1.out.keep hb)
                    have HB5 := Lib.hid (G2.out.trans (hb.mono G2.out.size))
                    have HC5 := Lib.hid hsl24
                    clear hb hsl24
                    go_wp2_with (refine wpList_appO rfl (.tmp 59) (.tmp 83) rfl W1.heap.size _ (4 * k) (dig s) rfl HO.out (some ⟨gg, 0, none⟩) 4 4 D rfl HC5.out (fun h => by cases h) (by omega) HB5.out.size (fun j _ => dig_lt s j) (fun j _ => HDL.out j) ?_; intro A4 c4 w4 h1 h2 h3 h4; have HO6 := Lib.hid (OwnB.congr (g := dig s) h1 fun j hj => by unfold catB; by_cases e : j < 4 * k; rw [if_pos e]; rw [if_neg e, HDE.out, show 4 * k + (j - 4 * k) = j by omega]); have HB6 := Lib.hid (HB5.out.trans h4); clear h1 h2 h3 h4)
                    go_roundw
                    case rel => exact ⟨k + 1, by omega, by go_num, HO6.out, HB6.out⟩
                    case measure => simp [intOf]; omega
                · obtain rfl : k = 8 := by omega
                  obtain ⟨A9, c9, rfl, hsl9⟩ := OwnB.slice G1.out (fun j _ => dig_lt s j)
                  have HS9 := Lib.hid hsl9
                  clear hsl9
                  go_wp2_with fail
                  go_ret
                  exact ⟨A9, c9, rfl, ⟨HS9.out.congr fun j _ => (HEND.out j).symm, (G1.out.less KB.out.size).congr fun j _ => (HEND.out j).symm⟩, KB.out.trans (G2.out.mono KB.out.size)⟩
    · have hb : ((m : Int) % 64 != 56) = true := by simp; omega
      have HLm := Lib.hid (show m + 1 ≤ padL n - 8 by have := HPL.out; omega)
      have HMS := Lib.hid (show padL n - 8 - (m + 1) < padL n - 8 - m by have := HLm.out; omega)
      have HO3 := Lib.hid (H1.out.alloc (.cells #[.int .u8 ((0 : Nat) : Int)] 5))
      have HB3 := Lib.hid (H2.out.alloc H2.out.size (.cells #[.int .u8 ((0 : Nat) : Int)] 5))
      clear hr
      go_wp2_with (refine wpList_appO rfl (.tmp 20) (.tmp 21) rfl w.heap.size _ m (padf n f) rfl HO3.out (some ⟨_, 0, none⟩) 1 1 (fun _ => 0) rfl (HZ.out _) (fun h => by cases h) (by omega) HB3.out.size (HPB.out m) (fun _ _ => by decide) ?_; intro A4 c4 w4 h1 h2 h3 h4; have HO4 := Lib.hid (OwnB.congr (g := padf n f) h1 fun j hj => by unfold catB; by_cases e : j < m; rw [if_pos e]; rw [if_neg e, padf_zero n f j (by omega) (by have := HLm.out; omega)]); have HB4 := Lib.hid (HB3.out.trans h4); clear h1 h2 h3 h4)
      go_roundw
      case rel => exact ⟨m + 1, A4, c4, by omega, HLm.out, rfl, HO4.out, HB4.out⟩
      case measure => exact HMS.out
theorem rsum_any (A : Option Addr) (n cap : Nat) (f : Nat → Nat) (w : World) (hn : n ≤ 10000000000000) (hA : SlB w A n f) (hnil : A = none → n = 0 ∧ cap = 0) :
    Calls Tryd.prog 26 #[.slice A n cap] w fun e w' => ∃ A' c', e = .returned (.slice A' 32 c') ∧ SlB w' A' 32 (sha n f) ∧ Below w.heap.size w w' :=
  (rsum_own A n cap f w hn hA hnil).mono fun _ _ ⟨A', c', he, h, hb⟩ => ⟨A', c', he, h.1, hb⟩
end Go.Proofs.YtogcfaijphpgfaaDoor
